/- Scan on both sides. -/
import Derived.Test.YtajigcbpooblbaaTg
import Derived.Test.YtajigcbpooblbaaTh
namespace Go.Proofs.Ytajigcbpooblbaa
namespace Vo
open Go.ChangeShapes Go.WideShapes Go.ChangeAt Go.RowKit Go.Joins Go.Sort
open Vl Vp Vr
set_option linter.unusedVariables false
set_option linter.unusedSimpArgs false

/-- sums of the first ones -/
def scanS (L : Nat → Int) : Nat → Int | 0 => 0 | n + 1 => (scanS L n + L n) % 2147483647
def scanG (L : Nat → Int) (k : Nat) : Int := scanS L (k + 1)
theorem scanS_rng (L : Nat → Int) (n : Nat) : 0 ≤ scanS L n ∧ scanS L n < 2147483647 := by
  cases n with
  | zero => simp [scanS]
  | succ n => unfold scanS; omega
theorem lineAt_od {r s k : Nat} {D S : Nat → Int} (hd : dok r D = true) (hk : k < r) (j : Nat) (hj : (j : Int) < szR D r) : (fun u => S (od D (up1 (dg D r j) k u) r).toNat : Nat → Int) = lineAt S (D k) (bhd D r k) (D k) j := by
  obtain ⟨e1, e2⟩ := dok_pr hd
  funext u
  have := od_moved (a := k) hk e2 (D k) (u : Int) (j : Int) (by omega) (by omega)
  rw [up1_self] at this
  unfold lineAt
  rw [this]
theorem lineP_same {r s : Nat} {D S : Nat → Int} {k : Nat} {G : (Nat → Int) → Nat → Int} (ht : tok r s D S = true) (hk : k < r) :
    lineP r s D S (k : Int) (D k) G = ⟨r, s, D, fun j => G (lineAt S (D k) (bhd D r k) (D k) j) ((j : Int) / bhd D r k % D k).toNat⟩ := by
  obtain ⟨td, ts, tw⟩ := tok_split ht
  rw [lineP_yes ht hk (by rw [up1_self]; exact td), up1_self]
  have : cntT r D = s := by unfold cntT; omega
  rw [this]
/-- a tensor that was answered, stored in the result -/
theorem tens_end {B P : Nat} {v : PT} {w w2 : World} {a b : Option Addr} {c d : Nat} (h : VOwn B w2 a b v.r v.s v.D v.S) (hP : P < B) (hw : w.heap.size ≤ P) (hb : Below w.heap.size w w2) :
    TensR w.heap.size v w (.returned (.agg #[.slice a v.r c, .slice b v.s d])) ((w2.setCell ⟨P, 0, none⟩ (.slice a v.r c)).setCell ⟨P, 1, none⟩ (.slice b v.s d)) := by
  have k2 := kept_sets2 w2 P (.slice a v.r c) (.slice b v.s d)
  refine ⟨a, b, c, d, rfl, (h.kept k2 (fun k q e => ?_)).mono (by omega), hb.trans (k2.below hb.size (fun j e => by have e : j = P := e; omega))⟩
  have := (h.blk q).1
  have e : k = P := e
  omega
set_option maxHeartbeats 1000000 in
theorem scan1 (len : Nat) (hlen : (len : Int) ≤ 4096) (w : World) : LineF 41 #[] len len scanG w := by
  intro W g m L hb hg hm hgm hL rl rm
  show Calls Try.prog 41 #[.slice (some ⟨g, 0, none⟩) len len, .slice (some ⟨m, 0, none⟩) len len] W _
  have HL := hide hL
  have RL := hide rl
  have RM := hide rm
  clear hL rl rm hb
  go_enter Try.func41, Try.ntmps41
  go_wp2_with fail
  go_loopw [4, 9] (fun v i wx => ∃ t : Nat, t ≤ len ∧ i = .int .i64 t ∧ v = .int .i64 (scanS L t) ∧ Rw wx g len L ∧ Rw wx m len (fun u => if u < t then scanG L u else 0) ∧ Kept (· = m) W wx) (fun _ i _ => len - (intOf i).toNat)
  case atStart => exact ⟨0, Nat.zero_le _, rfl, rfl, RL.out, RM.out.same (fun u hu => by simp), Kept.refl _ _⟩
  case round =>
    obtain ⟨t, ht, rfl, rfl, hrl, hrm, hkp⟩ := hrel
    have HRL := hide hrl
    have HRM := hide hrm
    have HKP := hide hkp
    clear hrl hrm hkp
    by_cases hlt : t < len
    · have tI : (t : Int) < len := by omega
      obtain ⟨c1, f1, _⟩ := HRL.out t hlt
      obtain ⟨c2, f2, _⟩ := HRM.out t hlt
      have b1 := HL.out t hlt
      have b2 := scanS_rng L t
      go_wp2_with fail
      refine (Base.implPlus (scanS L t) (L t) _ (by omega) (by omega) (by omega) (by omega)).mono ?_
      rintro e w1 ⟨rfl, rfl⟩
      have es := hide (show scanS L (t + 1) = (scanS L t + L t) % 2147483647 from rfl)
      have b3 := scanS_rng L (t + 1)
      rw [← es.out]
      go_wp2_with fail
      go_roundw
      case rel => exact ⟨t + 1, by omega, by go_num, rfl, HRL.out.kept (Kept.setCell _ ⟨m, t, none⟩ _) (by show ¬ g = m; exact hgm), (HRM.out.set t (scanS L (t + 1)) (by unfold bd; omega)).same (fun u hu => by
        by_cases c : u = t
        · subst c; simp [scanG]
        · by_cases c2 : u < t <;> simp [c, c2] <;> omega), HKP.out.trans (Kept.setCell _ ⟨m, t, none⟩ _)⟩
      case measure => simp [intOf]; omega
    · obtain rfl : t = len := by omega
      go_wp2_with fail
      exact bodyPost_end (results_none rfl _ _ _) rfl ⟨⟨_, rfl⟩, HRM.out.same (fun u hu => by simp [hu]), HKP.out⟩
set_option maxRecDepth 100000 in
set_option maxHeartbeats 1000000 in
theorem scanF (B : Nat) (a b : Option Addr) (r s cap dap : Nat) (D S : Nat → Int) (x : Int) (w : World) (hB : B ≤ w.heap.size) (h : Ints B w a r D) (h' : Ints B w b s S) (hr : (r : Int) ≤ 1048576) (hs : (s : Int) ≤ 1048576) (hcap : r ≤ cap) :
    Calls Try.prog 12 #[.agg #[.slice a r cap, .slice b s dap], .int .i64 x] w fun e w' => TensR w.heap.size (lineP r s D S x (lenA r s D S x) scanG) w e w' := by
  obtain ⟨W0, hW0⟩ : ∃ W0, (w.alloc (.cells #[.slice a r cap, .slice b s dap] 26)).alloc (.cells #[.slice none 0 0, .slice none 0 0] 26) = W0 := ⟨_, rfl⟩
  have hs0 : W0.heap.size = w.heap.size + 1 + 1 := by rw [← hW0]; simp
  have bl : Below w.heap.size w W0 := by rw [← hW0]; exact ((Below.refl _ _).alloc (Nat.le_refl _) _).alloc (by simp) _
  have n0 : Bx W0 w.heap.size (.slice a r cap) (.slice b s dap) := by
    rw [← hW0]; exact (bx_new w (.slice a r cap) (.slice b s dap) 26).below ((Below.refl (w.heap.size + 1) _).alloc (by simp) _) (by omega)
  have m0 : Bx W0 (w.heap.size + 1) (.slice none 0 0) (.slice none 0 0) := by
    have q := bx_new (w.alloc (.cells #[.slice a r cap, .slice b s dap] 26)) (.slice none 0 0) (.slice none 0 0) 26
    rw [World.size_alloc] at q
    rw [← hW0]; exact q
  have g0 : Free W0 (w.heap.size + 1) := by
    have q := free_new (w.alloc (.cells #[.slice a r cap, .slice b s dap] 26)) #[.slice none 0 0, .slice none 0 0] 26
    rw [World.size_alloc] at q
    rw [← hW0]; exact q
  have H := hide (h.below (bl.mono hB))
  have H' := hide (h'.below (bl.mono hB))
  have BL := hide bl
  have HS0 := hide hs0
  have N0 := hide n0
  have M0 := hide m0
  have G0 := hide g0
  have LA := hide (lenA_rng r s D S x)
  obtain ⟨x0, x1⟩ := n0
  clear h h' bl m0 g0 hs0
  go_enter Try.func12, Try.ntmps12
  go_wp2_with fail
  clear hW0
  go_region_with (first
    | (go_at_call 40
       refine (lengthAt B a b r s cap dap D S x W0.drew (by have := HS0.out; show B ≤ W0.heap.size; omega) H.out H'.out hr hs).mono ?_
       rintro e w1 ⟨rfl, b1⟩
       have N1 := hide (Bx.below (w := W0.drew) N0.out b1 (by have := HS0.out; show w.heap.size < W0.heap.size; omega))
       have M1 := hide (Bx.below (w := W0.drew) M0.out b1 (by have := HS0.out; show w.heap.size + 1 < W0.heap.size; omega))
       have G1 := hide (Free.below (w := W0.drew) G0.out b1 (by have := HS0.out; show w.heap.size + 1 < W0.heap.size; omega))
       have B1 := hide (BL.out.drew.trans (b1.mono BL.out.size))
       have H1 := hide (Ints.below (w := W0.drew) H.out (b1.mono (by have := HS0.out; show B ≤ W0.heap.size; omega)))
       have H1' := hide (Ints.below (w := W0.drew) H'.out (b1.mono (by have := HS0.out; show B ≤ W0.heap.size; omega)))
       have s1 : w.heap.size + 1 < w1.heap.size := by have := HS0.out; have := b1.size; have e : W0.drew.heap.size = W0.heap.size := rfl; omega
       obtain ⟨x0', x1'⟩ := N1.out)
    | (go_at_call 39
       refine (linewise 41 #[] scanG B a b r s cap dap D S x (lenA r s D S x) w1 (by omega) H1.out H1'.out hr hs hcap (by have := LA.out; unfold bd; omega) (enters_of Try.func41 (by kernel_rfl) rfl) (fun len N e1 e2 _ _ => by
         have e3 : len = N := by omega
         subst e3
         exact scan1 len (by have := LA.out; omega) w1)).mono ?_
       rintro e w2 ⟨ta, tb, tc, td, rfl, tz, b2⟩
       have M2 := hide (M1.out.below b2 (by omega))
       have G2 := hide (G1.out.below b2 (by omega))
       have B2 := hide (B1.out.trans (b2.mono B1.out.size))
       have TO := hide tz
       obtain ⟨y0, y1⟩ := M2.out
       have gg := G2.out
       unfold Free at gg))
  all_goals (go_wp2_with fail)
  all_goals exact bodyPost_ret (v := .agg #[.slice ta (lineP r s D S x (lenA r s D S x) scanG).r tc, .slice tb (lineP r s D S x (lenA r s D S x) scanG).s td]) (by simp [results, Try.results12, go_sem, y0, y1]) rfl (tens_end TO.out s1 (by omega) B2.out)
set_option maxRecDepth 100000 in
set_option maxHeartbeats 2000000 in
theorem specScan (B : Nat) (a : Addr) (b : Option Addr) (r s cap dap : Nat) (D S : Nat → Int) (x : Int) (w : World) (hB : B ≤ w.heap.size) (h : Ints B w (some a) r D) (h' : Ints B w b s S) (hr : (r : Int) ≤ 1048576) (hs : (s : Int) ≤ 1048576) :
    Calls Try.prog 10 #[.agg #[.slice (some a) r cap, .slice b s dap], .int .i64 x] w fun e w' => TensR w.heap.size (lineP r s D S x (lenA r s D S x) scanG) w e w' := by
  obtain ⟨W0, hW0⟩ : ∃ W0, (w.alloc (.cells #[.slice (some a) r cap, .slice b s dap] 26)).alloc (.cells #[.slice none 0 0, .slice none 0 0] 26) = W0 := ⟨_, rfl⟩
  have hs0 : W0.heap.size = w.heap.size + 1 + 1 := by rw [← hW0]; simp
  have bl : Below w.heap.size w W0 := by rw [← hW0]; exact ((Below.refl _ _).alloc (Nat.le_refl _) _).alloc (by simp) _
  have n0 : Bx W0 w.heap.size (.slice (some a) r cap) (.slice b s dap) := by
    rw [← hW0]; exact (bx_new w (.slice (some a) r cap) (.slice b s dap) 26).below ((Below.refl (w.heap.size + 1) _).alloc (by simp) _) (by omega)
  have m0 : Bx W0 (w.heap.size + 1) (.slice none 0 0) (.slice none 0 0) := by
    have q := bx_new (w.alloc (.cells #[.slice (some a) r cap, .slice b s dap] 26)) (.slice none 0 0) (.slice none 0 0) 26
    rw [World.size_alloc] at q
    rw [← hW0]; exact q
  have g0 : Free W0 (w.heap.size + 1) := by
    have q := free_new (w.alloc (.cells #[.slice (some a) r cap, .slice b s dap] 26)) #[.slice none 0 0, .slice none 0 0] 26
    rw [World.size_alloc] at q
    rw [← hW0]; exact q
  have H := hide (h.below (bl.mono hB))
  have H' := hide (h'.below (bl.mono hB))
  have BL := hide bl
  have HS0 := hide hs0
  have N0 := hide n0
  have M0 := hide m0
  have G0 := hide g0
  obtain ⟨x0, x1⟩ := n0
  clear h h' bl m0 g0 hs0
  go_enter Try.func10, Try.ntmps10
  go_wp2_with fail
  clear hW0
  refine (l4Axis B (some a) b r s cap dap D S x _ (by have := HS0.out; omega) H.out H'.out hr hs).mono ?_
  rintro e w1 ⟨rfl, b1⟩
  have z0 := HS0.out
  have N1 := hide (N0.out.below b1 (by omega))
  have M1 := hide (M0.out.below b1 (by omega))
  have G1 := hide (G0.out.below b1 (by omega))
  have B1 := hide (BL.out.trans (b1.mono BL.out.size))
  have H1 := hide (H.out.below (b1.mono (by omega)))
  have H1' := hide (H'.out.below (b1.mono (by omega)))
  have s1 : w.heap.size + 1 < w1.heap.size := by have := b1.size; omega
  clear b1 x0 x1 z0
  obtain ⟨x0, x1⟩ := N1.out
  obtain ⟨y0, y1⟩ := M1.out
  have gg := G1.out
  unfold Free at gg
  by_cases hx : tok r s D S = true ∧ 0 ≤ x ∧ x < r
  rotate_left
  · have ez := hide (lineP_no (n := lenA r s D S x) (G := scanG) (fun q => hx q.1))
    rw [decide_eq_false hx]
    clear hx
    go_wp2_with fail
    refine bodyPost_ret (v := .agg #[.slice none 0 0, .slice none 0 0]) (by simp [results, Try.results10, go_sem, y0, y1]) rfl (by
      rw [ez.out]
      refine tensR_zero ?_
      repeat (refine Below.setCell ?_ (by simp) _)
      exact B1.out)
  rw [decide_eq_true hx]
  obtain ⟨ht, hx0, hx1⟩ := hx
  obtain ⟨k, rfl⟩ : ∃ k : Nat, x = k := ⟨x.toNat, by omega⟩
  have hk : k < r := by omega
  have hl : lenA r s D S (k : Int) = D k := by rw [lenA_yes ⟨ht, hx0, hx1⟩, Int.toNat_natCast]
  obtain ⟨td, ts, tw⟩ := tok_split ht
  obtain ⟨dk0, dk1⟩ := dok_len td hk
  have ez := hide (show lineP r s D S (k : Int) (lenA r s D S (k : Int)) scanG = ⟨r, s, D, fun j => scanG (lineAt S (D k) (bhd D r k) (D k) j) ((j : Int) / bhd D r k % D k).toNat⟩ from (congrArg (fun z => lineP r s D S (k : Int) z scanG) hl).trans (lineP_same ht hk))
  obtain ⟨len, hlen⟩ : ∃ len : Nat, D k = len := ⟨(D k).toNat, by omega⟩
  obtain ⟨V, hV⟩ : ∃ V : Nat → Int, (fun j => scanG (lineAt S (D k) (bhd D r k) (D k) j) ((j : Int) / bhd D r k % D k).toNat : Nat → Int) = V := ⟨_, rfl⟩
  rw [hV] at ez
  have l1 : 1 ≤ len := by omega
  have l2 : len ≤ 4096 := by omega
  have r6 : r ≤ 6 := (dok_iff.1 td).1
  have lS : (s : Int) ≤ 4096 := by rw [← ts]; exact (szR_rng D r).2
  have HT := hide ht
  have TD := hide td
  have TS := hide ts
  have TW := hide tw
  have DK := hide hlen
  have HV := hide hV
  clear ht hx0 hx1 td ts tw dk0 dk1 hlen hl hV
  go_wp2_with fail
  refine (l4New B a r cap s D _ (by omega) H1.out hr TS.out lS).mono ?_
  rintro e w2 ⟨va, vc, g, rfl, ov, rg, lg, hg, hne, b2⟩
  have sb := b2.size
  obtain ⟨W2, hW2⟩ : ∃ W2, w2.alloc (.cells #[.slice va r vc, .slice (some ⟨g, 0, none⟩) s s] 26) = W2 := ⟨_, rfl⟩
  have b3 : Below w2.heap.size w2 W2 := by rw [← hW2]; exact (Below.refl _ _).alloc (Nat.le_refl _) _
  have z2 : W2.heap.size = w2.heap.size + 1 := by rw [← hW2]; simp
  have T2 := hide (show Bx W2 w2.heap.size (.slice va r vc) (.slice (some ⟨g, 0, none⟩) s s) by rw [← hW2]; exact bx_new w2 _ _ _)
  have N2 := hide ((N1.out.below b2 (by omega)).below b3 (by omega))
  have M2 := hide ((M1.out.below b2 (by omega)).below b3 (by omega))
  have G2 := hide ((G1.out.below b2 (by omega)).below b3 (by omega))
  have H2 := hide ((H1.out.below (b2.mono (by omega))).below (b3.mono (by omega)))
  have H2' := hide ((H1'.out.below (b2.mono (by omega))).below (b3.mono (by omega)))
  have B2 := hide ((B1.out.trans (b2.mono B1.out.size)).trans (b3.mono (by omega)))
  have OV := hide (ov.below b3)
  have RG := hide (rg.below b3 hg)
  have HNE := hide hne
  have Z2 := hide z2
  have zg : w.heap.size + 1 < g := by omega
  have z3 : w.heap.size + 1 < w2.heap.size := by omega
  clear ov rg b2 b3 sb hne z2 x0 x1 y0 y1 gg
  obtain ⟨x0, x1⟩ := N2.out
  go_wp2_with fail
  clear hW2
  go_loopw [6] (fun i wx => ∃ j : Nat, j ≤ s ∧ i = .int .i64 j ∧ Bx wx w2.heap.size (.slice va r vc) (.slice (some ⟨g, 0, none⟩) s s) ∧ Bx wx w.heap.size (.slice (some a) r cap) (.slice b s dap) ∧ Rw wx g s (fun t => if t < j then V t else 0) ∧ Kept (· = g) W2 wx) (fun i _ => s - (intOf i).toNat)
  case atStart => exact ⟨0, Nat.zero_le _, rfl, T2.out, N2.out, RG.out.same (fun t ht => by simp), Kept.refl _ _⟩
  case round =>
    obtain ⟨X, rfl⟩ : ∃ X, X = wr := ⟨_, rfl⟩
    obtain ⟨j, hj, rfl, hbx, hbt, hrw, hkp⟩ := hrel
    have HBX := hide hbx
    have HBT := hide hbt
    have HRW := hide hrw
    have HKP := hide hkp
    have lX : w2.heap.size + 1 ≤ X.heap.size := by have := HKP.out.size; have := Z2.out; omega
    clear x0 x1
    obtain ⟨x0, x1⟩ := hbt
    clear hrw hkp hbx
    by_cases hlt : j < s
    · have jI : (j : Int) < s := by omega
      have HA := hide (H2.out.kept (by have := Z2.out; omega) HKP.out (fun y hy e => by have e : y = g := e; omega))
      have HA' := hide (H2'.out.kept (by have := Z2.out; omega) HKP.out (fun y hy e => by have e : y = g := e; omega))
      have HD := hide (fun i hi => dok_len TD.out (j := i) hi)
      go_wp2_with fail
      refine (l3Index B (some a) r cap D j _ HA.out (by omega) (by omega) HD.out (by omega) (by omega)).mono ?_
      rintro e X1 ⟨rfl, ra, sa, ba⟩
      have HBT1 := hide (HBT.out.below ba (by omega))
      have HB1 := hide (HA.out.below (ba.mono (by omega)))
      have HB1' := hide (HA'.out.below (ba.mono (by omega)))
      have RA := hide ra
      have BA := hide ba
      have dgr := dg_rng D r (fun i hi => (HD.out i hi).1) (j : Int)
      have DG := hide dgr
      clear ra ba dgr x0 x1
      obtain ⟨x0, x1⟩ := HBT1.out
      go_wp2_with fail
      refine (l4Line X1.heap.size (some a) b _ r s cap dap k r len D S (dg D r j) _ (Nat.le_refl _) (HB1.out.mono (by omega)) (HB1'.out.mono (by omega)) (RA.out.ints sa) HT.out DG.out hk DK.out).mono ?_
      rintro e X2 ⟨gl, cl, rfl, hgl, lgl, rl, b5⟩
      rw [lineAt_od (s := s) TD.out hk j (by rw [TS.out]; omega)] at rl
      obtain ⟨L, hL⟩ : ∃ L, lineAt S (D k) (bhd D r k) (D k) j = L := ⟨_, rfl⟩
      rw [hL] at rl
      obtain ⟨av, hav⟩ : ∃ av : Nat, dg D r j k = av := ⟨(dg D r j k).toNat, by have := DG.out k hk; omega⟩
      have av1 : av < len := by have := DG.out k hk; have := DK.out; omega
      have VE := hide (show V j = scanG L av by
        rw [← HV.out]
        show scanG (lineAt S (D k) (bhd D r k) (D k) j) ((j : Int) / bhd D r k % D k).toNat = _
        have e2 := dok_pr TD.out
        rw [hL, ← dg_axis hk e2.2 (j : Int) (by omega) (by rw [← e2.1, TS.out]; omega), hav, Int.toNat_natCast])
      have hLr := hide (show WI len L 2147483647 from fun u hu => by
        rw [← hL]
        have e2 := dok_pr TD.out
        have m1 := mv_rng (l := D k) (b := bhd D r k) (n := D k) (x := (u : Int)) (j := (j : Int)) (A := pr D k) (bhd_pos e2.2) (by have := DK.out; omega) (by omega) (by have := DK.out; omega) (by omega) (by rw [← pr_axis D hk, ← e2.1, TS.out]; omega)
        rw [← pr_axis D hk, ← e2.1, TS.out] at m1
        exact TW.out _ (by omega))
      have RL := hide rl
      have RA2 := hide (RA.out.below b5 sa)
      have HBX2 := hide ((HBX.out.below BA.out (by omega)).below b5 (by omega))
      have HBT2 := hide (HBT1.out.below b5 (by omega))
      have HRW2 := hide ((HRW.out.below BA.out (by omega)).below b5 (by omega))
      have KX := hide (show Kept (· = g) W2 X2 from (HKP.out.trans (Kept.of_below BA.out)).trans (Kept.of_below b5))
      have lX2 : X1.heap.size ≤ X2.heap.size := b5.size
      obtain ⟨ca, _, _⟩ := RA2.out k hk
      rw [hav] at ca
      have kI : (k : Int) < r := by omega
      clear rl b5 hL hav x0 x1
      obtain ⟨u0, u1⟩ := HBX2.out
      go_wp2_with fail
      go_loopw [9, 10] (fun v i wx => ∃ t : Nat, t ≤ av + 1 ∧ i = .int .i64 t ∧ v = .int .i64 (scanS L t) ∧ wx = X2) (fun _ i _ => av + 1 - (intOf i).toNat)
      case atStart => exact ⟨0, Nat.zero_le _, rfl, rfl, rfl⟩
      case round =>
        obtain ⟨t, ht, rfl, rfl, hw⟩ := hrel
        subst hw
        by_cases htl : t ≤ av
        · have tI : decide ((t : Int) ≤ av) = true := decide_eq_true (by omega)
          have tl : (t : Int) < len := by omega
          obtain ⟨c1, f1, _⟩ := RL.out t (by omega)
          have q1 := hLr.out t (by omega)
          have q2 := scanS_rng L t
          go_wp2_with fail
          refine (Base.specPlus (scanS L t) (L t) _ (by omega) (by omega) (by omega) (by omega)).mono ?_
          rintro e w1 ⟨rfl, rfl⟩
          go_wp2_with fail
          go_roundw
          case rel => exact ⟨t + 1, by omega, by go_num, rfl, by first | rfl | trivial⟩
          case measure => simp [intOf]; omega
        · have tI : decide ((t : Int) ≤ av) = false := decide_eq_false (by omega)
          obtain rfl : t = av + 1 := by omega
          obtain ⟨c2, f2, _⟩ := HRW2.out j hlt
          have bV := scanS_rng L (av + 1)
          have ES := hide (show scanS L (av + 1) = V j by rw [VE.out]; rfl)
          go_wp2_with fail
          go_roundw
          case rel =>
            exact ⟨j + 1, by omega, by go_num, HBX2.out.kept (Kept.setCell _ ⟨g, j, none⟩ _) (by omega) (by show ¬ w2.heap.size = g; omega), HBT2.out.kept (Kept.setCell _ ⟨g, j, none⟩ _) (by omega) (by show ¬ w.heap.size = g; omega), (HRW2.out.set j (scanS L (av + 1)) (by unfold bd; omega)).same (fun t ht => by rw [ES.out]; by_cases c : t = j <;> by_cases c2 : t < j <;> simp [c, c2] <;> omega), KX.out.trans (Kept.setCell _ ⟨g, j, none⟩ _)⟩
          case measure => simp [intOf]; omega
    · have e : j = s := by omega
      have kp := HKP.out
      have n1 : ¬ w.heap.size + 1 = g := by omega
      have M3 := hide (M2.out.kept kp (by have := Z2.out; omega) n1)
      have G3 := hide (G2.out.kept kp (by have := Z2.out; omega) n1)
      have OV3 := hide (OV.out.kept kp (fun b q e => HNE.out b q e))
      have B3 := hide (B2.out.trans (kp.below B2.out.size (fun j e => by have e : j = g := e; omega)))
      have R3 := hide (HRW.out.same (E := V) (fun t ht => by simp; intro; omega))
      have u := HBX.out
      clear kp
      obtain ⟨u0, u1⟩ := u
      obtain ⟨y0, y1⟩ := M3.out
      have gg := G3.out
      unfold Free at gg
      go_wp2_with fail
      refine bodyPost_ret (v := .agg #[.slice va r vc, .slice (some ⟨g, 0, none⟩) s s]) (by simp [results, Try.results10, go_sem, y0, y1]) rfl ?_
      show TensR w.heap.size (lineP r s D S (k : Int) (lenA r s D S (k : Int)) scanG) w _ _
      rw [ez.out]
      exact tens_end (v := ⟨r, s, D, V⟩) (B := w.heap.size + 1 + 1) ⟨OV3.out.mono (by omega), .inr ⟨g, rfl, by omega, R3.out⟩, fun j q1 q2 => by
          obtain ⟨_, ad, e', e''⟩ := q2
          injection e' with e'
          subst e'
          have e'' : g = j := e''
          exact HNE.out j q1 e''.symm⟩ (by omega) (by omega) B3.out
end Vo
end Go.Proofs.Ytajigcbpooblbaa
