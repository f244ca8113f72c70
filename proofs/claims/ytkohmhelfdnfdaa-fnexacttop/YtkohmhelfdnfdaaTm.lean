/- Top on both sides. -/
import Derived.Test.YtkohmhelfdnfdaaTi
import Derived.Test.YtkohmhelfdnfdaaPow
namespace Go.Proofs.Ytkohmhelfdnfdaa
namespace Vo
open Go.ChangeShapes Go.WideShapes Go.ChangeAt Go.RowKit Go.Joins Go.Sort
open Vl Vp Vr
set_option linter.unusedVariables false
set_option linter.unusedSimpArgs false

def sgn (x : Int) : Int := Base.sg (x % 2147483647)
/-- the place of the greatest of the first n, the first of these -/
def tp (L : Nat → Int) : Nat → Nat | 0 => 0 | n + 1 => if sgn (L (tp L n)) < sgn (L n) then n else tp L n
theorem tp_le (L : Nat → Int) (n : Nat) : tp L n ≤ n := by
  induction n with
  | zero => exact Nat.le_refl _
  | succ n ih => unfold tp; split <;> omega
theorem tp_facts (L : Nat → Int) (n : Nat) : tp L (n + 1) < n + 1 ∧ (∀ u, u < n + 1 → sgn (L u) ≤ sgn (L (tp L (n + 1)))) ∧ ∀ u, u < tp L (n + 1) → sgn (L u) < sgn (L (tp L (n + 1))) := by
  induction n with
  | zero =>
    have e : tp L 1 = 0 := by unfold tp; rw [if_neg (by unfold tp; omega)]; rfl
    rw [e]
    exact ⟨by omega, fun u hu => by obtain rfl : u = 0 := by omega
                                    exact Int.le_refl _, fun u hu => by omega⟩
  | succ n ih =>
    obtain ⟨h1, h2, h3⟩ := ih
    by_cases c : sgn (L (tp L (n + 1))) < sgn (L (n + 1))
    · have e : tp L (n + 1 + 1) = n + 1 := by rw [tp, if_pos c]
      rw [e]
      refine ⟨by omega, fun u hu => ?_, fun u hu => by have := h2 u hu; omega⟩
      by_cases cu : u = n + 1
      · rw [cu]; exact Int.le_refl _
      · have := h2 u (by omega); omega
    · have e : tp L (n + 1 + 1) = tp L (n + 1) := by rw [tp, if_neg c]
      rw [e]
      refine ⟨by omega, fun u hu => ?_, h3⟩
      by_cases cu : u = n + 1
      · rw [cu]; omega
      · exact h2 u (by omega)
def beat (L : Nat → Int) (u k : Nat) : Prop := sgn (L k) < sgn (L u) ∨ (sgn (L u) = sgn (L k) ∧ u < k)
instance (L : Nat → Int) (u k : Nat) : Decidable (beat L u k) := by unfold beat; infer_instance
def topG (len : Nat) (L : Nat → Int) (k : Nat) : Int := if ∀ u, u < len → ¬ beat L u k then 1 else 0
theorem topG_eq {len : Nat} (hl : 1 ≤ len) (L : Nat → Int) {k : Nat} (hk : k < len) : topG len L k = if k = tp L len then 1 else 0 := by
  obtain ⟨n, rfl⟩ : ∃ n, len = n + 1 := ⟨len - 1, by omega⟩
  obtain ⟨h1, h2, h3⟩ := tp_facts L n
  unfold topG
  refine ite_iff ⟨fun q => ?_, ?_⟩ _ _
  · have q1 := q _ h1
    unfold beat at q1
    have := h2 k hk
    rcases Nat.lt_trichotomy k (tp L (n + 1)) with c | c | c
    · have := h3 k c; omega
    · exact c
    · exact absurd (.inr ⟨by omega, c⟩) q1
  · rintro rfl u hu q
    unfold beat at q
    have := h2 u hu
    rcases q with q | ⟨_, q⟩
    · omega
    · have := h3 u q; omega
set_option maxHeartbeats 1000000 in
theorem top1 (len : Nat) (l1 : 1 ≤ len) (hlen : (len : Int) ≤ 4096) (w : World) : LineF 35 #[] len len (topG len) w := by
  intro W g m L hb hg hm hgm hL rl rm
  show Calls Try.prog 35 #[.slice (some ⟨g, 0, none⟩) len len, .slice (some ⟨m, 0, none⟩) len len] W _
  have HL := hide hL
  have RL := hide rl
  have RM := hide rm
  clear hL rl rm hb
  go_enter Try.func35, Try.ntmps35
  go_wp2_with fail
  go_loopw [4, 9] (fun v i wx => ∃ t : Nat, t ≤ len ∧ i = .int .i64 t ∧ v = .int .i64 (tp L t : Nat) ∧ Rw wx g len L ∧ Rw wx m len (fun _ => 0) ∧ Kept (fun _ => False) W wx) (fun _ i _ => len - (intOf i).toNat)
  case atStart => exact ⟨0, Nat.zero_le _, rfl, rfl, RL.out, RM.out, Kept.refl _ _⟩
  case round =>
    obtain ⟨t, ht, rfl, rfl, hrl, hrm, hkp⟩ := hrel
    have HRL := hide hrl
    have HRM := hide hrm
    have HKP := hide hkp
    clear hrl hrm hkp
    have le := tp_le L t
    by_cases hlt : t < len
    · have tI : (t : Int) < len := by omega
      obtain ⟨c1, f1, _⟩ := HRL.out t hlt
      have b1 := HL.out t hlt
      have b2 := HL.out (tp L t) (by omega)
      obtain ⟨p, hp⟩ : ∃ p, tp L t = p := ⟨_, rfl⟩
      have TS := hide (show tp L (t + 1) = if sgn (L p) < sgn (L t) then t else p by rw [tp, hp])
      rw [hp] at b2 le ⊢
      obtain ⟨c2, f2, _⟩ := HRL.out p (by omega)
      obtain ⟨y, hy⟩ : ∃ y, Base.sg (L t % 2147483647) = y := ⟨_, rfl⟩
      obtain ⟨z, hz⟩ : ∃ z, Base.sg (L p % 2147483647) = z := ⟨_, rfl⟩
      have CS := hide (fun (W : World) (x v : Int) (h : (x = L t ∧ v = y) ∨ (x = L p ∧ v = z)) => show Calls Try.prog 36 #[.int .i64 x] W fun e w' => e = .returned (.int .i64 v) ∧ w' = W by
        rcases h with ⟨rfl, rfl⟩ | ⟨rfl, rfl⟩
        · rw [← hy]; exact Base.implSigned _ W (by omega) (by omega)
        · rw [← hz]; exact Base.implSigned _ W (by omega) (by omega))
      have pI : (p : Int) < len := by omega
      unfold sgn at TS
      rw [hy, hz] at TS
      clear hp hy hz
      by_cases d : z < y
      · have d' : decide (z < y) = true := decide_eq_true d
        rw [if_pos d] at TS
        clear d
        go_wp2_with fail
        go_region_with (first
          | (go_at_call_of 36 (Value.int .i64 (L t)); refine (CS.out _ (L t) y (.inl ⟨rfl, rfl⟩)).mono ?_; rintro e w1 ⟨rfl, rfl⟩)
          | (go_at_call_of 36 (Value.int .i64 (L p)); refine (CS.out _ (L p) z (.inr ⟨rfl, rfl⟩)).mono ?_; rintro e w1 ⟨rfl, rfl⟩))
        all_goals (go_wp2_with fail)
        all_goals go_roundw
        all_goals first
          | (simp [intOf]; omega)
          | exact ⟨t + 1, by omega, by go_num, by rw [TS.out], HRL.out, HRM.out, kept_drew HKP.out⟩
      · have d' : decide (z < y) = false := decide_eq_false d
        rw [if_neg d] at TS
        clear d
        go_wp2_with fail
        go_region_with (first
          | (go_at_call_of 36 (Value.int .i64 (L t)); refine (CS.out _ (L t) y (.inl ⟨rfl, rfl⟩)).mono ?_; rintro e w1 ⟨rfl, rfl⟩)
          | (go_at_call_of 36 (Value.int .i64 (L p)); refine (CS.out _ (L p) z (.inr ⟨rfl, rfl⟩)).mono ?_; rintro e w1 ⟨rfl, rfl⟩))
        all_goals (go_wp2_with fail)
        all_goals go_roundw
        all_goals first
          | (simp [intOf]; omega)
          | exact ⟨t + 1, by omega, by go_num, by rw [TS.out], HRL.out, HRM.out, kept_drew HKP.out⟩
    · obtain rfl : t = len := by omega
      have TE := hide (fun k hk => topG_eq l1 L (k := k) hk)
      have tl : tp L t < t := by
        obtain ⟨n, rfl⟩ : ∃ n, t = n + 1 := ⟨t - 1, by omega⟩
        exact (tp_facts L n).1
      obtain ⟨p, hp⟩ : ∃ p, tp L t = p := ⟨_, rfl⟩
      rw [hp] at tl le TE ⊢
      obtain ⟨c2, f2, _⟩ := HRM.out p tl
      have pI : (p : Int) < t := by omega
      clear hp
      go_wp2_with fail
      exact bodyPost_end (results_none rfl _ _ _) rfl ⟨⟨_, rfl⟩, (HRM.out.set p 1 (by unfold bd; omega)).same (fun u hu => TE.out u hu), (HKP.out.mono (fun _ _ q => q.elim)).trans (Kept.setCell _ ⟨m, p, none⟩ _)⟩
set_option maxRecDepth 100000 in
set_option maxHeartbeats 1000000 in
theorem topF (B : Nat) (a b : Option Addr) (r s cap dap : Nat) (D S : Nat → Int) (x : Int) (w : World) (hB : B ≤ w.heap.size) (h : Ints B w a r D) (h' : Ints B w b s S) (hr : (r : Int) ≤ 1048576) (hs : (s : Int) ≤ 1048576) (hcap : r ≤ cap) :
    Calls Try.prog 11 #[.agg #[.slice a r cap, .slice b s dap], .int .i64 x] w fun e w' => TensR w.heap.size (lineP r s D S x (lenA r s D S x) (topG (lenA r s D S x).toNat)) w e w' := by
  obtain ⟨W0, hW0⟩ : ∃ W0, (w.alloc (.cells #[.slice a r cap, .slice b s dap] 26)).alloc (.cells #[.slice none 0 0, .slice none 0 0] 26) = W0 := ⟨_, rfl⟩
  have hs0 : W0.heap.size = w.heap.size + 1 + 1 := by rw [← hW0]; simp
  have bl : Below w.heap.size w W0 := by rw [← hW0]; exact ((Below.refl _ _).alloc (Nat.le_refl _) _).alloc (by simp) _
  have n0 : Bx W0 w.heap.size (.slice a r cap) (.slice b s dap) := by
    rw [← hW0]; exact (bx_new w (.slice a r cap) (.slice b s dap) 26).below ((Below.refl (w.heap.size + 1) _).alloc (by simp) _) (by omega)
  have m0 : Bx W0 (w.heap.size + 1) (.slice none 0 0) (.slice none 0 0) := by
    have q := bx_new (w.alloc (.cells #[.slice a r cap, .slice b s dap] 26)) (.slice none 0 0) (.slice none 0 0) 26
    rw [World.size_alloc] at q
    rw [← hW0]; exact q
  have g0 : Free W0 (w.heap.size + 1) := by
    have q := free_new (w.alloc (.cells #[.slice a r cap, .slice b s dap] 26)) #[.slice none 0 0, .slice none 0 0] 26
    rw [World.size_alloc] at q
    rw [← hW0]; exact q
  have H := hide (h.below (bl.mono hB))
  have H' := hide (h'.below (bl.mono hB))
  have BL := hide bl
  have HS0 := hide hs0
  have N0 := hide n0
  have M0 := hide m0
  have G0 := hide g0
  have LA := hide (lenA_rng r s D S x)
  obtain ⟨x0, x1⟩ := n0
  clear h h' bl m0 g0 hs0
  go_enter Try.func11, Try.ntmps11
  go_wp2_with fail
  clear hW0
  go_region_with (first
    | (go_at_call 34
       refine (lengthAt B a b r s cap dap D S x W0.drew (by have := HS0.out; show B ≤ W0.heap.size; omega) H.out H'.out hr hs).mono ?_
       rintro e w1 ⟨rfl, b1⟩
       have N1 := hide (Bx.below (w := W0.drew) N0.out b1 (by have := HS0.out; show w.heap.size < W0.heap.size; omega))
       have M1 := hide (Bx.below (w := W0.drew) M0.out b1 (by have := HS0.out; show w.heap.size + 1 < W0.heap.size; omega))
       have G1 := hide (Free.below (w := W0.drew) G0.out b1 (by have := HS0.out; show w.heap.size + 1 < W0.heap.size; omega))
       have B1 := hide (BL.out.drew.trans (b1.mono BL.out.size))
       have H1 := hide (Ints.below (w := W0.drew) H.out (b1.mono (by have := HS0.out; show B ≤ W0.heap.size; omega)))
       have H1' := hide (Ints.below (w := W0.drew) H'.out (b1.mono (by have := HS0.out; show B ≤ W0.heap.size; omega)))
       have s1 : w.heap.size + 1 < w1.heap.size := by have := HS0.out; have := b1.size; have e : W0.drew.heap.size = W0.heap.size := rfl; omega
       obtain ⟨x0', x1'⟩ := N1.out)
    | (go_at_call 33
       refine (linewise 35 #[] (topG (lenA r s D S x).toNat) B a b r s cap dap D S x (lenA r s D S x) w1 (by omega) H1.out H1'.out hr hs hcap (by have := LA.out; unfold bd; omega) (enters_of Try.func35 (by kernel_rfl) rfl) (fun len N e1 e2 l1 _ => by
         have e3 : len = N := by omega
         subst e3
         have e4 : (lenA r s D S x).toNat = len := by omega
         rw [e4]
         exact top1 len (by omega) (by have := LA.out; omega) w1)).mono ?_
       rintro e w2 ⟨ta, tb, tc, td, rfl, tz, b2⟩
       have M2 := hide (M1.out.below b2 (by omega))
       have G2 := hide (G1.out.below b2 (by omega))
       have B2 := hide (B1.out.trans (b2.mono B1.out.size))
       have TO := hide tz
       obtain ⟨y0, y1⟩ := M2.out
       have gg := G2.out
       unfold Free at gg))
  all_goals (go_wp2_with fail)
  all_goals exact bodyPost_ret (v := .agg #[.slice ta (lineP r s D S x (lenA r s D S x) (topG (lenA r s D S x).toNat)).r tc, .slice tb (lineP r s D S x (lenA r s D S x) (topG (lenA r s D S x).toNat)).s td]) (by simp [results, Try.results11, go_sem, y0, y1]) rfl (tens_end TO.out s1 (by omega) B2.out)
set_option maxRecDepth 100000 in
set_option maxHeartbeats 2000000 in
theorem specTop (B : Nat) (a : Addr) (b : Option Addr) (r s cap dap : Nat) (D S : Nat → Int) (x : Int) (w : World) (hB : B ≤ w.heap.size) (h : Ints B w (some a) r D) (h' : Ints B w b s S) (hr : (r : Int) ≤ 1048576) (hs : (s : Int) ≤ 1048576) :
    Calls Try.prog 9 #[.agg #[.slice (some a) r cap, .slice b s dap], .int .i64 x] w fun e w' => TensR w.heap.size (lineP r s D S x (lenA r s D S x) (topG (lenA r s D S x).toNat)) w e w' := by
  obtain ⟨W0, hW0⟩ : ∃ W0, (w.alloc (.cells #[.slice (some a) r cap, .slice b s dap] 26)).alloc (.cells #[.slice none 0 0, .slice none 0 0] 26) = W0 := ⟨_, rfl⟩
  have hs0 : W0.heap.size = w.heap.size + 1 + 1 := by rw [← hW0]; simp
  have bl : Below w.heap.size w W0 := by rw [← hW0]; exact ((Below.refl _ _).alloc (Nat.le_refl _) _).alloc (by simp) _
  have n0 : Bx W0 w.heap.size (.slice (some a) r cap) (.slice b s dap) := by
    rw [← hW0]; exact (bx_new w (.slice (some a) r cap) (.slice b s dap) 26).below ((Below.refl (w.heap.size + 1) _).alloc (by simp) _) (by omega)
  have m0 : Bx W0 (w.heap.size + 1) (.slice none 0 0) (.slice none 0 0) := by
    have q := bx_new (w.alloc (.cells #[.slice (some a) r cap, .slice b s dap] 26)) (.slice none 0 0) (.slice none 0 0) 26
    rw [World.size_alloc] at q
    rw [← hW0]; exact q
  have g0 : Free W0 (w.heap.size + 1) := by
    have q := free_new (w.alloc (.cells #[.slice (some a) r cap, .slice b s dap] 26)) #[.slice none 0 0, .slice none 0 0] 26
    rw [World.size_alloc] at q
    rw [← hW0]; exact q
  have H := hide (h.below (bl.mono hB))
  have H' := hide (h'.below (bl.mono hB))
  have BL := hide bl
  have HS0 := hide hs0
  have N0 := hide n0
  have M0 := hide m0
  have G0 := hide g0
  obtain ⟨x0, x1⟩ := n0
  clear h h' bl m0 g0 hs0
  go_enter Try.func9, Try.ntmps9
  go_wp2_with fail
  clear hW0
  refine (l4Axis B (some a) b r s cap dap D S x _ (by have := HS0.out; omega) H.out H'.out hr hs).mono ?_
  rintro e w1 ⟨rfl, b1⟩
  have z0 := HS0.out
  have N1 := hide (N0.out.below b1 (by omega))
  have M1 := hide (M0.out.below b1 (by omega))
  have G1 := hide (G0.out.below b1 (by omega))
  have B1 := hide (BL.out.trans (b1.mono BL.out.size))
  have H1 := hide (H.out.below (b1.mono (by omega)))
  have H1' := hide (H'.out.below (b1.mono (by omega)))
  have s1 : w.heap.size + 1 < w1.heap.size := by have := b1.size; omega
  clear b1 x0 x1 z0
  obtain ⟨x0, x1⟩ := N1.out
  obtain ⟨y0, y1⟩ := M1.out
  have gg := G1.out
  unfold Free at gg
  by_cases hx : tok r s D S = true ∧ 0 ≤ x ∧ x < r
  rotate_left
  · have ez := hide (lineP_no (n := lenA r s D S x) (G := (topG (lenA r s D S x).toNat)) (fun q => hx q.1))
    rw [decide_eq_false hx]
    clear hx
    go_wp2_with fail
    refine bodyPost_ret (v := .agg #[.slice none 0 0, .slice none 0 0]) (by simp [results, Try.results9, go_sem, y0, y1]) rfl (by
      rw [ez.out]
      refine tensR_zero ?_
      repeat (refine Below.setCell ?_ (by simp) _)
      exact B1.out)
  rw [decide_eq_true hx]
  obtain ⟨ht, hx0, hx1⟩ := hx
  obtain ⟨k, rfl⟩ : ∃ k : Nat, x = k := ⟨x.toNat, by omega⟩
  have hk : k < r := by omega
  have hl : lenA r s D S (k : Int) = D k := by rw [lenA_yes ⟨ht, hx0, hx1⟩, Int.toNat_natCast]
  obtain ⟨td, ts, tw⟩ := tok_split ht
  obtain ⟨dk0, dk1⟩ := dok_len td hk
  have ez := hide (show lineP r s D S (k : Int) (lenA r s D S (k : Int)) (topG (lenA r s D S (k : Int)).toNat) = ⟨r, s, D, fun j => topG (D k).toNat (lineAt S (D k) (bhd D r k) (D k) j) ((j : Int) / bhd D r k % D k).toNat⟩ from (congrArg (fun z => lineP r s D S (k : Int) z (topG z.toNat)) hl).trans (lineP_same ht hk))
  obtain ⟨len, hlen⟩ : ∃ len : Nat, D k = len := ⟨(D k).toNat, by omega⟩
  obtain ⟨V, hV⟩ : ∃ V : Nat → Int, (fun j => topG (D k).toNat (lineAt S (D k) (bhd D r k) (D k) j) ((j : Int) / bhd D r k % D k).toNat : Nat → Int) = V := ⟨_, rfl⟩
  rw [hV] at ez
  have l1 : 1 ≤ len := by omega
  have l2 : len ≤ 4096 := by omega
  have r6 : r ≤ 6 := (dok_iff.1 td).1
  have lS : (s : Int) ≤ 4096 := by rw [← ts]; exact (szR_rng D r).2
  have HT := hide ht
  have TD := hide td
  have TS := hide ts
  have TW := hide tw
  have DK := hide hlen
  have HV := hide hV
  clear ht hx0 hx1 td ts tw dk0 dk1 hlen hl hV
  go_wp2_with fail
  refine (l4New B a r cap s D _ (by omega) H1.out hr TS.out lS).mono ?_
  rintro e w2 ⟨va, vc, g, rfl, ov, rg, lg, hg, hne, b2⟩
  have sb := b2.size
  obtain ⟨W2, hW2⟩ : ∃ W2, w2.alloc (.cells #[.slice va r vc, .slice (some ⟨g, 0, none⟩) s s] 26) = W2 := ⟨_, rfl⟩
  have b3 : Below w2.heap.size w2 W2 := by rw [← hW2]; exact (Below.refl _ _).alloc (Nat.le_refl _) _
  have z2 : W2.heap.size = w2.heap.size + 1 := by rw [← hW2]; simp
  have T2 := hide (show Bx W2 w2.heap.size (.slice va r vc) (.slice (some ⟨g, 0, none⟩) s s) by rw [← hW2]; exact bx_new w2 _ _ _)
  have N2 := hide ((N1.out.below b2 (by omega)).below b3 (by omega))
  have M2 := hide ((M1.out.below b2 (by omega)).below b3 (by omega))
  have G2 := hide ((G1.out.below b2 (by omega)).below b3 (by omega))
  have H2 := hide ((H1.out.below (b2.mono (by omega))).below (b3.mono (by omega)))
  have H2' := hide ((H1'.out.below (b2.mono (by omega))).below (b3.mono (by omega)))
  have B2 := hide ((B1.out.trans (b2.mono B1.out.size)).trans (b3.mono (by omega)))
  have OV := hide (ov.below b3)
  have RG := hide (rg.below b3 hg)
  have HNE := hide hne
  have Z2 := hide z2
  have zg : w.heap.size + 1 < g := by omega
  have z3 : w.heap.size + 1 < w2.heap.size := by omega
  clear ov rg b2 b3 sb hne z2 x0 x1 y0 y1 gg
  obtain ⟨x0, x1⟩ := N2.out
  go_wp2_with fail
  clear hW2
  go_loopw [6] (fun i wx => ∃ j : Nat, j ≤ s ∧ i = .int .i64 j ∧ Bx wx w2.heap.size (.slice va r vc) (.slice (some ⟨g, 0, none⟩) s s) ∧ Bx wx w.heap.size (.slice (some a) r cap) (.slice b s dap) ∧ Rw wx g s (fun t => if t < j then V t else 0) ∧ Kept (· = g) W2 wx) (fun i _ => s - (intOf i).toNat)
  case atStart => exact ⟨0, Nat.zero_le _, rfl, T2.out, N2.out, RG.out.same (fun t ht => by simp), Kept.refl _ _⟩
  case round =>
    obtain ⟨X, rfl⟩ : ∃ X, X = wr := ⟨_, rfl⟩
    obtain ⟨j, hj, rfl, hbx, hbt, hrw, hkp⟩ := hrel
    have HBX := hide hbx
    have HBT := hide hbt
    have HRW := hide hrw
    have HKP := hide hkp
    have lX : w2.heap.size + 1 ≤ X.heap.size := by have := HKP.out.size; have := Z2.out; omega
    clear x0 x1
    obtain ⟨x0, x1⟩ := hbt
    clear hrw hkp hbx
    by_cases hlt : j < s
    · have jI : (j : Int) < s := by omega
      have HA := hide (H2.out.kept (by have := Z2.out; omega) HKP.out (fun y hy e => by have e : y = g := e; omega))
      have HA' := hide (H2'.out.kept (by have := Z2.out; omega) HKP.out (fun y hy e => by have e : y = g := e; omega))
      have HD := hide (fun i hi => dok_len TD.out (j := i) hi)
      go_wp2_with fail
      refine (l3Index B (some a) r cap D j _ HA.out (by omega) (by omega) HD.out (by omega) (by omega)).mono ?_
      rintro e X1 ⟨rfl, ra, sa, ba⟩
      have HBT1 := hide (HBT.out.below ba (by omega))
      have HB1 := hide (HA.out.below (ba.mono (by omega)))
      have HB1' := hide (HA'.out.below (ba.mono (by omega)))
      have RA := hide ra
      have BA := hide ba
      have dgr := dg_rng D r (fun i hi => (HD.out i hi).1) (j : Int)
      have DG := hide dgr
      clear ra ba dgr x0 x1
      obtain ⟨x0, x1⟩ := HBT1.out
      go_wp2_with fail
      refine (l4Line X1.heap.size (some a) b _ r s cap dap k r len D S (dg D r j) _ (Nat.le_refl _) (HB1.out.mono (by omega)) (HB1'.out.mono (by omega)) (RA.out.ints sa) HT.out DG.out hk DK.out).mono ?_
      rintro e X2 ⟨gl, cl, rfl, hgl, lgl, rl, b5⟩
      rw [lineAt_od (s := s) TD.out hk j (by rw [TS.out]; omega)] at rl
      obtain ⟨L, hL⟩ : ∃ L, lineAt S (D k) (bhd D r k) (D k) j = L := ⟨_, rfl⟩
      rw [hL] at rl
      obtain ⟨av, hav⟩ : ∃ av : Nat, dg D r j k = av := ⟨(dg D r j k).toNat, by have := DG.out k hk; omega⟩
      have av1 : av < len := by have := DG.out k hk; have := DK.out; omega
      have VE := hide (show V j = topG len L av by
        rw [← HV.out]
        show topG (D k).toNat (lineAt S (D k) (bhd D r k) (D k) j) ((j : Int) / bhd D r k % D k).toNat = _
        have e2 := dok_pr TD.out
        rw [hL, ← dg_axis hk e2.2 (j : Int) (by omega) (by rw [← e2.1, TS.out]; omega), hav, Int.toNat_natCast, DK.out, Int.toNat_natCast])
      have LE := hide (show L av = S j by
        have e2 := dok_pr TD.out
        have e3 := dg_axis hk e2.2 (j : Int) (by omega) (by rw [← e2.1, TS.out]; omega)
        rw [hav] at e3
        rw [← hL]
        show S (mv (D k) (bhd D r k) (D k) (av : Int) j).toNat = S j
        unfold mv
        rw [e3, part_back _ _ _ (by have := DK.out; omega) (bhd_pos e2.2), Int.toNat_natCast])
      have HD2 := hide (HB1'.out.below (b5.mono (by omega)))
      have hLr := hide (show WI len L 2147483647 from fun u hu => by
        rw [← hL]
        have e2 := dok_pr TD.out
        have m1 := mv_rng (l := D k) (b := bhd D r k) (n := D k) (x := (u : Int)) (j := (j : Int)) (A := pr D k) (bhd_pos e2.2) (by have := DK.out; omega) (by omega) (by have := DK.out; omega) (by omega) (by rw [← pr_axis D hk, ← e2.1, TS.out]; omega)
        rw [← pr_axis D hk, ← e2.1, TS.out] at m1
        exact TW.out _ (by omega))
      have RL := hide rl
      have RA2 := hide (RA.out.below b5 sa)
      have HBX2 := hide ((HBX.out.below BA.out (by omega)).below b5 (by omega))
      have HBT2 := hide (HBT1.out.below b5 (by omega))
      have HRW2 := hide ((HRW.out.below BA.out (by omega)).below b5 (by omega))
      have KX := hide (show Kept (· = g) W2 X2 from (HKP.out.trans (Kept.of_below BA.out)).trans (Kept.of_below b5))
      have lX2 : X1.heap.size ≤ X2.heap.size := b5.size
      obtain ⟨ca, _, _⟩ := RA2.out k hk
      rw [hav] at ca
      have kI : (k : Int) < r := by omega
      clear rl b5 hL hav x0 x1
      obtain ⟨u0, u1⟩ := HBX2.out
      go_wp2_with fail
      rcases HD2.out with h0 | ⟨b', off, rfl, hbB, hc⟩
      · omega
      have cj := (hc j hlt).1
      rw [← LE.out] at cj
      obtain ⟨x0, x1⟩ := HBT2.out
      have qa := hLr.out av av1
      clear hc
      go_loopw [9, 10] (fun v i wx => ∃ t : Nat, t ≤ len ∧ i = .int .i64 t ∧ v = .bool (decide (∀ u, u < t → ¬ beat L u av)) ∧ wx = X2) (fun _ i _ => len - (intOf i).toNat)
      case atStart => exact ⟨0, Nat.zero_le _, rfl, by rw [decide_eq_true (show ∀ u, u < 0 → ¬ beat L u av from fun u hu => absurd hu (by omega))], rfl⟩
      case round =>
        obtain ⟨t, ht, rfl, rfl, hw⟩ := hrel
        subst hw
        by_cases htl : t < len
        · have tl : (t : Int) < len := by omega
          obtain ⟨c1, f1, _⟩ := RL.out t (by omega)
          have q1 := hLr.out t (by omega)
          obtain ⟨p, hp⟩ : ∃ p, Base.sg (L t % 2147483647) = p := ⟨_, rfl⟩
          obtain ⟨y, hy⟩ : ∃ y, Base.sg (L av % 2147483647) = y := ⟨_, rfl⟩
          have CS1 := hide (fun (W : World) => Base.specSigned (L t) W (by omega) (by omega))
          have CS2 := hide (fun (W : World) => Base.specSigned (L av) W (by omega) (by omega))
          rw [hp] at CS1
          rw [hy] at CS2
          have BT := hide (show beat L t av ↔ (y < p ∨ (p = y ∧ t < av)) by unfold beat sgn; rw [hp, hy])
          obtain ⟨bo, hbo⟩ : ∃ bo, decide (∀ u, u < t → ¬ beat L u av) = bo := ⟨_, rfl⟩
          have NX := hide (show decide (∀ u, u < t + 1 → ¬ beat L u av) = (bo && !decide (beat L t av)) by
            rw [← hbo]
            by_cases c1 : beat L t av
            · rw [decide_eq_true c1, decide_eq_false (show ¬ (∀ u, u < t + 1 → ¬ beat L u av) from fun q => q t (by omega) c1)]; simp
            · rw [decide_eq_false c1, Bool.not_false, Bool.and_true]
              exact decide_eq_decide.2 ⟨fun q u hu => q u (by omega), fun q u hu => by
                by_cases e : u = t
                · subst e; exact c1
                · exact q u (by omega)⟩)
          rw [hbo]
          clear hp hy hbo
          by_cases d1 : y < p
          · have d1' : decide (y < p) = true := decide_eq_true d1
            have EN := hide (show decide (∀ u, u < t + 1 → ¬ beat L u av) = false by rw [NX.out, decide_eq_true (BT.out.2 (.inl d1))]; simp)
            have DD := hide d1
            clear d1
            go_wp2_with fail
            refine (CS1.out _).mono ?_
            rintro e w1 ⟨rfl, rfl⟩
            go_wp2_with fail
            refine (CS2.out _).mono ?_
            rintro e w1 ⟨rfl, rfl⟩
            go_wp2_with fail
            all_goals go_roundw
            all_goals first
              | (exfalso; have := DD.out; omega)
              | (simp [intOf]; omega)
              | exact ⟨t + 1, by omega, by go_num, by rw [EN.out], by first | rfl | trivial⟩
              | exact ⟨⟨t + 1, by omega, by go_num, by rw [EN.out], by first | rfl | trivial⟩, by simp [intOf]; omega⟩
          have d1' : decide (y < p) = false := decide_eq_false d1
          by_cases d2 : p = y
          rotate_left
          · have d2' : (p == y) = false := beq_eq_false_iff_ne.2 d2
            have EN := hide (show decide (∀ u, u < t + 1 → ¬ beat L u av) = bo by rw [NX.out, decide_eq_false (fun q => by rcases BT.out.1 q with q | q; exact d1 q; exact d2 q.1)]; simp)
            have DD := hide (show ¬ y < p ∧ ¬ p = y from ⟨d1, d2⟩)
            clear d1 d2
            go_wp2_with fail
            refine (CS1.out _).mono ?_
            rintro e w1 ⟨rfl, rfl⟩
            go_wp2_with fail
            refine (CS2.out _).mono ?_
            rintro e w1 ⟨rfl, rfl⟩
            go_wp2_with fail
            all_goals go_roundw
            all_goals first
              | (exfalso; have := DD.out; omega)
              | (simp [intOf]; omega)
              | exact ⟨t + 1, by omega, by go_num, by rw [EN.out], by first | rfl | trivial⟩
              | exact ⟨⟨t + 1, by omega, by go_num, by rw [EN.out], by first | rfl | trivial⟩, by simp [intOf]; omega⟩
          have d2' : (p == y) = true := beq_iff_eq.2 d2
          by_cases d3 : t < av
          · have d3' : decide ((t : Int) < av) = true := decide_eq_true (by omega)
            have EN := hide (show decide (∀ u, u < t + 1 → ¬ beat L u av) = false by rw [NX.out, decide_eq_true (BT.out.2 (.inr ⟨d2, d3⟩))]; simp)
            have DD := hide (show t < av ∧ p = y from ⟨d3, d2⟩)
            clear d1 d2 d3
            go_wp2_with fail
            refine (CS1.out _).mono ?_
            rintro e w1 ⟨rfl, rfl⟩
            go_wp2_with fail
            refine (CS2.out _).mono ?_
            rintro e w1 ⟨rfl, rfl⟩
            go_wp2_with fail
            all_goals go_roundw
            all_goals first
              | (exfalso; have := DD.out; omega)
              | (simp [intOf]; omega)
              | exact ⟨t + 1, by omega, by go_num, by rw [EN.out], by first | rfl | trivial⟩
              | exact ⟨⟨t + 1, by omega, by go_num, by rw [EN.out], by first | rfl | trivial⟩, by simp [intOf]; omega⟩
          · have d3' : decide ((t : Int) < av) = false := decide_eq_false (by omega)
            have EN := hide (show decide (∀ u, u < t + 1 → ¬ beat L u av) = bo by rw [NX.out, decide_eq_false (fun q => by rcases BT.out.1 q with q | q; exact d1 q; exact d3 q.2)]; simp)
            have DD := hide (show ¬ t < av ∧ p = y from ⟨d3, d2⟩)
            clear d1 d2 d3
            go_wp2_with fail
            refine (CS1.out _).mono ?_
            rintro e w1 ⟨rfl, rfl⟩
            go_wp2_with fail
            refine (CS2.out _).mono ?_
            rintro e w1 ⟨rfl, rfl⟩
            go_wp2_with fail
            all_goals go_roundw
            all_goals first
              | (exfalso; have := DD.out; omega)
              | (simp [intOf]; omega)
              | exact ⟨t + 1, by omega, by go_num, by rw [EN.out], by first | rfl | trivial⟩
              | exact ⟨⟨t + 1, by omega, by go_num, by rw [EN.out], by first | rfl | trivial⟩, by simp [intOf]; omega⟩
        · obtain rfl : t = len := by omega
          obtain ⟨c2, f2, _⟩ := HRW2.out j hlt
          have TG : topG t L av = if decide (∀ u, u < t → ¬ beat L u av) = true then 1 else 0 := by
            unfold topG
            exact ite_iff (by rw [decide_eq_true_eq]) _ _
          obtain ⟨bo, hbo⟩ : ∃ bo, decide (∀ u, u < t → ¬ beat L u av) = bo := ⟨_, rfl⟩
          rw [hbo] at TG
          rw [hbo]
          clear hbo
          cases bo with
          | true =>
            have ES := hide (show (1 : Int) = V j by rw [VE.out, TG]; rfl)
            clear TG
            go_wp2_with fail
            go_roundw
            case rel =>
              exact ⟨j + 1, by omega, by go_num, HBX2.out.kept (Kept.setCell _ ⟨g, j, none⟩ _) (by omega) (by show ¬ w2.heap.size = g; omega), HBT2.out.kept (Kept.setCell _ ⟨g, j, none⟩ _) (by omega) (by show ¬ w.heap.size = g; omega), (HRW2.out.set j 1 (by unfold bd; omega)).same (fun t ht => by rw [ES.out]; by_cases c : t = j <;> by_cases c2 : t < j <;> simp [c, c2] <;> omega), KX.out.trans (Kept.setCell _ ⟨g, j, none⟩ _)⟩
            case measure => simp [intOf]; omega
          | false =>
            have ES := hide (show (0 : Int) = V j by rw [VE.out, TG]; rfl)
            clear TG
            go_wp2_with fail
            go_roundw
            case rel =>
              exact ⟨j + 1, by omega, by go_num, HBX2.out, HBT2.out, HRW2.out.same (fun t ht => by by_cases c : t = j <;> by_cases c2 : t < j <;> simp [c, c2, ← ES.out] <;> omega), KX.out⟩
            case measure => simp [intOf]; omega
    · have e : j = s := by omega
      have kp := HKP.out
      have n1 : ¬ w.heap.size + 1 = g := by omega
      have M3 := hide (M2.out.kept kp (by have := Z2.out; omega) n1)
      have G3 := hide (G2.out.kept kp (by have := Z2.out; omega) n1)
      have OV3 := hide (OV.out.kept kp (fun b q e => HNE.out b q e))
      have B3 := hide (B2.out.trans (kp.below B2.out.size (fun j e => by have e : j = g := e; omega)))
      have R3 := hide (HRW.out.same (E := V) (fun t ht => by simp; intro; omega))
      have u := HBX.out
      clear kp
      obtain ⟨u0, u1⟩ := u
      obtain ⟨y0, y1⟩ := M3.out
      have gg := G3.out
      unfold Free at gg
      go_wp2_with fail
      refine bodyPost_ret (v := .agg #[.slice va r vc, .slice (some ⟨g, 0, none⟩) s s]) (by simp [results, Try.results9, go_sem, y0, y1]) rfl ?_
      show TensR w.heap.size (lineP r s D S (k : Int) (lenA r s D S (k : Int)) (topG (lenA r s D S (k : Int)).toNat)) w _ _
      rw [ez.out]
      exact tens_end (v := ⟨r, s, D, V⟩) (B := w.heap.size + 1 + 1) ⟨OV3.out.mono (by omega), .inr ⟨g, rfl, by omega, R3.out⟩, fun j q1 q2 => by
          obtain ⟨_, ad, e', e''⟩ := q2
          injection e' with e'
          subst e'
          have e'' : g = j := e''
          exact HNE.out j q1 e''.symm⟩ (by omega) (by omega) B3.out
end Vo
end Go.Proofs.Ytkohmhelfdnfdaa
