/- Lemmas for the proof of the law. -/
import Derived.Test.YtejfodkobfdelaaMgas
import Derived.Test.YtejfodkobfdelaaMgai
import Derived.Test.YtejfodkobfdelaaMgan
import Derived.Maps.AppendAt
/- Spread of the model; Spread of the program. -/
namespace Go.Proofs.Ytejfodkobfdelaa
namespace Vo
open Go.ChangeShapes Go.WideShapes Go.ChangeAt Go.RowKit Go.Joins
open Vl Vp Vr
set_option linter.unusedVariables false
set_option linter.unusedSimpArgs false

theorem al_old {w : World} {o : Obj} {a : Addr} {v : Value} (h : w.cell? a = some v) : (w.alloc o).cell? a = some v := (World.cell?_alloc_old w o a (Nat.ne_of_lt (World.block_lt_of_cell? _ _ h))).trans h
theorem se_old {w : World} {p a : Addr} {u v : Value} (hp : a.block ≠ p.block) (h : w.cell? a = some v) : (w.setCell p u).cell? a = some v := (World.cell?_of_block (w := w) (a := a) ((Kept.setCell w p u).block a.block (World.block_lt_of_cell? _ _ h) hp)).trans h
/-- a view under way whose strides are noughts -/
def SprM (w1 : World) (q : Nat) (E : Nat → Int) (o n : Int) (p6 : Value) (wx : World) : Prop :=
  ∃ (P gS : Nat) (va : Value), p6 = .pointer (some ⟨P, 0, none⟩) ∧ w1.heap.size ≤ P ∧ P < wx.heap.size ∧ Box wx P va (.slice (some ⟨gS, 0, none⟩) q q) (.int .i64 o) (.int .i64 n) ∧ Free wx P ∧ RowV w1.heap.size wx va q E ∧ Rw wx gS q (fun _ => 0) ∧ w1.heap.size ≤ gS ∧ gS < wx.heap.size ∧ P ≠ gS ∧ va.ownBlock ≠ some P ∧ va.ownBlock ≠ some gS ∧ Below w1.heap.size w1 wx
theorem rw_al {w : World} {g n : Nat} {f : Nat → Int} (h : Rw w g n f) (x : Obj) : Rw (w.alloc x) g n f := h.kept (S := fun _ => False) (Kept.of_below ((Below.refl _ _).alloc (Nat.le_refl _) x)) id
theorem rw_be {w w' : World} {g n : Nat} {f : Nat → Int} (h : Rw w g n f) (hb : Below w.heap.size w w') : Rw w' g n f := h.kept (S := fun _ => False) (Kept.of_below hb) id
theorem rv_al {B : Nat} {w : World} {v : Value} {r : Nat} {D : Nat → Int} (h : RowV B w v r D) (x : Obj) : RowV B (w.alloc x) v r D := h.below ((Below.refl _ _).alloc (Nat.le_refl _) x)
/-- laid at last -/
theorem sprM_new {w1 Y : World} {q gS : Nat} {E : Nat → Int} {o n : Int} {va : Value} (t : TypeId) (hY : Below w1.heap.size w1 Y) (rv : RowV w1.heap.size Y va q E) (rg : Rw Y gS q (fun _ => 0)) (l1 : w1.heap.size ≤ gS) (l2 : gS < Y.heap.size) (hne : va.ownBlock ≠ some gS) :
    SprM w1 q E o n (.pointer (some ⟨Y.heap.size, 0, none⟩)) (Y.alloc (.cells #[va, .slice (some ⟨gS, 0, none⟩) q q, .int .i64 o, .int .i64 n] t)) := by
  have sY := hY.size
  refine ⟨Y.heap.size, gS, va, rfl, sY, by simp, box_new Y _ _ _ _ _, free_new Y _ _, rv_al rv _, rw_al rg _, l1, by simp; omega, by omega, fun e => ?_, hne, hY.alloc sY _⟩
  have := (rv.lt e).2
  omega
/-- laid before -/
theorem sprM_sets {w1 Z : World} {q gS P : Nat} {E : Nat → Int} {o n : Int} {va v0 v1 v2 v3 : Value} (hZ : Below w1.heap.size w1 Z) (hb : Box Z P v0 v1 v2 v3) (hf : Free Z P) (hP : w1.heap.size ≤ P) (lP : P < Z.heap.size) (rv : RowV w1.heap.size Z va q E) (rg : Rw Z gS q (fun _ => 0)) (l1 : w1.heap.size ≤ gS) (l2 : gS < Z.heap.size) (hPg : P ≠ gS) (hne : va.ownBlock ≠ some gS) (hnP : va.ownBlock ≠ some P) :
    SprM w1 q E o n (.pointer (some ⟨P, 0, none⟩)) ((((Z.setCell ⟨P, 0, none⟩ va).setCell ⟨P, 1, none⟩ (.slice (some ⟨gS, 0, none⟩) q q)).setCell ⟨P, 2, none⟩ (.int .i64 o)).setCell ⟨P, 3, none⟩ (.int .i64 n)) := by
  have k4 := kept_sets4 Z P va (.slice (some ⟨gS, 0, none⟩) q q) (.int .i64 o) (.int .i64 n)
  refine ⟨P, gS, va, rfl, hP, by simp [World.setCell]; omega, box_sets4 hb _ _ _ _, ((((hf.set _ _).set _ _).set _ _).set _ _), rv.kept k4 (fun k q e => by have e : k = P := e; subst e; exact hnP q), rg.kept k4 (by show ¬ gS = P; omega), l1, by simp [World.setCell]; omega, hPg, hnP, hne, hZ.trans (k4.below hZ.size (fun j e => by have e : j = P := e; omega))⟩
/-- laid under the strides -/
theorem sprM_under {w1 Y : World} {q : Nat} {E : Nat → Int} {o n : Int} {va : Value} (t t' : TypeId) (hY : Below w1.heap.size w1 Y) (rv : RowV w1.heap.size Y va q E) :
    SprM w1 q E o n (.pointer (some ⟨Y.heap.size, 0, none⟩)) ((Y.alloc (.cells #[va, .slice (some ⟨Y.heap.size + 1, 0, none⟩) q q, .int .i64 o, .int .i64 n] t)).alloc (.cells (madeCells #[.int .i64 0] q) t')) := by
  have sY := hY.size
  have rg := rw_new (Y.alloc (.cells #[va, .slice (some ⟨Y.heap.size + 1, 0, none⟩) q q, .int .i64 o, .int .i64 n] t)) q t'
  rw [World.size_alloc] at rg
  refine ⟨Y.heap.size, Y.heap.size + 1, va, rfl, sY, by simp; omega, (box_new Y _ _ _ _ _).below ((Below.refl _ _).alloc (Nat.le_refl _) _) (by simp), (free_new Y _ _).below ((Below.refl _ _).alloc (Nat.le_refl _) _) (by simp), rv_al (rv_al rv _) _, rg, by omega, by simp, by omega, fun e => ?_, fun e => ?_, (hY.alloc sY _).alloc (by simp; omega) _⟩
  · have := (rv.lt e).2; omega
  · have := (rv.lt e).2; omega
theorem spreadF (B : Nat) (a b c : Option Addr) (r s q cap dap cap' : Nat) (D S E : Nat → Int) (o n : Int) (w : World) (hB : B ≤ w.heap.size) (h : Ints B w a r D) (h' : Ints B w b s S) (hI : Ints B w c q E) (hr : (r : Int) ≤ 1048576) (hs : (s : Int) ≤ 1048576) (hq : (q : Int) ≤ 1048576) (hna : a = none → r = 0 ∧ cap = 0) (hnb : b = none → s = 0 ∧ dap = 0) (hnc : c = none → q = 0 ∧ cap' = 0) :
    Calls Try.prog 67 #[.agg #[.slice a r cap, .slice b s dap, .int .i64 o, .int .i64 n], .slice c q cap'] w fun e w' => ViewR w.heap.size (turnedV r s D S o n (sprV r q D S E o n)) w e w' := by
  obtain ⟨W0, hW0⟩ : ∃ W0, (w.alloc (.cells #[.slice a r cap, .slice b s dap, .int .i64 o, .int .i64 n] 26)).alloc (.cells #[.slice none 0 0, .slice none 0 0, .int .i64 0, .int .i64 0] 26) = W0 := ⟨_, rfl⟩
  have hs0 : W0.heap.size = w.heap.size + 1 + 1 := by rw [← hW0]; simp
  have bl : Below w.heap.size w W0 := by rw [← hW0]; exact ((Below.refl _ _).alloc (Nat.le_refl _) _).alloc (by simp) _
  have n0 : Box W0 w.heap.size (.slice a r cap) (.slice b s dap) (.int .i64 o) (.int .i64 n) := by
    rw [← hW0]; exact (box_new w (.slice a r cap) (.slice b s dap) (.int .i64 o) (.int .i64 n) 26).below ((Below.refl (w.heap.size + 1) _).alloc (by simp) _) (by omega)
  obtain ⟨x0, x1, x2, x3⟩ := n0
  have m0 : Box W0 (w.heap.size + 1) (.slice none 0 0) (.slice none 0 0) (.int .i64 0) (.int .i64 0) := by
    have q := box_new (w.alloc (.cells #[.slice a r cap, .slice b s dap, .int .i64 o, .int .i64 n] 26)) (.slice none 0 0) (.slice none 0 0) (.int .i64 0) (.int .i64 0) 26
    rw [World.size_alloc] at q
    rw [← hW0]; exact q
  have g0 : Free W0 (w.heap.size + 1) := by
    have q := free_new (w.alloc (.cells #[.slice a r cap, .slice b s dap, .int .i64 o, .int .i64 n] 26)) #[.slice none 0 0, .slice none 0 0, .int .i64 0, .int .i64 0] 26
    rw [World.size_alloc] at q
    rw [← hW0]; exact q
  have H := hide (h.below (bl.mono hB))
  have H' := hide (h'.below (bl.mono hB))
  have HI := hide (hI.below (bl.mono hB))
  have l1 := (sprV_le r q D S E o n).1
  have l2 := (sprV_le r q D S E o n).2
  have CT := hide (turned ⟨#[115, 112, 114, 101, 97, 100]⟩ 73 (sprV r q D S E o n) (enters_of Try.func73 (by kernel_rfl) rfl) spreadNamed W0.heap.size a b c r s q cap dap cap' D S E o n W0 (Nat.le_refl _) (H.out.mono (by omega)) (H'.out.mono (by omega)) (HI.out.mono (by omega)) hr hs hna hnb (by omega) (by omega)
    (fun va vb W v ra rb hne hi hsz => spreadTurn r s q D S E o n _ _ c cap' va vb W v ra rb hi hsz hq hnc))
  have BL := hide bl
  have M0 := hide m0
  have G0 := hide g0
  have HS0 := hide hs0
  clear h h' hI m0 g0 bl hs0 l1 l2
  go_enter Try.func67, Try.ntmps67
  go_wp2_with fail
  refine CT.out.mono ?_
  rintro e w1 ⟨ta, tb, tc, td, rfl, hvo, b1⟩
  obtain ⟨T, hTT⟩ : ∃ T, turnedV r s D S o n (sprV r q D S E o n) = T := ⟨_, rfl⟩
  rw [hTT] at hvo ⊢
  have zz := HS0.out
  have M1 := hide (M0.out.below b1 (by omega))
  have G1 := hide (G0.out.below b1 (by omega))
  have B1 := hide (BL.out.trans (b1.mono BL.out.size))
  have VO := hide hvo
  have HTT := hide hTT
  clear hvo b1 zz hW0 CT hTT x0 x1 x2 x3
  obtain ⟨y0, y1, y2, y3⟩ := M1.out
  have gg := G1.out
  unfold Free at gg
  go_wp2_with fail
  refine bodyPost_ret (v := .agg #[.slice ta T.r tc, .slice tb T.s td, .int .i64 T.o, .int .i64 T.n]) (by simp [results, Try.results67, go_sem, y0, y1, y2, y3]) rfl ?_
  have zz := HS0.out
  have k4 := kept_sets4 w1 (w.heap.size + 1) (.slice ta T.r tc) (.slice tb T.s td) (.int .i64 T.o) (.int .i64 T.n)
  show ViewR w.heap.size (turnedV r s D S o n (sprV r q D S E o n)) w _ _
  rw [HTT.out]
  exact ⟨ta, tb, tc, td, rfl, (VO.out.kept k4 (fun k q e => by have := (VO.out.blk q).1; have e : k = w.heap.size + 1 := e; omega)).mono (B' := w.heap.size) (by omega), B1.out.trans (k4.below B1.out.size (fun j e => by have e : j = w.heap.size + 1 := e; omega))⟩
end Vo
end Go.Proofs.Ytejfodkobfdelaa

/- The model's l4Spread. -/
namespace Go.Proofs.Ytejfodkobfdelaa
namespace Vo
open Go.ChangeShapes Go.WideShapes Go.ChangeAt Go.RowKit Go.Joins Go.Sort
open Vl Vp Vr
set_option linter.unusedVariables false
set_option linter.unusedSimpArgs false

theorem own_some2 {w : World} {B : Nat} {t : TypeId} {v : Value} {r : Nat} {xs : List Value} (h : w.ownsRow B t 1 v (r + 1) xs) : ∃ g c, v = .slice (some ⟨g, 0, none⟩) (r + 1) c := by
  obtain ⟨_, ⟨_, h0⟩ | ⟨g, cap, cur, e, _⟩⟩ := h
  · omega
  · exact ⟨g, cap, e⟩
set_option maxHeartbeats 1000000 in
theorem l4Spread (B : Nat) (a b c : Option Addr) (r s cap dap q cap' : Nat) (D S J : Nat → Int) (w : World) (hB : B ≤ w.heap.size) (h : Ints B w a r D) (h1 : Ints B w b s S) (h' : Ints B w c q J) (ht : tok r s D S = true) (hrq : r ≤ q) (hq : q ≤ 6) (hi : ∀ i, i < r → 0 ≤ sprI r q D J i ∧ sprI r q D J i < D i) :
    Calls Try.prog 36 #[.agg #[.slice a r cap, .slice b s dap], .slice c q cap'] w fun e w' => e = .returned (.int .i64 (S (od D (sprI r q D J) r).toNat)) ∧ Below w.heap.size w w' := by
  obtain ⟨i0, hi0, hz0, hz1, hz2⟩ := info_parts infoInt
  obtain ⟨F, hF⟩ : ∃ F : Nat → Int, sprI r q D J = F := ⟨_, rfl⟩
  rw [hF] at hi ⊢
  obtain ⟨td, ts, tw⟩ := tok_split ht
  obtain ⟨ah, hah⟩ : ∃ ah : Nat, q - r = ah := ⟨_, rfl⟩
  have e1 : IntKind.i64.wrap ((q : Int) - (r : Int)) = (ah : Int) := by rw [IntKind.wrap_i64]; omega
  have FE := hide (show ∀ t, F t = if D t = 1 then 0 else J (ah + t) from fun t => by rw [← hF, ← hah]; rfl)
  have hbF : ∀ u, u < r → bd (F u) := fun u hu => by have := hi u hu; have := dok_len td hu; unfold bd; omega
  have bl : Below w.heap.size w (w.alloc (.cells #[.slice a r cap, .slice b s dap] 38)) := (Below.refl _ _).alloc (Nat.le_refl _) _
  have nv := bx_new w (.slice a r cap) (.slice b s dap) 38
  have bl2 : Below w.heap.size w ((w.alloc (.cells #[.slice a r cap, .slice b s dap] 38)).alloc (.cells #[] 3)) := bl.alloc (by simp) _
  have bl3 : Below (w.heap.size + 1) (w.alloc (.cells #[.slice a r cap, .slice b s dap] 38)) ((w.alloc (.cells #[.slice a r cap, .slice b s dap] 38)).alloc (.cells #[] 3)) := (Below.refl _ _).alloc (by simp) _
  have NV2 := hide (nv.below bl3 (by omega))
  have BL2 := hide bl2
  have H0 := hide h
  have H1 := hide h1
  have H2 := hide h'
  have HT := hide ht
  have HBF := hide hbF
  have HI := hide hi
  have AH := hide hah
  have r6 : r ≤ 6 := (dok_iff.1 td).1
  clear h h1 h' bl nv bl2 bl3 ht hi hbF hF td ts tw hah
  go_enter Try.func36, Try.ntmps36
  go_wp2_with fail
  clear e1
  go_loopw [6, 7] (fun v i wx => ∃ (m g c : Nat), m ≤ r ∧ v = .slice (some ⟨g, 0, none⟩) m c ∧ i = .int .i64 m ∧ wx.ownsRow (w.heap.size + 1) 3 1 (.slice (some ⟨g, 0, none⟩) m c) m (ints m F) ∧ Bx wx w.heap.size (.slice a r cap) (.slice b s dap) ∧ Below w.heap.size w wx) (fun _ i _ => r - (intOf i).toNat)
  case atStart =>
    refine ⟨0, w.heap.size + 1, 0, Nat.zero_le _, rfl, rfl, ?_, NV2.out, BL2.out⟩
    refine ⟨rfl, .inr ⟨w.heap.size + 1, 0, #[], rfl, Nat.le_refl _, ?_, Nat.le_refl _, by simp [maxLen], rfl, rfl⟩⟩
    have := heap_alloc_new (w.alloc (.cells #[.slice a r cap, .slice b s dap] 38)) (.cells #[] 3)
    rwa [World.size_alloc] at this
  case round =>
    obtain ⟨X, rfl⟩ : ∃ X, X = wr := ⟨_, rfl⟩
    obtain ⟨t, g, c0, hm, rfl, rfl, hown, hbx, bb⟩ := hrel
    have HX := hide hbx
    have BB := hide bb
    have HO := hide hown
    have hsz : w.heap.size + 1 ≤ X.heap.size := by have := (hown.lt g rfl); omega
    have hgl := (hown.lt g rfl).1
    have hgn : w.heap.size ≠ g := by omega
    obtain ⟨x0, x1⟩ := hbx
    clear bb hown
    have hBw := Nat.le_trans hB BB.out.size
    have HA := hide (H0.out.below (BB.out.mono hB))
    have HC := hide (H2.out.below (BB.out.mono hB))
    by_cases hlt : t < r
    · have tI : (t : Int) < r := by omega
      obtain ⟨u, hu⟩ : ∃ u, ah + t = u := ⟨_, rfl⟩
      have tq : u < q := by have := AH.out; omega
      have e3 : IntKind.i64.wrap ((ah : Int) + (t : Int)) = (u : Int) := by rw [IntKind.wrap_i64]; omega
      have e4 : (u : Int) < q := by omega
      rcases HA.out with h0 | ⟨ba, oa, rfl, hba, hca⟩
      · omega
      rcases HC.out with h0 | ⟨bc, oc, rfl, hbc, hcc⟩
      · omega
      have ca := (hca t hlt).1
      have cc := (hcc u tq).1
      have fe := FE.out t
      rw [hu] at fe
      clear hca hcc hu
      by_cases d : D t = 1
      · have d' : (D t == 1) = true := beq_iff_eq.2 d
        have FV := hide (show F t = 0 by rw [fe, if_pos d])
        clear d fe
        have OA := hide (HO.out.alloc (.cells #[.int .i64 (0)] 3))
        have HN := hide (World.news_of_block (cs := #[.int .i64 (0)]) (t := 3) (fr := (0, 0)) (heap_alloc_new X _))
        go_wp2_with (at_builtin; refine wpList_append_own_at _ rfl _ _ 22 rfl (w.heap.size + 1) 3 i0 (.int .i64 0) 1 8 Try.underlying22 hi0 hz0 hz1 hz2 rfl (by decide) _ _ _ rfl OA.out ⟨X.heap.size, 0, none⟩ 1 1 [.int .i64 (0)] rfl rfl HN.out (by simp [Value.oneCell']) (by unfold maxLen; omega) (by omega) (by simp; omega) ?_; intro v' w5 hown1 hgrow1 _ hat1; obtain ⟨g1, c5, rfl⟩ := own_some2 hown1; have HOW := hide hown1; have HGR := hide hgrow1; clear hown1 hgrow1 hat1)
        go_roundw
        case rel =>
          have h3 := HOW.out
          rw [← FV.out, ints_succ t F] at h3
          have b4 : Below X.heap.size X (X.alloc (.cells #[.int .i64 (0)] 3)) := (Below.refl _ _).alloc (Nat.le_refl _) _
          have b6 : Below w.heap.size w w5 := (BB.out.trans (b4.mono BB.out.size)).grown (show World.grownBy _ w5 (some g) from HGR.out) (by simp; omega) (by rintro q ⟨⟩; omega)
          exact ⟨t + 1, g1, c5, by omega, rfl, by go_num, h3, ⟨grown_old (show World.grownBy _ w5 (some g) from HGR.out) hgn (al_old HX.out.1), grown_old (show World.grownBy _ w5 (some g) from HGR.out) hgn (al_old HX.out.2)⟩, b6⟩
        case measure => simp [intOf]; omega
      · have d' : (D t == 1) = false := beq_eq_false_iff_ne.2 d
        have FV := hide (show F t = J u by rw [fe, if_neg d])
        clear d fe
        have OA := hide (HO.out.alloc (.cells #[.int .i64 (J u)] 3))
        have HN := hide (World.news_of_block (cs := #[.int .i64 (J u)]) (t := 3) (fr := (0, 0)) (heap_alloc_new X _))
        go_wp2_with (at_builtin; refine wpList_append_own_at _ rfl _ _ 22 rfl (w.heap.size + 1) 3 i0 (.int .i64 0) 1 8 Try.underlying22 hi0 hz0 hz1 hz2 rfl (by decide) _ _ _ rfl OA.out ⟨X.heap.size, 0, none⟩ 1 1 [.int .i64 (J u)] rfl rfl HN.out (by simp [Value.oneCell']) (by unfold maxLen; omega) (by omega) (by simp; omega) ?_; intro v' w5 hown1 hgrow1 _ hat1; obtain ⟨g1, c5, rfl⟩ := own_some2 hown1; have HOW := hide hown1; have HGR := hide hgrow1; clear hown1 hgrow1 hat1)
        go_roundw
        case rel =>
          have h3 := HOW.out
          rw [← FV.out, ints_succ t F] at h3
          have b4 : Below X.heap.size X (X.alloc (.cells #[.int .i64 (J u)] 3)) := (Below.refl _ _).alloc (Nat.le_refl _) _
          have b6 : Below w.heap.size w w5 := (BB.out.trans (b4.mono BB.out.size)).grown (show World.grownBy _ w5 (some g) from HGR.out) (by simp; omega) (by rintro q ⟨⟩; omega)
          exact ⟨t + 1, g1, c5, by omega, rfl, by go_num, h3, ⟨grown_old (show World.grownBy _ w5 (some g) from HGR.out) hgn (al_old HX.out.1), grown_old (show World.grownBy _ w5 (some g) from HGR.out) hgn (al_old HX.out.2)⟩, b6⟩
        case measure => simp [intOf]; omega
    · obtain rfl : t = r := by omega
      have hl := HO.out.lt g rfl
      have RW := hide (rw_of_row HO.out HBF.out)
      go_wp2_with fail
      refine (l4Get X.heap.size a b (some ⟨g, 0, none⟩) t s cap dap t c0 D S F X (Nat.le_refl _) (HA.out.mono (by omega)) ((H1.out.below (BB.out.mono hB)).mono (by omega)) (RW.out.ints hl.2) (Nat.le_refl _) HT.out HI.out).mono ?_
      rintro e w5 ⟨rfl, b5⟩
      have B5 := hide (BB.out.trans (b5.mono BB.out.size))
      clear b5
      go_wp2_with fail
      go_ret
      exact ⟨rfl, B5.out⟩
end Vo
end Go.Proofs.Ytejfodkobfdelaa
