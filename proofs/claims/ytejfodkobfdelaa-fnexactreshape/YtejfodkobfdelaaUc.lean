/- Spread of the model; Spread of the program. -/
import Derived.Test.YtejfodkobfdelaaUb
import Derived.Test.YtejfodkobfdelaaVag
namespace Go.Proofs.Ytejfodkobfdelaa
namespace Vo
open Go.ChangeShapes Go.WideShapes Go.ChangeAt Go.RowKit Go.Joins
open Vl Vp Vr
set_option linter.unusedVariables false
set_option linter.unusedSimpArgs false

theorem al_old {w : World} {o : Obj} {a : Addr} {v : Value} (h : w.cell? a = some v) : (w.alloc o).cell? a = some v := (World.cell?_alloc_old w o a (Nat.ne_of_lt (World.block_lt_of_cell? _ _ h))).trans h
theorem se_old {w : World} {p a : Addr} {u v : Value} (hp : a.block ≠ p.block) (h : w.cell? a = some v) : (w.setCell p u).cell? a = some v := (World.cell?_of_block (w := w) (a := a) ((Kept.setCell w p u).block a.block (World.block_lt_of_cell? _ _ h) hp)).trans h
/-- a view under way whose strides are noughts -/
def SprM (w1 : World) (q : Nat) (E : Nat → Int) (o n : Int) (p6 : Value) (wx : World) : Prop :=
  ∃ (P gS : Nat) (va : Value), p6 = .pointer (some ⟨P, 0, none⟩) ∧ w1.heap.size ≤ P ∧ P < wx.heap.size ∧ Box wx P va (.slice (some ⟨gS, 0, none⟩) q q) (.int .i64 o) (.int .i64 n) ∧ Free wx P ∧ RowV w1.heap.size wx va q E ∧ Rw wx gS q (fun _ => 0) ∧ w1.heap.size ≤ gS ∧ gS < wx.heap.size ∧ P ≠ gS ∧ va.ownBlock ≠ some P ∧ va.ownBlock ≠ some gS ∧ Below w1.heap.size w1 wx
theorem rw_al {w : World} {g n : Nat} {f : Nat → Int} (h : Rw w g n f) (x : Obj) : Rw (w.alloc x) g n f := h.kept (S := fun _ => False) (Kept.of_below ((Below.refl _ _).alloc (Nat.le_refl _) x)) id
theorem rw_be {w w' : World} {g n : Nat} {f : Nat → Int} (h : Rw w g n f) (hb : Below w.heap.size w w') : Rw w' g n f := h.kept (S := fun _ => False) (Kept.of_below hb) id
theorem rv_al {B : Nat} {w : World} {v : Value} {r : Nat} {D : Nat → Int} (h : RowV B w v r D) (x : Obj) : RowV B (w.alloc x) v r D := h.below ((Below.refl _ _).alloc (Nat.le_refl _) x)
/-- laid at last -/
theorem sprM_new {w1 Y : World} {q gS : Nat} {E : Nat → Int} {o n : Int} {va : Value} (t : TypeId) (hY : Below w1.heap.size w1 Y) (rv : RowV w1.heap.size Y va q E) (rg : Rw Y gS q (fun _ => 0)) (l1 : w1.heap.size ≤ gS) (l2 : gS < Y.heap.size) (hne : va.ownBlock ≠ some gS) :
    SprM w1 q E o n (.pointer (some ⟨Y.heap.size, 0, none⟩)) (Y.alloc (.cells #[va, .slice (some ⟨gS, 0, none⟩) q q, .int .i64 o, .int .i64 n] t)) := by
  have sY := hY.size
  refine ⟨Y.heap.size, gS, va, rfl, sY, by simp, box_new Y _ _ _ _ _, free_new Y _ _, rv_al rv _, rw_al rg _, l1, by simp; omega, by omega, fun e => ?_, hne, hY.alloc sY _⟩
  have := (rv.lt e).2
  omega
/-- laid before -/
theorem sprM_sets {w1 Z : World} {q gS P : Nat} {E : Nat → Int} {o n : Int} {va v0 v1 v2 v3 : Value} (hZ : Below w1.heap.size w1 Z) (hb : Box Z P v0 v1 v2 v3) (hf : Free Z P) (hP : w1.heap.size ≤ P) (lP : P < Z.heap.size) (rv : RowV w1.heap.size Z va q E) (rg : Rw Z gS q (fun _ => 0)) (l1 : w1.heap.size ≤ gS) (l2 : gS < Z.heap.size) (hPg : P ≠ gS) (hne : va.ownBlock ≠ some gS) (hnP : va.ownBlock ≠ some P) :
    SprM w1 q E o n (.pointer (some ⟨P, 0, none⟩)) ((((Z.setCell ⟨P, 0, none⟩ va).setCell ⟨P, 1, none⟩ (.slice (some ⟨gS, 0, none⟩) q q)).setCell ⟨P, 2, none⟩ (.int .i64 o)).setCell ⟨P, 3, none⟩ (.int .i64 n)) := by
  have k4 := kept_sets4 Z P va (.slice (some ⟨gS, 0, none⟩) q q) (.int .i64 o) (.int .i64 n)
  refine ⟨P, gS, va, rfl, hP, by simp [World.setCell]; omega, box_sets4 hb _ _ _ _, ((((hf.set _ _).set _ _).set _ _).set _ _), rv.kept k4 (fun k q e => by have e : k = P := e; subst e; exact hnP q), rg.kept k4 (by show ¬ gS = P; omega), l1, by simp [World.setCell]; omega, hPg, hnP, hne, hZ.trans (k4.below hZ.size (fun j e => by have e : j = P := e; omega))⟩
/-- laid under the strides -/
theorem sprM_under {w1 Y : World} {q : Nat} {E : Nat → Int} {o n : Int} {va : Value} (t t' : TypeId) (hY : Below w1.heap.size w1 Y) (rv : RowV w1.heap.size Y va q E) :
    SprM w1 q E o n (.pointer (some ⟨Y.heap.size, 0, none⟩)) ((Y.alloc (.cells #[va, .slice (some ⟨Y.heap.size + 1, 0, none⟩) q q, .int .i64 o, .int .i64 n] t)).alloc (.cells (madeCells #[.int .i64 0] q) t')) := by
  have sY := hY.size
  have rg := rw_new (Y.alloc (.cells #[va, .slice (some ⟨Y.heap.size + 1, 0, none⟩) q q, .int .i64 o, .int .i64 n] t)) q t'
  rw [World.size_alloc] at rg
  refine ⟨Y.heap.size, Y.heap.size + 1, va, rfl, sY, by simp; omega, (box_new Y _ _ _ _ _).below ((Below.refl _ _).alloc (Nat.le_refl _) _) (by simp), (free_new Y _ _).below ((Below.refl _ _).alloc (Nat.le_refl _) _) (by simp), rv_al (rv_al rv _) _, rg, by omega, by simp, by omega, fun e => ?_, fun e => ?_, (hY.alloc sY _).alloc (by simp; omega) _⟩
  · have := (rv.lt e).2; omega
  · have := (rv.lt e).2; omega
theorem spreadF (B : Nat) (a b c : Option Addr) (r s q cap dap cap' : Nat) (D S E : Nat → Int) (o n : Int) (w : World) (hB : B ≤ w.heap.size) (h : Ints B w a r D) (h' : Ints B w b s S) (hI : Ints B w c q E) (hr : (r : Int) ≤ 1048576) (hs : (s : Int) ≤ 1048576) (hq : (q : Int) ≤ 1048576) (hna : a = none → r = 0 ∧ cap = 0) (hnb : b = none → s = 0 ∧ dap = 0) (hnc : c = none → q = 0 ∧ cap' = 0) :
    Calls Try.prog 67 #[.agg #[.slice a r cap, .slice b s dap, .int .i64 o, .int .i64 n], .slice c q cap'] w fun e w' => ViewR w.heap.size (turnedV r s D S o n (sprV r q D S E o n)) w e w' := by
  obtain ⟨W0, hW0⟩ : ∃ W0, (w.alloc (.cells #[.slice a r cap, .slice b s dap, .int .i64 o, .int .i64 n] 26)).alloc (.cells #[.slice none 0 0, .slice none 0 0, .int .i64 0, .int .i64 0] 26) = W0 := ⟨_, rfl⟩
  have hs0 : W0.heap.size = w.heap.size + 1 + 1 := by rw [← hW0]; simp
  have bl : Below w.heap.size w W0 := by rw [← hW0]; exact ((Below.refl _ _).alloc (Nat.le_refl _) _).alloc (by simp) _
  have n0 : Box W0 w.heap.size (.slice a r cap) (.slice b s dap) (.int .i64 o) (.int .i64 n) := by
    rw [← hW0]; exact (box_new w (.slice a r cap) (.slice b s dap) (.int .i64 o) (.int .i64 n) 26).below ((Below.refl (w.heap.size + 1) _).alloc (by simp) _) (by omega)
  obtain ⟨x0, x1, x2, x3⟩ := n0
  have m0 : Box W0 (w.heap.size + 1) (.slice none 0 0) (.slice none 0 0) (.int .i64 0) (.int .i64 0) := by
    have q := box_new (w.alloc (.cells #[.slice a r cap, .slice b s dap, .int .i64 o, .int .i64 n] 26)) (.slice none 0 0) (.slice none 0 0) (.int .i64 0) (.int .i64 0) 26
    rw [World.size_alloc] at q
    rw [← hW0]; exact q
  have g0 : Free W0 (w.heap.size + 1) := by
    have q := free_new (w.alloc (.cells #[.slice a r cap, .slice b s dap, .int .i64 o, .int .i64 n] 26)) #[.slice none 0 0, .slice none 0 0, .int .i64 0, .int .i64 0] 26
    rw [World.size_alloc] at q
    rw [← hW0]; exact q
  have H := hide (h.below (bl.mono hB))
  have H' := hide (h'.below (bl.mono hB))
  have HI := hide (hI.below (bl.mono hB))
  have l1 := (sprV_le r q D S E o n).1
  have l2 := (sprV_le r q D S E o n).2
  have CT := hide (turned ⟨#[115, 112, 114, 101, 97, 100]⟩ 73 (sprV r q D S E o n) (enters_of Try.func73 (by kernel_rfl) rfl) spreadNamed W0.heap.size a b c r s q cap dap cap' D S E o n W0 (Nat.le_refl _) (H.out.mono (by omega)) (H'.out.mono (by omega)) (HI.out.mono (by omega)) hr hs hna hnb (by omega) (by omega)
    (fun va vb W v ra rb hne hi hsz => spreadTurn r s q D S E o n _ _ c cap' va vb W v ra rb hi hsz hq hnc))
  have BL := hide bl
  have M0 := hide m0
  have G0 := hide g0
  have HS0 := hide hs0
  clear h h' hI m0 g0 bl hs0 l1 l2
  go_enter Try.func67, Try.ntmps67
  go_wp2_with fail
  refine CT.out.mono ?_
  rintro e w1 ⟨ta, tb, tc, td, rfl, hvo, b1⟩
  obtain ⟨T, hTT⟩ : ∃ T, turnedV r s D S o n (sprV r q D S E o n) = T := ⟨_, rfl⟩
  rw [hTT] at hvo ⊢
  have zz := HS0.out
  have M1 := hide (M0.out.below b1 (by omega))
  have G1 := hide (G0.out.below b1 (by omega))
  have B1 := hide (BL.out.trans (b1.mono BL.out.size))
  have VO := hide hvo
  have HTT := hide hTT
  clear hvo b1 zz hW0 CT hTT x0 x1 x2 x3
  obtain ⟨y0, y1, y2, y3⟩ := M1.out
  have gg := G1.out
  unfold Free at gg
  go_wp2_with fail
  refine bodyPost_ret (v := .agg #[.slice ta T.r tc, .slice tb T.s td, .int .i64 T.o, .int .i64 T.n]) (by simp [results, Try.results67, go_sem, y0, y1, y2, y3]) rfl ?_
  have zz := HS0.out
  have k4 := kept_sets4 w1 (w.heap.size + 1) (.slice ta T.r tc) (.slice tb T.s td) (.int .i64 T.o) (.int .i64 T.n)
  show ViewR w.heap.size (turnedV r s D S o n (sprV r q D S E o n)) w _ _
  rw [HTT.out]
  exact ⟨ta, tb, tc, td, rfl, (VO.out.kept k4 (fun k q e => by have := (VO.out.blk q).1; have e : k = w.heap.size + 1 := e; omega)).mono (B' := w.heap.size) (by omega), B1.out.trans (k4.below B1.out.size (fun j e => by have e : j = w.heap.size + 1 := e; omega))⟩
end Vo
end Go.Proofs.Ytejfodkobfdelaa
