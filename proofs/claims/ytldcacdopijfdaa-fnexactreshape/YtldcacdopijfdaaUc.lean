/- Spread of the model; Spread of the program. -/
import Derived.Test.YtldcacdopijfdaaUb
import Derived.Test.YtldcacdopijfdaaVag
namespace Go.Proofs.Ytldcacdopijfdaa
namespace Vo
open Go.ChangeShapes Go.WideShapes Go.ChangeAt Go.RowKit Go.Joins
open Vl Vp Vr
set_option linter.unusedVariables false
set_option linter.unusedSimpArgs false

theorem al_old {w : World} {o : Obj} {a : Addr} {v : Value} (h : w.cell? a = some v) : (w.alloc o).cell? a = some v := (World.cell?_alloc_old w o a (Nat.ne_of_lt (World.block_lt_of_cell? _ _ h))).trans h
theorem se_old {w : World} {p a : Addr} {u v : Value} (hp : a.block ≠ p.block) (h : w.cell? a = some v) : (w.setCell p u).cell? a = some v := (World.cell?_of_block (w := w) (a := a) ((Kept.setCell w p u).block a.block (World.block_lt_of_cell? _ _ h) hp)).trans h
/-- a view under way whose strides are noughts -/
def SprM (w1 : World) (q : Nat) (E : Nat → Int) (o n : Int) (p6 : Value) (wx : World) : Prop :=
  ∃ (P gS : Nat) (va : Value), p6 = .pointer (some ⟨P, 0, none⟩) ∧ w1.heap.size ≤ P ∧ P < wx.heap.size ∧ Box wx P va (.slice (some ⟨gS, 0, none⟩) q q) (.int .i64 o) (.int .i64 n) ∧ Free wx P ∧ RowV w1.heap.size wx va q E ∧ Rw wx gS q (fun _ => 0) ∧ w1.heap.size ≤ gS ∧ gS < wx.heap.size ∧ P ≠ gS ∧ va.ownBlock ≠ some P ∧ va.ownBlock ≠ some gS ∧ Below w1.heap.size w1 wx
theorem rw_al {w : World} {g n : Nat} {f : Nat → Int} (h : Rw w g n f) (x : Obj) : Rw (w.alloc x) g n f := h.kept (S := fun _ => False) (Kept.of_below ((Below.refl _ _).alloc (Nat.le_refl _) x)) id
theorem rw_be {w w' : World} {g n : Nat} {f : Nat → Int} (h : Rw w g n f) (hb : Below w.heap.size w w') : Rw w' g n f := h.kept (S := fun _ => False) (Kept.of_below hb) id
theorem rv_al {B : Nat} {w : World} {v : Value} {r : Nat} {D : Nat → Int} (h : RowV B w v r D) (x : Obj) : RowV B (w.alloc x) v r D := h.below ((Below.refl _ _).alloc (Nat.le_refl _) x)
/-- laid at last -/
theorem sprM_new {w1 Y : World} {q gS : Nat} {E : Nat → Int} {o n : Int} {va : Value} (t : TypeId) (hY : Below w1.heap.size w1 Y) (rv : RowV w1.heap.size Y va q E) (rg : Rw Y gS q (fun _ => 0)) (l1 : w1.heap.size ≤ gS) (l2 : gS < Y.heap.size) (hne : va.ownBlock ≠ some gS) :
    SprM w1 q E o n (.pointer (some ⟨Y.heap.size, 0, none⟩)) (Y.alloc (.cells #[va, .slice (some ⟨gS, 0, none⟩) q q, .int .i64 o, .int .i64 n] t)) := by
  have sY := hY.size
  refine ⟨Y.heap.size, gS, va, rfl, sY, by simp, box_new Y _ _ _ _ _, free_new Y _ _, rv_al rv _, rw_al rg _, l1, by simp; omega, by omega, fun e => ?_, hne, hY.alloc sY _⟩
  have := (rv.lt e).2
  omega
/-- laid before -/
theorem sprM_sets {w1 Z : World} {q gS P : Nat} {E : Nat → Int} {o n : Int} {va v0 v1 v2 v3 : Value} (hZ : Below w1.heap.size w1 Z) (hb : Box Z P v0 v1 v2 v3) (hf : Free Z P) (hP : w1.heap.size ≤ P) (lP : P < Z.heap.size) (rv : RowV w1.heap.size Z va q E) (rg : Rw Z gS q (fun _ => 0)) (l1 : w1.heap.size ≤ gS) (l2 : gS < Z.heap.size) (hPg : P ≠ gS) (hne : va.ownBlock ≠ some gS) (hnP : va.ownBlock ≠ some P) :
    SprM w1 q E o n (.pointer (some ⟨P, 0, none⟩)) ((((Z.setCell ⟨P, 0, none⟩ va).setCell ⟨P, 1, none⟩ (.slice (some ⟨gS, 0, none⟩) q q)).setCell ⟨P, 2, none⟩ (.int .i64 o)).setCell ⟨P, 3, none⟩ (.int .i64 n)) := by
  have k4 := kept_sets4 Z P va (.slice (some ⟨gS, 0, none⟩) q q) (.int .i64 o) (.int .i64 n)
  refine ⟨P, gS, va, rfl, hP, by simp [World.setCell]; omega, box_sets4 hb _ _ _ _, ((((hf.set _ _).set _ _).set _ _).set _ _), rv.kept k4 (fun k q e => by have e : k = P := e; subst e; exact hnP q), rg.kept k4 (by show ¬ gS = P; omega), l1, by simp [World.setCell]; omega, hPg, hnP, hne, hZ.trans (k4.below hZ.size (fun j e => by have e : j = P := e; omega))⟩
/-- laid under the strides -/
theorem sprM_under {w1 Y : World} {q : Nat} {E : Nat → Int} {o n : Int} {va : Value} (t t' : TypeId) (hY : Below w1.heap.size w1 Y) (rv : RowV w1.heap.size Y va q E) :
    SprM w1 q E o n (.pointer (some ⟨Y.heap.size, 0, none⟩)) ((Y.alloc (.cells #[va, .slice (some ⟨Y.heap.size + 1, 0, none⟩) q q, .int .i64 o, .int .i64 n] t)).alloc (.cells (madeCells #[.int .i64 0] q) t')) := by
  have sY := hY.size
  have rg := rw_new (Y.alloc (.cells #[va, .slice (some ⟨Y.heap.size + 1, 0, none⟩) q q, .int .i64 o, .int .i64 n] t)) q t'
  rw [World.size_alloc] at rg
  refine ⟨Y.heap.size, Y.heap.size + 1, va, rfl, sY, by simp; omega, (box_new Y _ _ _ _ _).below ((Below.refl _ _).alloc (Nat.le_refl _) _) (by simp), (free_new Y _ _).below ((Below.refl _ _).alloc (Nat.le_refl _) _) (by simp), rv_al (rv_al rv _) _, rg, by omega, by simp, by omega, fun e => ?_, fun e => ?_, (hY.alloc sY _).alloc (by simp; omega) _⟩
  · have := (rv.lt e).2; omega
  · have := (rv.lt e).2; omega
set_option maxRecDepth 100000 in
set_option maxHeartbeats 3000000 in
theorem specSpread (B : Nat) (a b : Option Addr) (c : Addr) (r s q cap dap cap' : Nat) (D S E : Nat → Int) (o n : Int) (w : World) (hB : B ≤ w.heap.size) (h : Ints B w a r D) (h' : Ints B w b s S) (hI : Ints B w (some c) q E) (hr : (r : Int) ≤ 1048576) (hs : (s : Int) ≤ 1048576) (hq : (q : Int) ≤ 1048576) :
    Calls Try.prog 23 #[.agg #[.slice a r cap, .slice b s dap, .int .i64 o, .int .i64 n], .slice (some c) q cap'] w fun e w' => ViewR w.heap.size (turnedV r s D S o n (sprV r q D S E o n)) w e w' := by
  obtain ⟨W0, hW0⟩ : ∃ W0, (w.alloc (.cells #[.slice a r cap, .slice b s dap, .int .i64 o, .int .i64 n] 24)).alloc (.cells #[.slice none 0 0, .slice none 0 0, .int .i64 0, .int .i64 0] 24) = W0 := ⟨_, rfl⟩
  have hs0 : W0.heap.size = w.heap.size + 1 + 1 := by rw [← hW0]; simp
  have bl : Below w.heap.size w W0 := by rw [← hW0]; exact ((Below.refl _ _).alloc (Nat.le_refl _) _).alloc (by simp) _
  have n0 : Box W0 w.heap.size (.slice a r cap) (.slice b s dap) (.int .i64 o) (.int .i64 n) := by
    rw [← hW0]; exact (box_new w (.slice a r cap) (.slice b s dap) (.int .i64 o) (.int .i64 n) 24).below ((Below.refl (w.heap.size + 1) _).alloc (by simp) _) (by omega)
  have m0 : Box W0 (w.heap.size + 1) (.slice none 0 0) (.slice none 0 0) (.int .i64 0) (.int .i64 0) := by
    have q := box_new (w.alloc (.cells #[.slice a r cap, .slice b s dap, .int .i64 o, .int .i64 n] 24)) (.slice none 0 0) (.slice none 0 0) (.int .i64 0) (.int .i64 0) 24
    rw [World.size_alloc] at q
    rw [← hW0]; exact q
  have g0 : Free W0 (w.heap.size + 1) := by
    have q := free_new (w.alloc (.cells #[.slice a r cap, .slice b s dap, .int .i64 o, .int .i64 n] 24)) #[.slice none 0 0, .slice none 0 0, .int .i64 0, .int .i64 0] 24
    rw [World.size_alloc] at q
    rw [← hW0]; exact q
  have H := hide (h.below (bl.mono hB))
  have H' := hide (h'.below (bl.mono hB))
  have HI := hide (hI.below (bl.mono hB))
  have BL := hide bl
  have N0 := hide n0
  have M0 := hide m0
  have G0 := hide g0
  have HS0 := hide hs0
  obtain ⟨x0, x1, x2, x3⟩ := n0
  clear h h' hI bl m0 g0 hs0
  obtain ⟨mo, hmo⟩ : ∃ mo, (q : Int) - (r : Int) = mo := ⟨_, rfl⟩
  have e1 : IntKind.i64.wrap ((q : Int) - (r : Int)) = mo := by rw [IntKind.wrap_i64]; omega
  have HMO := hide hmo
  clear hmo
  go_enter Try.func23, Try.ntmps23
  go_wp2_with fail
  clear hW0
  refine (specViewOk B a b r s cap dap D S o n W0 (by have := HS0.out; omega) H.out H'.out hr hs).mono ?_
  rintro e w1 ⟨rfl, b1⟩
  have zz := HS0.out
  have z1 : w.heap.size + 1 < w1.heap.size := by have := b1.size; omega
  have N1 := hide (N0.out.below b1 (by omega))
  have M1 := hide (M0.out.below b1 (by omega))
  have G1 := hide (G0.out.below b1 (by omega))
  have H1 := hide (H.out.below (b1.mono (by omega)))
  have H1' := hide (H'.out.below (b1.mono (by omega)))
  have HI1 := hide (HI.out.below (b1.mono (by omega)))
  have B1 := hide (BL.out.trans (b1.mono BL.out.size))
  clear b1 zz x0 x1 x2 x3 e1
  obtain ⟨y0, y1, y2, y3⟩ := M1.out
  have gg := G1.out
  unfold Free at gg
  cases hv : vok r s D S o n with
  | false =>
    have ez := hide (show turnedV r s D S o n (sprV r q D S E o n) = PV.zero by unfold turnedV; rw [hv]; rfl)
    clear hv
    go_wp2_with fail
    refine bodyPost_ret (v := .agg #[.slice none 0 0, .slice none 0 0, .int .i64 0, .int .i64 0]) (by simp [results, Try.results23, go_sem, y0, y1, y2, y3]) rfl (by
      rw [ez.out]
      refine viewR_zero ?_
      repeat (refine Below.setCell ?_ (by simp) _)
      exact B1.out)
  | true =>
  have HV := hide (vok_iff.1 hv)
  have ET := hide (show turnedV r s D S o n (sprV r q D S E o n) = sprV r q D S E o n by rw [spr_turned, if_pos hv])
  clear hv
  go_wp2_with fail
  refine (Vs.specDimsOk B (some c) q cap' E w1 HI1.out hq).mono ?_
  rintro e w1' ⟨rfl, hw⟩
  have hw := hw.symm
  subst hw
  cases hd : dok q E with
  | false =>
    have ez := hide (ET.out.trans (sprV_no (fun h => by have := h.1; rw [hd] at this; exact absurd this (by decide))))
    clear hd
    go_wp2_with fail
    refine bodyPost_ret (v := .agg #[.slice none 0 0, .slice none 0 0, .int .i64 0, .int .i64 0]) (by simp [results, Try.results23, go_sem, y0, y1, y2, y3]) rfl (by
      rw [ez.out]
      refine viewR_zero ?_
      repeat (refine Below.setCell ?_ (by simp) _)
      exact B1.out)
  | true =>
  have HD := hide hd
  clear hd
  by_cases hrq : r ≤ q
  rotate_left
  · have ez := hide (ET.out.trans (sprV_no (fun h => hrq h.2.1)))
    have e2 : decide (mo < 0) = true := decide_eq_true (by have := HMO.out; omega)
    clear hrq
    go_wp2_with fail
    refine bodyPost_ret (v := .agg #[.slice none 0 0, .slice none 0 0, .int .i64 0, .int .i64 0]) (by simp [results, Try.results23, go_sem, y0, y1, y2, y3]) rfl (by
      rw [ez.out]
      refine viewR_zero ?_
      repeat (refine Below.setCell ?_ (by simp) _)
      exact B1.out)
  have hmo := HMO.out
  obtain ⟨ah, rfl⟩ : ∃ ah : Nat, mo = ah := ⟨mo.toNat, by omega⟩
  have AH := hide (show q - r = ah by omega)
  have e2 : decide ((ah : Int) < 0) = false := decide_eq_false (by omega)
  have q6 : q ≤ 6 := (dok_iff.1 HD.out).1
  have r6 : r ≤ 6 := (dok_iff.1 HV.out.1).1
  have hmk := make_int q (by omega)
  have CA := hide (fun (W : World) (hW : Below w1.heap.size w1 W) => l3Ints B c q cap' E W (HI1.out.below (hW.mono (by omega))) (by have := hW.size; omega) hq)
  have lt1 : w.heap.size < w1.heap.size := by omega
  obtain ⟨x0, x1, x2, x3⟩ := N1.out
  clear hmo y0 y1 y2 y3 gg
  go_upto_region 4 with fail
  go_cut [6] (fun p6 wx => SprM w1 q E o n p6 wx)
  case first =>
    go_region_held3 (fun w' => w'.cell? ⟨w.heap.size, 2, none⟩ = some (.int .i64 o) ∧ w'.cell? ⟨w.heap.size, 3, none⟩ = some (.int .i64 n))
      ((try dsimp only) <;> (repeat' apply And.intro) <;> (repeat (first | with_reducible assumption | with_reducible apply drew_old | with_reducible apply al_old | (with_reducible apply se_old; (focus (first | (dsimp only; omega) | (simp; done) | (simp; omega)))) | (with_reducible apply below_old; (focus (with_reducible assumption))))))
      (first
      | (go_at_call 30
         refine (CA.out _ (by first | exact (Below.refl _ _).drew | exact (Below.refl _ _).drew.alloc (Nat.le_refl _) _ | exact ((Below.refl _ _).drew.alloc (Nat.le_refl _) _).alloc (by simp only [World.size_alloc, drewSize]; omega) _)).mono ?_
         rintro e wA ⟨va, rfl, hva, bA⟩
         obtain ⟨aa, ac, rfl, _⟩ := RowV.own hva
         have sA := bA.size
         simp only [World.size_alloc, drewSize] at sA
         first
           | (have eC := fun i => bA.cell (p := ⟨w1.heap.size, i, none⟩) (by simp only [World.size_alloc, drewSize]; omega)
              have fC := fun i => bA.frozen (p := ⟨w1.heap.size, i, none⟩) (by simp only [World.size_alloc, drewSize]; omega)
              have eD := fun i => bA.cell (p := ⟨w1.heap.size + 1, i, none⟩) (by simp only [World.size_alloc, drewSize]; omega)
              have fD := fun i => bA.frozen (p := ⟨w1.heap.size + 1, i, none⟩) (by simp only [World.size_alloc, drewSize]; omega))
           | (have eC := fun i => bA.cell (p := ⟨w1.heap.size, i, none⟩) (by simp only [World.size_alloc, drewSize]; omega)
              have fC := fun i => bA.frozen (p := ⟨w1.heap.size, i, none⟩) (by simp only [World.size_alloc, drewSize]; omega)
              have nA : ¬ (w1.heap.size = wA.heap.size) := by omega
              have eF : ∀ (x : Obj) i, (wA.alloc x).cell? ⟨w1.heap.size, i, none⟩ = wA.cell? ⟨w1.heap.size, i, none⟩ := fun x i => World.cell?_alloc_old wA x ⟨w1.heap.size, i, none⟩ (by show w1.heap.size ≠ wA.heap.size; omega)
              have fF : ∀ (x : Obj) i, (wA.alloc x).frozen? ⟨w1.heap.size, i, none⟩ = wA.frozen? ⟨w1.heap.size, i, none⟩ := fun x i => ((Below.refl wA.heap.size wA).alloc (Nat.le_refl _) x).frozen (p := ⟨w1.heap.size, i, none⟩) (by show w1.heap.size < wA.heap.size; omega))
           | skip))
    all_goals (go_wp2_with fail)
    all_goals go_meet
    · have ba : Below w1.heap.size w1 wA := (Below.refl _ w1).drew.trans bA
      have rv : RowV w1.heap.size wA _ q E := hva
      have := sprM_new (Y := wA.alloc (.cells (madeCells #[.int .i64 0] q) 3)) (o := o) (n := n) 24 (ba.alloc ba.size _) (rv_al rv _) (rw_new wA q 3) ba.size (by simp) (fun e => by have := (rv.lt e).2; omega)
      rw [World.size_alloc] at this
      exact this
    · have ba : Below w1.heap.size w1 wA := (Below.refl _ w1).drew.trans bA
      exact sprM_under _ _ ba hva
    · have ba : Below w1.heap.size w1 wA := ((Below.refl _ w1).drew.alloc (Nat.le_refl _) _).trans (bA.mono (by simp only [World.size_alloc, drewSize]; omega))
      have rv := hva.mono (B' := w1.heap.size) (by simp only [World.size_alloc, drewSize]; omega)
      exact sprM_new _ ba rv (rw_be (rw_new w1.drew q 3) bA) (Nat.le_refl _) (by omega) (fun e => by have q := (hva.lt e).1; simp only [World.size_alloc, drewSize] at q; omega)
    · have ba : Below w1.heap.size w1 wA := (((Below.refl _ w1).drew.alloc (Nat.le_refl _) _).alloc (by simp only [World.size_alloc, drewSize]; omega) _).trans (bA.mono (by simp only [World.size_alloc, drewSize]; omega))
      have rv := hva.mono (B' := w1.heap.size) (by simp only [World.size_alloc, drewSize]; omega)
      have bz := box_new (w1.drew.alloc (.cells (madeCells #[.int .i64 0] q) 3)) (.slice none 0 0) (.slice none 0 0) (.int .i64 0) (.int .i64 0) 24
      have fz := free_new (w1.drew.alloc (.cells (madeCells #[.int .i64 0] q) 3)) #[.slice none 0 0, .slice none 0 0, .int .i64 0, .int .i64 0] 24
      rw [World.size_alloc, drewSize] at bz fz
      exact sprM_sets ba (bz.below bA (by simp only [World.size_alloc, drewSize]; omega)) (fz.below bA (by simp only [World.size_alloc, drewSize]; omega)) (by omega) (by omega) rv (rw_be (rw_al (rw_new w1.drew q 3) _) bA) (Nat.le_refl _) (by omega) (by show w1.heap.size + 1 ≠ w1.heap.size; omega) (fun e => by have q := (hva.lt e).1; simp only [World.size_alloc, drewSize] at q; omega) (fun e => by have q := (hva.lt e).1; simp only [World.size_alloc, drewSize] at q; omega)
    · have ba : Below w1.heap.size w1 wA := ((Below.refl _ w1).drew.alloc (Nat.le_refl _) _).trans (bA.mono (by simp only [World.size_alloc, drewSize]; omega))
      have rv := hva.mono (B' := w1.heap.size) (by simp only [World.size_alloc, drewSize]; omega)
      have bz := (box_new w1.drew (.slice none 0 0) (.slice none 0 0) (.int .i64 0) (.int .i64 0) 24).below bA (by simp only [World.size_alloc, drewSize]; omega)
      have fz := (free_new w1.drew #[.slice none 0 0, .slice none 0 0, .int .i64 0, .int .i64 0] 24).below bA (by simp only [World.size_alloc, drewSize]; omega)
      rw [drewSize] at bz fz
      exact sprM_sets (ba.alloc ba.size _) (bz.below ((Below.refl _ _).alloc (Nat.le_refl _) _) (by omega)) (fz.below ((Below.refl _ _).alloc (Nat.le_refl _) _) (by omega)) (Nat.le_refl _) (by simp only [World.size_alloc]; omega) (rv_al rv _) (rw_new wA q 3) ba.size (by simp) (by show w1.heap.size ≠ wA.heap.size; omega) (fun e => by have q := (hva.lt e).2; omega) (fun e => by have q := (hva.lt e).1; simp only [World.size_alloc, drewSize] at q; omega)
    · have ba : Below w1.heap.size w1 wA := (((Below.refl _ w1).drew.alloc (Nat.le_refl _) _).alloc (by simp only [World.size_alloc, drewSize]; omega) _).trans (bA.mono (by simp only [World.size_alloc, drewSize]; omega))
      have rv := hva.mono (B' := w1.heap.size) (by simp only [World.size_alloc, drewSize]; omega)
      have bz := ((box_new w1.drew (.slice none 0 0) (.slice none 0 0) (.int .i64 0) (.int .i64 0) 24).below ((Below.refl _ _).alloc (Nat.le_refl _) _) (by simp)).below bA (by simp only [World.size_alloc, drewSize]; omega)
      have fz := ((free_new w1.drew #[.slice none 0 0, .slice none 0 0, .int .i64 0, .int .i64 0] 24).below ((Below.refl _ _).alloc (Nat.le_refl _) _) (by simp)).below bA (by simp only [World.size_alloc, drewSize]; omega)
      have rz := rw_be (rw_new (w1.drew.alloc (.cells #[.slice none 0 0, .slice none 0 0, .int .i64 0, .int .i64 0] 24)) q 3) bA
      rw [World.size_alloc] at rz
      rw [drewSize] at bz fz rz
      exact sprM_sets ba bz fz (Nat.le_refl _) (by omega) rv rz (by omega) (by omega) (by show w1.heap.size ≠ w1.heap.size + 1; omega) (fun e => by have q := (hva.lt e).1; simp only [World.size_alloc, drewSize] at q; omega) (fun e => by have q := (hva.lt e).1; simp only [World.size_alloc, drewSize] at q; omega)
  case rest =>
  obtain ⟨P, gS, va, rfl, lP, lP', bxP, frP, rv, rg, lg, lg', hPg, hnP, hnG, b2⟩ := hcut
  obtain ⟨W2, rfl⟩ : ∃ W2, W2 = wc := ⟨_, rfl⟩
  obtain ⟨aa, ac, rfl, ova⟩ := rv.own
  have N2 := hide (N1.out.below b2 (by omega))
  have M2 := hide (M1.out.below b2 (by omega))
  have G2 := hide (G1.out.below b2 (by omega))
  have H2 := hide (H1.out.below (b2.mono (by omega)))
  have H2' := hide (H1'.out.below (b2.mono (by omega)))
  have HI2 := hide (HI1.out.below (b2.mono (by omega)))
  have B2 := hide (B1.out.trans (b2.mono B1.out.size))
  have PX := hide bxP
  have FP := hide frP
  have RV := hide rv
  have RG := hide rg
  have HNG := hide hnG
  have s2 : w1.heap.size ≤ W2.heap.size := b2.size
  obtain rfl := HV.out.2.1
  clear bxP frP rv rg b2 hnG hnP ova x0 x1 x2 x3 hmk e2
  obtain ⟨x0, x1, x2, x3⟩ := N2.out
  go_wp2_with fail
  go_loopw [7] (fun i wx => ∃ t : Nat, t ≤ s ∧ i = .int .i64 t ∧ Rw wx gS q (sprS s q D S E t) ∧ Kept (· = gS) W2 wx ∧ ∀ j, j < t → D j = E (ah + j) ∨ D j = 1) (fun i _ => s - (intOf i).toNat)
  case atStart => exact ⟨0, Nat.zero_le _, rfl, RG.out.same (fun t ht => sprS_zero _ _ _ _ _ _), Kept.refl _ _, fun j hj => by omega⟩
  case round =>
    obtain ⟨X, rfl⟩ : ∃ X, X = wr := ⟨_, rfl⟩
    obtain ⟨t, ht, rfl, hrw, hkp, hall⟩ := hrel
    have HRW := hide hrw
    have HKP := hide hkp
    have HALL := hide hall
    have sX : W2.heap.size ≤ X.heap.size := hkp.size
    have NX := hide (N2.out.kept hkp (by omega) (by show ¬ w.heap.size = gS; omega))
    have MX := hide (M2.out.kept hkp (by omega) (by show ¬ w.heap.size + 1 = gS; omega))
    have PXX := hide (PX.out.kept hkp lP' (by show ¬ P = gS; exact hPg))
    have GX := hide (G2.out.kept hkp (by omega) (by show ¬ w.heap.size + 1 = gS; omega))
    have HIX := hide (HI2.out.kept (by omega) hkp (fun y hy e => by have e : y = gS := e; omega))
    have HX := hide (H2.out.kept (by omega) hkp (fun y hy e => by have e : y = gS := e; omega))
    have HX' := hide (H2'.out.kept (by omega) hkp (fun y hy e => by have e : y = gS := e; omega))
    have BX := hide (B2.out.trans (hkp.below B2.out.size (fun j e => by have e : j = gS := e; omega)))
    clear hrw hkp hall x0 x1 x2 x3
    obtain ⟨x0, x1, x2, x3⟩ := NX.out
    obtain ⟨p0, p1, p2, p3⟩ := PXX.out
    by_cases hlt : t < s
    · have tI : (t : Int) < s := by omega
      obtain ⟨u, hu⟩ : ∃ u, ah + t = u := ⟨_, rfl⟩
      have tq : u < q := by have := AH.out; omega
      have e3 : IntKind.i64.wrap ((ah : Int) + (t : Int)) = (u : Int) := by rw [IntKind.wrap_i64]; omega
      have e4 : (u : Int) < q := by omega
      have HU := hide hu
      clear hu
      rcases HX.out with h0 | ⟨ba, oa, rfl, hba, hca⟩
      · omega
      rcases HX'.out with h0 | ⟨bb, ob, rfl, hbb, hcb⟩
      · omega
      rcases HIX.out with h0 | ⟨bi, oi, hce, hbi, hci⟩
      · omega
      injection hce with hce
      subst hce
      have ca := (hca t hlt).1
      have cb := (hcb t hlt).1
      have ci := (hci u tq).1
      have BS := hide (hcb t hlt).2
      obtain ⟨cg, fg, _⟩ := HRW.out u tq
      have nb : ¬ (ba = gS) := by omega
      have nb2 : ¬ (bb = gS) := by omega
      have nb3 : ¬ (bi = gS) := by omega
      have nb4 : ¬ (w.heap.size = gS) := by omega
      clear hca hcb hci hba hbb hbi
      by_cases d1 : D t = E u
      · have d1' : (D t == E u) = true := beq_iff_eq.2 d1
        have D1 := hide d1
        clear d1
        go_wp2_with fail
        go_region_held3 (fun w' => w'.cell? ⟨w.heap.size, 0, none⟩ = some (.slice (some ⟨ba, oa, none⟩) s cap) ∧ w'.cell? ⟨ba, oa + t, none⟩ = some (.int .i64 (D t)) ∧ w'.cell? ⟨bi, oi + u, none⟩ = some (.int .i64 (E u)))
          ((try dsimp only) <;> (repeat' apply And.intro) <;> (first | with_reducible assumption | assumption)) (fail)
        go_wp2_with fail
        go_region_held3 (fun w' => w'.cell? ⟨w.heap.size, 1, none⟩ = some (.slice (some ⟨bb, ob, none⟩) s dap) ∧ w'.cell? ⟨bb, ob + t, none⟩ = some (.int .i64 (S t)) ∧ w'.cell? ⟨P, 1, none⟩ = some (.slice (some ⟨gS, 0, none⟩) q q))
          ((try dsimp only) <;> (repeat' apply And.intro) <;> (repeat (first | with_reducible assumption | with_reducible apply drew_old | (with_reducible apply se_old; (focus (first | (dsimp only; omega) | (simp; done) | (simp; omega)))) | assumption))) (fail)
        all_goals (go_wp2_with fail)
        all_goals go_roundw
        all_goals first
          | (simp only [intOf]; omega)
          | (simp [intOf]; omega)
          | exact ⟨t + 1, by omega, by go_num, ((show Rw X.drew.drew gS q (sprS s q D S E t) from HRW.out).set u (S t) BS.out).same (fun j hj => by
              have a' := AH.out
              have u' := HU.out
              by_cases c : j = u
              · subst c
                have := sprS_at (r := s) (q := q) (D := D) (S := S) (E := E) t (by rw [a', u']; exact D1.out)
                rw [a', u'] at this
                rw [this]; simp
              · rw [sprS_ne t (by rw [a', u']; exact c)]; simp [c]), (HKP.out.trans (Kept.of_below (Below.refl _ X).drew.drew)).trans (Kept.setCell _ ⟨gS, u, none⟩ _), fun j hj => by
                by_cases c : j = t
                · subst c; exact .inl (by rw [HU.out]; exact D1.out)
                · exact HALL.out j (by omega)⟩
      · have d1' : (D t == E u) = false := beq_eq_false_iff_ne.2 d1
        have D1 := hide d1
        by_cases d2 : D t = 1
        · have d2' : (D t != 1) = false := by rw [bne_eq_false_iff_eq]; exact d2
          have D2 := hide d2
          clear d1 d2
          go_wp2_with fail
          go_region_held3 (fun w' => w'.cell? ⟨w.heap.size, 0, none⟩ = some (.slice (some ⟨ba, oa, none⟩) s cap) ∧ w'.cell? ⟨ba, oa + t, none⟩ = some (.int .i64 (D t)) ∧ w'.cell? ⟨bi, oi + u, none⟩ = some (.int .i64 (E u)))
            ((try dsimp only) <;> (repeat' apply And.intro) <;> (first | with_reducible assumption | assumption)) (fail)
          go_wp2_with fail
          all_goals go_roundw
          all_goals first
            | (simp only [intOf]; omega)
            | (simp [intOf]; omega)
            | exact ⟨t + 1, by omega, by go_num, (show Rw X.drew gS q (sprS s q D S E (t + 1)) from HRW.out.same (fun j hj => sprS_no t (by rw [AH.out, HU.out]; exact D1.out) j)), HKP.out.trans (Kept.of_below (Below.refl _ X).drew), fun j hj => by
                by_cases c : j = t
                · subst c; exact .inr D2.out
                · exact HALL.out j (by omega)⟩
        · have d2' : (D t != 1) = true := by rw [bne_iff_ne]; exact d2
          have ez := hide (ET.out.trans (sprV_no (fun h => by rcases h.2.2 t hlt with e | e; rw [AH.out, HU.out] at e; exact d1 e; exact d2 e)))
          obtain ⟨y0, y1, y2, y3⟩ := MX.out
          have gg := GX.out
          unfold Free at gg
          clear d1 d2
          go_wp2_with fail
          go_region_held3 (fun w' => w'.cell? ⟨w.heap.size, 0, none⟩ = some (.slice (some ⟨ba, oa, none⟩) s cap) ∧ w'.cell? ⟨ba, oa + t, none⟩ = some (.int .i64 (D t)) ∧ w'.cell? ⟨bi, oi + u, none⟩ = some (.int .i64 (E u)))
            ((try dsimp only) <;> (repeat' apply And.intro) <;> (first | with_reducible assumption | assumption)) (fail)
          go_wp2_with fail
          refine bodyPost_ret (v := .agg #[.slice none 0 0, .slice none 0 0, .int .i64 0, .int .i64 0]) (by simp [results, Try.results23, go_sem, y0, y1, y2, y3]) rfl (by
            rw [ez.out]
            refine viewR_zero (Below.drew ?_)
            repeat (refine Below.setCell ?_ (by simp) _)
            exact BX.out)
    · obtain rfl : t = s := by omega
      have ez := hide (ET.out.trans (sprV_yes ⟨HD.out, hrq, fun j hj => by rw [AH.out]; exact HALL.out j hj⟩))
      obtain ⟨y0, y1, y2, y3⟩ := MX.out
      have gg := GX.out
      unfold Free at gg
      have RVX := hide (RV.out.kept HKP.out (fun k q e => by have e : k = gS := e; subst e; exact HNG.out q))
      go_wp2_with fail
      refine bodyPost_ret (v := .agg #[.slice aa q ac, .slice (some ⟨gS, 0, none⟩) q q, .int .i64 o, .int .i64 n]) (by simp [results, Try.results23, go_sem, y0, y1, y2, y3]) rfl ?_
      have k4 := kept_sets4 X (w.heap.size + 1) (.slice aa q ac) (.slice (some ⟨gS, 0, none⟩) q q) (.int .i64 o) (.int .i64 n)
      show ViewR w.heap.size (turnedV t t D S o n (sprV t q D S E o n)) w _ _
      rw [ez.out]
      have rr := RVX.out.kept k4 (fun k q e => by have := (RVX.out.lt q).1; have e : k = w.heap.size + 1 := e; omega)
      obtain ⟨a', c', e', o'⟩ := rr.own
      injection e' with e1' e2' e3'
      subst e1'
      refine ⟨aa, some ⟨gS, 0, none⟩, ac, q, rfl, ⟨o'.mono (by omega), .inr ⟨gS, rfl, by omega, HRW.out.kept k4 (by show ¬ gS = w.heap.size + 1; omega)⟩, fun k q1 q2 => ?_⟩, BX.out.trans (k4.below BX.out.size (fun j e => by have e : j = w.heap.size + 1 := e; omega))⟩
      obtain ⟨n1, ad, e4, e5⟩ := q1
      obtain ⟨_, ad', e6, e7⟩ := q2
      injection e6 with e6
      subst e6
      subst e4
      have e7 : gS = k := e7
      subst e7
      rcases o' with h0 | ⟨g', e8, _, _⟩
      · exact absurd h0 n1
      · injection e8 with e8
        subst e8
        exact HNG.out (by have e5 : g' = gS := e5; subst e5; rfl)
theorem spreadF (B : Nat) (a b c : Option Addr) (r s q cap dap cap' : Nat) (D S E : Nat → Int) (o n : Int) (w : World) (hB : B ≤ w.heap.size) (h : Ints B w a r D) (h' : Ints B w b s S) (hI : Ints B w c q E) (hr : (r : Int) ≤ 1048576) (hs : (s : Int) ≤ 1048576) (hq : (q : Int) ≤ 1048576) (hna : a = none → r = 0 ∧ cap = 0) (hnb : b = none → s = 0 ∧ dap = 0) (hnc : c = none → q = 0 ∧ cap' = 0) :
    Calls Try.prog 24 #[.agg #[.slice a r cap, .slice b s dap, .int .i64 o, .int .i64 n], .slice c q cap'] w fun e w' => ViewR w.heap.size (turnedV r s D S o n (sprV r q D S E o n)) w e w' := by
  obtain ⟨W0, hW0⟩ : ∃ W0, (w.alloc (.cells #[.slice a r cap, .slice b s dap, .int .i64 o, .int .i64 n] 24)).alloc (.cells #[.slice none 0 0, .slice none 0 0, .int .i64 0, .int .i64 0] 24) = W0 := ⟨_, rfl⟩
  have hs0 : W0.heap.size = w.heap.size + 1 + 1 := by rw [← hW0]; simp
  have bl : Below w.heap.size w W0 := by rw [← hW0]; exact ((Below.refl _ _).alloc (Nat.le_refl _) _).alloc (by simp) _
  have n0 : Box W0 w.heap.size (.slice a r cap) (.slice b s dap) (.int .i64 o) (.int .i64 n) := by
    rw [← hW0]; exact (box_new w (.slice a r cap) (.slice b s dap) (.int .i64 o) (.int .i64 n) 24).below ((Below.refl (w.heap.size + 1) _).alloc (by simp) _) (by omega)
  obtain ⟨x0, x1, x2, x3⟩ := n0
  have m0 : Box W0 (w.heap.size + 1) (.slice none 0 0) (.slice none 0 0) (.int .i64 0) (.int .i64 0) := by
    have q := box_new (w.alloc (.cells #[.slice a r cap, .slice b s dap, .int .i64 o, .int .i64 n] 24)) (.slice none 0 0) (.slice none 0 0) (.int .i64 0) (.int .i64 0) 24
    rw [World.size_alloc] at q
    rw [← hW0]; exact q
  have g0 : Free W0 (w.heap.size + 1) := by
    have q := free_new (w.alloc (.cells #[.slice a r cap, .slice b s dap, .int .i64 o, .int .i64 n] 24)) #[.slice none 0 0, .slice none 0 0, .int .i64 0, .int .i64 0] 24
    rw [World.size_alloc] at q
    rw [← hW0]; exact q
  have H := hide (h.below (bl.mono hB))
  have H' := hide (h'.below (bl.mono hB))
  have HI := hide (hI.below (bl.mono hB))
  have l1 := (sprV_le r q D S E o n).1
  have l2 := (sprV_le r q D S E o n).2
  have CT := hide (turned ⟨#[115, 112, 114, 101, 97, 100]⟩ 55 (sprV r q D S E o n) (enters_of Try.func55 (by kernel_rfl) rfl) spreadNamed W0.heap.size a b c r s q cap dap cap' D S E o n W0 (Nat.le_refl _) (H.out.mono (by omega)) (H'.out.mono (by omega)) (HI.out.mono (by omega)) hr hs hna hnb (by omega) (by omega)
    (fun va vb W v ra rb hne hi hsz => spreadTurn r s q D S E o n _ _ c cap' va vb W v ra rb hi hsz hq hnc))
  have BL := hide bl
  have M0 := hide m0
  have G0 := hide g0
  have HS0 := hide hs0
  clear h h' hI m0 g0 bl hs0 l1 l2
  go_enter Try.func24, Try.ntmps24
  go_wp2_with fail
  refine CT.out.mono ?_
  rintro e w1 ⟨ta, tb, tc, td, rfl, hvo, b1⟩
  obtain ⟨T, hTT⟩ : ∃ T, turnedV r s D S o n (sprV r q D S E o n) = T := ⟨_, rfl⟩
  rw [hTT] at hvo ⊢
  have zz := HS0.out
  have M1 := hide (M0.out.below b1 (by omega))
  have G1 := hide (G0.out.below b1 (by omega))
  have B1 := hide (BL.out.trans (b1.mono BL.out.size))
  have VO := hide hvo
  have HTT := hide hTT
  clear hvo b1 zz hW0 CT hTT x0 x1 x2 x3
  obtain ⟨y0, y1, y2, y3⟩ := M1.out
  have gg := G1.out
  unfold Free at gg
  go_wp2_with fail
  refine bodyPost_ret (v := .agg #[.slice ta T.r tc, .slice tb T.s td, .int .i64 T.o, .int .i64 T.n]) (by simp [results, Try.results24, go_sem, y0, y1, y2, y3]) rfl ?_
  have zz := HS0.out
  have k4 := kept_sets4 w1 (w.heap.size + 1) (.slice ta T.r tc) (.slice tb T.s td) (.int .i64 T.o) (.int .i64 T.n)
  show ViewR w.heap.size (turnedV r s D S o n (sprV r q D S E o n)) w _ _
  rw [HTT.out]
  exact ⟨ta, tb, tc, td, rfl, (VO.out.kept k4 (fun k q e => by have := (VO.out.blk q).1; have e : k = w.heap.size + 1 := e; omega)).mono (B' := w.heap.size) (by omega), B1.out.trans (k4.below B1.out.size (fun j e => by have e : j = w.heap.size + 1 := e; omega))⟩
end Vo
end Go.Proofs.Ytldcacdopijfdaa
