/- Windows of the program; the model's copy as rows that may grow. -/
import Derived.Test.YtldcacdopijfdaaVar
namespace Go.Proofs.Ytldcacdopijfdaa
namespace Vo
open Go.ChangeShapes Go.WideShapes Go.ChangeAt Go.RowKit Go.Joins
open Vl Vp Vr
set_option linter.unusedVariables false
set_option linter.unusedSimpArgs false

/-- a view, where it is asked for -/
def gv (b : Bool) (T : PV) : PV := if b = true then T else PV.zero
theorem gv_yes {b : Bool} {T : PV} (h : b = true) : gv b T = T := by unfold gv; rw [if_pos h]
theorem gv_turned (r s : Nat) (D S : Nat → Int) (o n : Int) (T : PV) : turnedV r s D S o n (gv (vok r s D S o n) T) = turnedV r s D S o n T := by
  unfold turnedV gv
  split <;> rfl
theorem gv_le {r s : Nat} {D S : Nat → Int} {o n : Int} {T : PV} (h : T.r ≤ r + 1 ∧ T.s ≤ s + 1) : ((gv (vok r s D S o n) T).r : Int) ≤ 1048576 ∧ ((gv (vok r s D S o n) T).s : Int) ≤ 1048576 := by
  unfold gv
  split
  · rename_i q
    have v := vok_iff.1 q
    have a := (dok_iff.1 v.1).1
    have b := v.2.1
    omega
  · exact ⟨by simp [PV.zero], by simp [PV.zero]⟩
theorem gv_win (r s : Nat) (D S : Nat → Int) (o n x z t : Int) : ((gv (vok r s D S o n) (winV r s D S o n x z t)).r : Int) ≤ 1048576 ∧ ((gv (vok r s D S o n) (winV r s D S o n x z t)).s : Int) ≤ 1048576 := gv_le (winV_le r s D S o n x z t)
theorem turned_le1 {r s : Nat} {D S : Nat → Int} {o n : Int} {T : PV} (h : T.r ≤ r + 1 ∧ T.s ≤ s + 1) : ((turnedV r s D S o n T).r : Int) ≤ 1048576 ∧ ((turnedV r s D S o n T).s : Int) ≤ 1048576 := by
  rw [← gv_turned]
  have a := turned_le r s D S o n (gv (vok r s D S o n) T)
  have b := gv_le (D := D) (S := S) (o := o) (n := n) h
  omega
set_option maxRecDepth 100000 in
set_option maxHeartbeats 1000000 in
theorem windowsF (B : Nat) (a b : Option Addr) (r s cap dap : Nat) (D S : Nat → Int) (o n x z t : Int) (w : World) (hB : B ≤ w.heap.size) (h : Ints B w a r D) (h' : Ints B w b s S) (hr : (r : Int) ≤ 1048576) (hs : (s : Int) ≤ 1048576) (hna : a = none → r = 0 ∧ cap = 0) (hnb : b = none → s = 0 ∧ dap = 0) (hb : bd x ∧ bd z ∧ bd t)
    (hT : ∀ (C B : Nat) (ia : Option Addr) (ica : Nat) (va vb : Value) (W : World), VOk r s D S o n → RowV C W va r D → RowV C W vb s S → (∀ k, va.ownBlock = some k → vb.ownBlock = some k → False) → Ints B W ia 3 (three x z t) → C ≤ W.heap.size →
      Calls Try.prog 57 #[.agg #[va, vb, .int .i64 o, .int .i64 n], .slice ia 3 ica] W fun e W' => TurnR C (winV r s D S o n x z t) va vb W e W') :
    Calls Try.prog 28 #[.agg #[.slice a r cap, .slice b s dap, .int .i64 o, .int .i64 n], .int .i64 x, .int .i64 z, .int .i64 t] w fun e w' => ViewR w.heap.size (turnedV r s D S o n (winV r s D S o n x z t)) w e w' := by
  obtain ⟨W0, hW0⟩ : ∃ W0, ((w.alloc (.cells #[.slice a r cap, .slice b s dap, .int .i64 o, .int .i64 n] 24)).alloc (.cells #[.slice none 0 0, .slice none 0 0, .int .i64 0, .int .i64 0] 24)).alloc (.cells #[.int .i64 x, .int .i64 z, .int .i64 t] 3) = W0 := ⟨_, rfl⟩
  have hs0 : W0.heap.size = w.heap.size + 1 + 1 + 1 := by rw [← hW0]; simp
  have bl : Below w.heap.size w W0 := by rw [← hW0]; exact (((Below.refl _ _).alloc (Nat.le_refl _) _).alloc (by simp) _).alloc (by simp; omega) _
  have m0 : Box W0 (w.heap.size + 1) (.slice none 0 0) (.slice none 0 0) (.int .i64 0) (.int .i64 0) := by
    have q := box_new (w.alloc (.cells #[.slice a r cap, .slice b s dap, .int .i64 o, .int .i64 n] 24)) (.slice none 0 0) (.slice none 0 0) (.int .i64 0) (.int .i64 0) 24
    rw [World.size_alloc] at q
    rw [← hW0]; exact q.below (B := w.heap.size + 1 + 1) ((Below.refl _ _).alloc (by simp) _) (by omega)
  have g0 : Free W0 (w.heap.size + 1) := by
    have q := free_new (w.alloc (.cells #[.slice a r cap, .slice b s dap, .int .i64 o, .int .i64 n] 24)) #[.slice none 0 0, .slice none 0 0, .int .i64 0, .int .i64 0] 24
    rw [World.size_alloc] at q
    rw [← hW0]; exact q.below (B := w.heap.size + 1 + 1) ((Below.refl _ _).alloc (by simp) _) (by omega)
  have i0 : Ints W0.heap.size W0 (some ⟨w.heap.size + 1 + 1, 0, none⟩) 3 (three x z t) := by
    refine .inr ⟨_, _, rfl, by omega, fun j hj => ?_⟩
    obtain ⟨b1, b2, b3⟩ := hb
    rw [← hW0]
    match j, hj with
    | 0, _ => exact ⟨by simp [go_sem, three], b1⟩
    | 1, _ => exact ⟨by simp [go_sem, three], b2⟩
    | 2, _ => exact ⟨by simp [go_sem, three], b3⟩
  have H := hide (h.below (bl.mono hB))
  have H' := hide (h'.below (bl.mono hB))
  have lv := gv_win r s D S o n x z t
  have ev := gv_turned r s D S o n (winV r s D S o n x z t)
  have CT := hide (turned ⟨#[119, 105, 110, 100, 111, 119, 115]⟩ 57 (gv (vok r s D S o n) (winV r s D S o n x z t)) (enters_of Try.func57 (by kernel_rfl) rfl) windowsNamed W0.heap.size a b (some ⟨w.heap.size + 1 + 1, 0, none⟩) r s 3 cap dap 3 D S (three x z t) o n W0 (Nat.le_refl _) (H.out.mono (by omega)) (H'.out.mono (by omega)) i0 hr hs hna hnb (by omega) (by omega)
    (fun va vb W v ra rb hne hi hsz => by rw [gv_yes (vok_iff.2 v)]; exact hT _ _ _ _ va vb W v ra rb hne hi (by omega)))
  rw [ev] at CT
  have BL := hide bl
  have M0 := hide m0
  have G0 := hide g0
  have HS0 := hide hs0
  clear h h' hT m0 g0 i0 bl hs0 lv ev
  go_enter Try.func28, Try.ntmps28
  go_wp2_with fail
  refine CT.out.mono ?_
  rintro e w1 ⟨ta, tb, tc, td, rfl, hvo, b1⟩
  obtain ⟨T, hTT⟩ : ∃ T, turnedV r s D S o n (winV r s D S o n x z t) = T := ⟨_, rfl⟩
  rw [hTT] at hvo ⊢
  have zz := HS0.out
  have M1 := hide (M0.out.below b1 (by omega))
  have G1 := hide (G0.out.below b1 (by omega))
  have B1 := hide (BL.out.trans (b1.mono BL.out.size))
  have VO := hide hvo
  have HTT := hide hTT
  clear hvo b1 zz hW0 CT hTT
  obtain ⟨y0, y1, y2, y3⟩ := M1.out
  have gg := G1.out
  unfold Free at gg
  go_wp2_with fail
  refine bodyPost_ret (v := .agg #[.slice ta T.r tc, .slice tb T.s td, .int .i64 T.o, .int .i64 T.n]) (by simp [results, Try.results28, go_sem, y0, y1, y2, y3]) rfl ?_
  have zz := HS0.out
  have k4 := kept_sets4 w1 (w.heap.size + 1) (.slice ta T.r tc) (.slice tb T.s td) (.int .i64 T.o) (.int .i64 T.n)
  show ViewR w.heap.size (turnedV r s D S o n (winV r s D S o n x z t)) w _ _
  rw [HTT.out]
  exact ⟨ta, tb, tc, td, rfl, (VO.out.kept k4 (fun k q e => by have := (VO.out.blk q).1; have e : k = w.heap.size + 1 := e; omega)).mono (B' := w.heap.size) (by omega), B1.out.trans (k4.below B1.out.size (fun j e => by have e : j = w.heap.size + 1 := e; omega))⟩
theorem windowsFF (B : Nat) (a b : Addr) (r s cap dap : Nat) (D S : Nat → Int) (o n x z t : Int) (w : World) (hB : B ≤ w.heap.size) (h : Ints B w (some a) r D) (h' : Ints B w (some b) s S) (hr : (r : Int) ≤ 1048576) (hs : (s : Int) ≤ 1048576) (hb : bd x ∧ bd z ∧ bd t) :
    Calls Try.prog 28 #[.agg #[.slice (some a) r cap, .slice (some b) s dap, .int .i64 o, .int .i64 n], .int .i64 x, .int .i64 z, .int .i64 t] w fun e w' => ViewR w.heap.size (turnedV r s D S o n (winV r s D S o n x z t)) w e w' :=
  windowsF B (some a) (some b) r s cap dap D S o n x z t w hB h h' hr hs (fun e => by cases e) (fun e => by cases e) hb (fun C B ia ica va vb W h1 h2 h3 h4 h5 h6 => windowsTurn r s D S o n x z t C B ia ica va vb W h1 h2 h3 h4 h5 h6 hr)
set_option maxRecDepth 100000 in
set_option maxHeartbeats 2000000 in
theorem l3Copy2 (B : Nat) (a b : Addr) (r s cap dap : Nat) (D S : Nat → Int) (o n : Int) (w : World) (hB : B ≤ w.heap.size) (h : Ints B w (some a) r D) (h' : Ints B w (some b) s S) (hr : (r : Int) ≤ 1048576) (hs : (s : Int) ≤ 1048576) :
    Calls Try.prog 39 #[.agg #[.slice (some a) r cap, .slice (some b) s dap, .int .i64 o, .int .i64 n]] w fun e w' => ∃ va vb, e = .returned (.agg #[va, vb, .int .i64 o, .int .i64 n]) ∧ RowV (w.heap.size + 2) w' va r D ∧ RowV (w.heap.size + 2) w' vb s S ∧ (∀ k, va.ownBlock = some k → vb.ownBlock = some k → False) ∧ Below w.heap.size w w' := by
  have BL := hide (show Below w.heap.size w ((w.alloc (.cells #[.slice (some a) r cap, .slice (some b) s dap, .int .i64 o, .int .i64 n] 24)).alloc (.cells #[.slice none 0 0, .slice none 0 0, .int .i64 0, .int .i64 0] 24)) from ((Below.refl _ _).alloc (Nat.le_refl _) _).alloc (by simp) _)
  have N0 := hide ((box_new w (.slice (some a) r cap) (.slice (some b) s dap) (.int .i64 o) (.int .i64 n) 24).below ((Below.refl (w.heap.size + 1) _).alloc (by simp) (.cells #[.slice none 0 0, .slice none 0 0, .int .i64 0, .int .i64 0] 24)) (by omega))
  have m0 := box_new (w.alloc (.cells #[.slice (some a) r cap, .slice (some b) s dap, .int .i64 o, .int .i64 n] 24)) (.slice none 0 0) (.slice none 0 0) (.int .i64 0) (.int .i64 0) 24
  have g0 := free_new (w.alloc (.cells #[.slice (some a) r cap, .slice (some b) s dap, .int .i64 o, .int .i64 n] 24)) #[.slice none 0 0, .slice none 0 0, .int .i64 0, .int .i64 0] 24
  rw [World.size_alloc] at m0 g0
  have CA := hide (fun (W : World) (hW : Below w.heap.size w W) => l3Ints B a r cap D W (h.below (hW.mono hB)) (Nat.le_trans hB hW.size) hr)
  have CB := hide (fun (W : World) (hW : Below w.heap.size w W) => l3Ints B b s dap S W (h'.below (hW.mono hB)) (Nat.le_trans hB hW.size) hs)
  clear h h'
  obtain ⟨W0, hW0⟩ : ∃ W0, (w.alloc (.cells #[.slice (some a) r cap, .slice (some b) s dap, .int .i64 o, .int .i64 n] 24)).alloc (.cells #[.slice none 0 0, .slice none 0 0, .int .i64 0, .int .i64 0] 24) = W0 := ⟨_, rfl⟩
  have hs0 : W0.heap.size = w.heap.size + 1 + 1 := by rw [← hW0]; simp
  rw [hW0] at BL N0 m0 g0
  have M0 := hide m0
  have G0 := hide g0
  have HS0 := hide hs0
  obtain ⟨x0, x1, x2, x3⟩ := N0.out
  obtain ⟨y0, y1, y2, y3⟩ := M0.out
  have gg := G0.out
  unfold Free at gg
  clear m0 g0 hs0
  go_enter Try.func39, Try.ntmps39
  go_wp2_with fail
  clear hW0
  go_region_held3 (fun w' => w'.cell? ⟨w.heap.size, 0, none⟩ = some (.slice (some a) r cap) ∧ w'.cell? ⟨w.heap.size, 1, none⟩ = some (.slice (some b) s dap) ∧ w'.cell? ⟨w.heap.size, 2, none⟩ = some (.int .i64 o) ∧ w'.cell? ⟨w.heap.size, 3, none⟩ = some (.int .i64 n))
    ((try dsimp only) <;> (repeat' apply And.intro) <;> (repeat (first | with_reducible assumption | with_reducible apply drew_old | with_reducible apply set_next | (with_reducible apply below_old; (focus (with_reducible assumption))))))
   (first
    | (go_at_call_of 30 (Value.slice (some a) r cap)
       refine (CA.out _ (by exact BL.out.drew)).mono ?_
       rintro e wA ⟨va, rfl, hva, bA⟩
       obtain ⟨aa, ac, rfl, _⟩ := RowV.own hva
       have cA0 := fun i => old_cells bA w.heap.size i (by show w.heap.size < W0.heap.size; have := HS0.out; omega)
       have cA1 := fun i => old_cells bA (w.heap.size + 1) i (by show w.heap.size + 1 < W0.heap.size; have := HS0.out; omega)
       have mA1 := fun i => old_marks bA (w.heap.size + 1) i (by show w.heap.size + 1 < W0.heap.size; have := HS0.out; omega))
    | (go_at_call_of 30 (Value.slice (some b) s dap)
       refine (CB.out _ (by exact (BL.out.drew).trans (Below.mono bA BL.out.size))).mono ?_
       rintro e wB ⟨vb, rfl, hvb, bB⟩
       obtain ⟨ab, ad, rfl, _⟩ := RowV.own hvb
       have cB0 := fun i => old_cells bB w.heap.size i (by have := bA.size; have q : W0.heap.size ≤ wA.heap.size := this; have := HS0.out; omega)
       have cB1 := fun i => old_cells bB (w.heap.size + 1) i (by have := bA.size; have q : W0.heap.size ≤ wA.heap.size := this; have := HS0.out; omega)
       have mB1 := fun i => old_marks bB (w.heap.size + 1) i (by have := bA.size; have q : W0.heap.size ≤ wA.heap.size := this; have := HS0.out; omega)))
  go_wp2_with fail
  have qs := HS0.out
  have sA : W0.heap.size ≤ wA.heap.size := bA.size
  have sB : wA.heap.size ≤ wB.heap.size := bB.size
  have bA' : Below W0.heap.size W0 wA := ⟨bA.os, bA.tape, bA.output, bA.size, bA.block⟩
  obtain ⟨z0, z1, z2, z3⟩ := (M0.out.below bA' (by omega)).below bB (by omega)
  have k4 := kept_sets4 wB (w.heap.size + 1) (.slice aa r ac) (.slice ab s ad) (.int .i64 o) (.int .i64 n)
  have va' := (hva.below bB).kept k4 (fun k q e => by have := (hva.lt q).1; have t : W0.heap.size ≤ k := this; have e : k = w.heap.size + 1 := e; omega)
  have vb' := hvb.kept k4 (fun k q e => by have := (hvb.lt q).1; have e : k = w.heap.size + 1 := e; omega)
  have b2 : Below w.heap.size w wB := (BL.out.trans (bA'.mono BL.out.size)).trans (bB.mono (by omega))
  refine bodyPost_ret (v := .agg #[.slice aa r ac, .slice ab s ad, .int .i64 o, .int .i64 n]) (by simp [results, Try.results39, go_sem, z0, z1, z2, z3]) rfl ⟨_, _, rfl, va'.mono (by have t : W0.heap.size = W0.drew.heap.size := rfl; omega), vb'.mono (by omega), fun j q3 q4 => ?_, b2.trans (k4.below b2.size (fun j e => by have e : j = w.heap.size + 1 := e; omega))⟩
  have := (hva.lt q3).2
  have := (hvb.lt q4).1
  omega
end Vo
end Go.Proofs.Ytldcacdopijfdaa
