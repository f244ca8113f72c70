/- Windows of the program; the model's copy as rows that may grow. -/
import Derived.Test.YtldcacdopijfdabVar
namespace Go.Proofs.Ytldcacdopijfdab
namespace Vo
open Go.ChangeShapes Go.WideShapes Go.ChangeAt Go.RowKit Go.Joins
open Vl Vp Vr
set_option linter.unusedVariables false
set_option linter.unusedSimpArgs false

/-- a view, where it is asked for -/
def gv (b : Bool) (T : PV) : PV := if b = true then T else PV.zero
theorem gv_yes {b : Bool} {T : PV} (h : b = true) : gv b T = T := by unfold gv; rw [if_pos h]
theorem gv_turned (r s : Nat) (D S : Nat → Int) (o n : Int) (T : PV) : turnedV r s D S o n (gv (vok r s D S o n) T) = turnedV r s D S o n T := by
  unfold turnedV gv
  split <;> rfl
theorem gv_le {r s : Nat} {D S : Nat → Int} {o n : Int} {T : PV} (h : T.r ≤ r + 1 ∧ T.s ≤ s + 1) : ((gv (vok r s D S o n) T).r : Int) ≤ 1048576 ∧ ((gv (vok r s D S o n) T).s : Int) ≤ 1048576 := by
  unfold gv
  split
  · rename_i q
    have v := vok_iff.1 q
    have a := (dok_iff.1 v.1).1
    have b := v.2.1
    omega
  · exact ⟨by simp [PV.zero], by simp [PV.zero]⟩
theorem gv_win (r s : Nat) (D S : Nat → Int) (o n x z t : Int) : ((gv (vok r s D S o n) (winV r s D S o n x z t)).r : Int) ≤ 1048576 ∧ ((gv (vok r s D S o n) (winV r s D S o n x z t)).s : Int) ≤ 1048576 := gv_le (winV_le r s D S o n x z t)
theorem turned_le1 {r s : Nat} {D S : Nat → Int} {o n : Int} {T : PV} (h : T.r ≤ r + 1 ∧ T.s ≤ s + 1) : ((turnedV r s D S o n T).r : Int) ≤ 1048576 ∧ ((turnedV r s D S o n T).s : Int) ≤ 1048576 := by
  rw [← gv_turned]
  have a := turned_le r s D S o n (gv (vok r s D S o n) T)
  have b := gv_le (D := D) (S := S) (o := o) (n := n) h
  omega
set_option maxRecDepth 100000 in
set_option maxHeartbeats 1000000 in
theorem windowsF (B : Nat) (a b : Option Addr) (r s cap dap : Nat) (D S : Nat → Int) (o n x z t : Int) (w : World) (hB : B ≤ w.heap.size) (h : Ints B w a r D) (h' : Ints B w b s S) (hr : (r : Int) ≤ 1048576) (hs : (s : Int) ≤ 1048576) (hna : a = none → r = 0 ∧ cap = 0) (hnb : b = none → s = 0 ∧ dap = 0) (hb : bd x ∧ bd z ∧ bd t)
    (hT : ∀ (C B : Nat) (ia : Option Addr) (ica : Nat) (va vb : Value) (W : World), VOk r s D S o n → RowV C W va r D → RowV C W vb s S → (∀ k, va.ownBlock = some k → vb.ownBlock = some k → False) → Ints B W ia 3 (three x z t) → C ≤ W.heap.size →
      Calls Try.prog 90 #[.agg #[va, vb, .int .i64 o, .int .i64 n], .slice ia 3 ica] W fun e W' => TurnR C (winV r s D S o n x z t) va vb W e W') :
    Calls Try.prog 62 #[.agg #[.slice a r cap, .slice b s dap, .int .i64 o, .int .i64 n], .int .i64 x, .int .i64 z, .int .i64 t] w fun e w' => ViewR w.heap.size (turnedV r s D S o n (winV r s D S o n x z t)) w e w' := by
  obtain ⟨W0, hW0⟩ : ∃ W0, ((w.alloc (.cells #[.slice a r cap, .slice b s dap, .int .i64 o, .int .i64 n] 26)).alloc (.cells #[.slice none 0 0, .slice none 0 0, .int .i64 0, .int .i64 0] 26)).alloc (.cells #[.int .i64 x, .int .i64 z, .int .i64 t] 3) = W0 := ⟨_, rfl⟩
  have hs0 : W0.heap.size = w.heap.size + 1 + 1 + 1 := by rw [← hW0]; simp
  have bl : Below w.heap.size w W0 := by rw [← hW0]; exact (((Below.refl _ _).alloc (Nat.le_refl _) _).alloc (by simp) _).alloc (by simp; omega) _
  have m0 : Box W0 (w.heap.size + 1) (.slice none 0 0) (.slice none 0 0) (.int .i64 0) (.int .i64 0) := by
    have q := box_new (w.alloc (.cells #[.slice a r cap, .slice b s dap, .int .i64 o, .int .i64 n] 26)) (.slice none 0 0) (.slice none 0 0) (.int .i64 0) (.int .i64 0) 26
    rw [World.size_alloc] at q
    rw [← hW0]; exact q.below (B := w.heap.size + 1 + 1) ((Below.refl _ _).alloc (by simp) _) (by omega)
  have g0 : Free W0 (w.heap.size + 1) := by
    have q := free_new (w.alloc (.cells #[.slice a r cap, .slice b s dap, .int .i64 o, .int .i64 n] 26)) #[.slice none 0 0, .slice none 0 0, .int .i64 0, .int .i64 0] 26
    rw [World.size_alloc] at q
    rw [← hW0]; exact q.below (B := w.heap.size + 1 + 1) ((Below.refl _ _).alloc (by simp) _) (by omega)
  have i0 : Ints W0.heap.size W0 (some ⟨w.heap.size + 1 + 1, 0, none⟩) 3 (three x z t) := by
    refine .inr ⟨_, _, rfl, by omega, fun j hj => ?_⟩
    obtain ⟨b1, b2, b3⟩ := hb
    rw [← hW0]
    match j, hj with
    | 0, _ => exact ⟨by simp [go_sem, three], b1⟩
    | 1, _ => exact ⟨by simp [go_sem, three], b2⟩
    | 2, _ => exact ⟨by simp [go_sem, three], b3⟩
  have H := hide (h.below (bl.mono hB))
  have H' := hide (h'.below (bl.mono hB))
  have lv := gv_win r s D S o n x z t
  have ev := gv_turned r s D S o n (winV r s D S o n x z t)
  have CT := hide (turned ⟨#[119, 105, 110, 100, 111, 119, 115]⟩ 90 (gv (vok r s D S o n) (winV r s D S o n x z t)) (enters_of Try.func90 (by kernel_rfl) rfl) windowsNamed W0.heap.size a b (some ⟨w.heap.size + 1 + 1, 0, none⟩) r s 3 cap dap 3 D S (three x z t) o n W0 (Nat.le_refl _) (H.out.mono (by omega)) (H'.out.mono (by omega)) i0 hr hs hna hnb (by omega) (by omega)
    (fun va vb W v ra rb hne hi hsz => by rw [gv_yes (vok_iff.2 v)]; exact hT _ _ _ _ va vb W v ra rb hne hi (by omega)))
  rw [ev] at CT
  have BL := hide bl
  have M0 := hide m0
  have G0 := hide g0
  have HS0 := hide hs0
  clear h h' hT m0 g0 i0 bl hs0 lv ev
  go_enter Try.func62, Try.ntmps62
  go_wp2_with fail
  refine CT.out.mono ?_
  rintro e w1 ⟨ta, tb, tc, td, rfl, hvo, b1⟩
  obtain ⟨T, hTT⟩ : ∃ T, turnedV r s D S o n (winV r s D S o n x z t) = T := ⟨_, rfl⟩
  rw [hTT] at hvo ⊢
  have zz := HS0.out
  have M1 := hide (M0.out.below b1 (by omega))
  have G1 := hide (G0.out.below b1 (by omega))
  have B1 := hide (BL.out.trans (b1.mono BL.out.size))
  have VO := hide hvo
  have HTT := hide hTT
  clear hvo b1 zz hW0 CT hTT
  obtain ⟨y0, y1, y2, y3⟩ := M1.out
  have gg := G1.out
  unfold Free at gg
  go_wp2_with fail
  refine bodyPost_ret (v := .agg #[.slice ta T.r tc, .slice tb T.s td, .int .i64 T.o, .int .i64 T.n]) (by simp [results, Try.results62, go_sem, y0, y1, y2, y3]) rfl ?_
  have zz := HS0.out
  have k4 := kept_sets4 w1 (w.heap.size + 1) (.slice ta T.r tc) (.slice tb T.s td) (.int .i64 T.o) (.int .i64 T.n)
  show ViewR w.heap.size (turnedV r s D S o n (winV r s D S o n x z t)) w _ _
  rw [HTT.out]
  exact ⟨ta, tb, tc, td, rfl, (VO.out.kept k4 (fun k q e => by have := (VO.out.blk q).1; have e : k = w.heap.size + 1 := e; omega)).mono (B' := w.heap.size) (by omega), B1.out.trans (k4.below B1.out.size (fun j e => by have e : j = w.heap.size + 1 := e; omega))⟩
theorem windowsFF (B : Nat) (a b : Addr) (r s cap dap : Nat) (D S : Nat → Int) (o n x z t : Int) (w : World) (hB : B ≤ w.heap.size) (h : Ints B w (some a) r D) (h' : Ints B w (some b) s S) (hr : (r : Int) ≤ 1048576) (hs : (s : Int) ≤ 1048576) (hb : bd x ∧ bd z ∧ bd t) :
    Calls Try.prog 62 #[.agg #[.slice (some a) r cap, .slice (some b) s dap, .int .i64 o, .int .i64 n], .int .i64 x, .int .i64 z, .int .i64 t] w fun e w' => ViewR w.heap.size (turnedV r s D S o n (winV r s D S o n x z t)) w e w' :=
  windowsF B (some a) (some b) r s cap dap D S o n x z t w hB h h' hr hs (fun e => by cases e) (fun e => by cases e) hb (fun C B ia ica va vb W h1 h2 h3 h4 h5 h6 => windowsTurn r s D S o n x z t C B ia ica va vb W h1 h2 h3 h4 h5 h6 hr)
end Vo
end Go.Proofs.Ytldcacdopijfdab
