/- Slice of the program, given its turn's contract. -/
import Derived.Test.YtldcacdopijfdaaVam
namespace Go.Proofs.Ytldcacdopijfdaa
namespace Vo
open Go.ChangeShapes Go.WideShapes Go.ChangeAt Go.RowKit Go.Joins
open Vl Vp Vr
set_option linter.unusedVariables false
set_option linter.unusedSimpArgs false

/-- four ints as a list -/
def four (x f c t : Int) : Nat → Int | 0 => x | 1 => f | 2 => c | _ => t
theorem sliceV_le (r s : Nat) (D S : Nat → Int) (o n x f c t : Int) : (sliceV r s D S o n x f c t).r ≤ r ∧ (sliceV r s D S o n x f c t).s ≤ s := by
  unfold sliceV
  split
  · exact ⟨Nat.le_refl _, Nat.le_refl _⟩
  · exact ⟨Nat.zero_le _, Nat.zero_le _⟩
set_option maxRecDepth 100000 in
set_option maxHeartbeats 1000000 in
theorem sliceF (B : Nat) (a b : Option Addr) (r s cap dap : Nat) (D S : Nat → Int) (o n x f c t : Int) (w : World) (hB : B ≤ w.heap.size) (h : Ints B w a r D) (h' : Ints B w b s S) (hr : (r : Int) ≤ 1048576) (hs : (s : Int) ≤ 1048576) (hna : a = none → r = 0 ∧ cap = 0) (hnb : b = none → s = 0 ∧ dap = 0) (hb : bd x ∧ bd f ∧ bd c ∧ bd t)
    (hT : ∀ (C B : Nat) (ia : Option Addr) (ica : Nat) (va vb : Value) (W : World), VOk r s D S o n → RowV C W va r D → RowV C W vb s S → (∀ k, va.ownBlock = some k → vb.ownBlock = some k → False) → Ints B W ia 4 (four x f c t) → C ≤ W.heap.size →
      Calls Try.prog 53 #[.agg #[va, vb, .int .i64 o, .int .i64 n], .slice ia 4 ica] W fun e W' => TurnR C (sliceV r s D S o n x f c t) va vb W e W') :
    Calls Try.prog 20 #[.agg #[.slice a r cap, .slice b s dap, .int .i64 o, .int .i64 n], .int .i64 x, .int .i64 f, .int .i64 c, .int .i64 t] w fun e w' => ViewR w.heap.size (turnedV r s D S o n (sliceV r s D S o n x f c t)) w e w' := by
  obtain ⟨W0, hW0⟩ : ∃ W0, ((w.alloc (.cells #[.slice a r cap, .slice b s dap, .int .i64 o, .int .i64 n] 24)).alloc (.cells #[.slice none 0 0, .slice none 0 0, .int .i64 0, .int .i64 0] 24)).alloc (.cells #[.int .i64 x, .int .i64 f, .int .i64 c, .int .i64 t] 3) = W0 := ⟨_, rfl⟩
  have hs0 : W0.heap.size = w.heap.size + 1 + 1 + 1 := by rw [← hW0]; simp
  have bl : Below w.heap.size w W0 := by rw [← hW0]; exact (((Below.refl _ _).alloc (Nat.le_refl _) _).alloc (by simp) _).alloc (by simp; omega) _
  have m0 : Box W0 (w.heap.size + 1) (.slice none 0 0) (.slice none 0 0) (.int .i64 0) (.int .i64 0) := by
    have q := box_new (w.alloc (.cells #[.slice a r cap, .slice b s dap, .int .i64 o, .int .i64 n] 24)) (.slice none 0 0) (.slice none 0 0) (.int .i64 0) (.int .i64 0) 24
    rw [World.size_alloc] at q
    rw [← hW0]; exact q.below (B := w.heap.size + 1 + 1) ((Below.refl _ _).alloc (by simp) _) (by omega)
  have g0 : Free W0 (w.heap.size + 1) := by
    have q := free_new (w.alloc (.cells #[.slice a r cap, .slice b s dap, .int .i64 o, .int .i64 n] 24)) #[.slice none 0 0, .slice none 0 0, .int .i64 0, .int .i64 0] 24
    rw [World.size_alloc] at q
    rw [← hW0]; exact q.below (B := w.heap.size + 1 + 1) ((Below.refl _ _).alloc (by simp) _) (by omega)
  have i0 : Ints W0.heap.size W0 (some ⟨w.heap.size + 1 + 1, 0, none⟩) 4 (four x f c t) := by
    refine .inr ⟨_, _, rfl, by omega, fun j hj => ?_⟩
    obtain ⟨b1, b2, b3, b4⟩ := hb
    rw [← hW0]
    match j, hj with
    | 0, _ => exact ⟨by simp [go_sem, four], b1⟩
    | 1, _ => exact ⟨by simp [go_sem, four], b2⟩
    | 2, _ => exact ⟨by simp [go_sem, four], b3⟩
    | 3, _ => exact ⟨by simp [go_sem, four], b4⟩
  have H := hide (h.below (bl.mono hB))
  have H' := hide (h'.below (bl.mono hB))
  have lv := (sliceV_le r s D S o n x f c t).1
  have lw := (sliceV_le r s D S o n x f c t).2
  have CT := hide (turned ⟨#[115, 108, 105, 99, 101]⟩ 53 (sliceV r s D S o n x f c t) (enters_of Try.func53 (by kernel_rfl) rfl) sliceNamed W0.heap.size a b (some ⟨w.heap.size + 1 + 1, 0, none⟩) r s 4 cap dap 4 D S (four x f c t) o n W0 (Nat.le_refl _) (H.out.mono (by omega)) (H'.out.mono (by omega)) i0 hr hs hna hnb (by omega) (by omega)
    (fun va vb W v ra rb hne hi hsz => hT _ _ _ _ va vb W v ra rb hne hi (by omega)))
  have BL := hide bl
  have M0 := hide m0
  have G0 := hide g0
  have HS0 := hide hs0
  clear h h' hT m0 g0 i0 bl hs0 lv lw
  go_enter Try.func20, Try.ntmps20
  go_wp2_with fail
  refine CT.out.mono ?_
  rintro e w1 ⟨ta, tb, tc, td, rfl, hvo, b1⟩
  obtain ⟨T, hTT⟩ : ∃ T, turnedV r s D S o n (sliceV r s D S o n x f c t) = T := ⟨_, rfl⟩
  rw [hTT] at hvo ⊢
  have zz := HS0.out
  have M1 := hide (M0.out.below b1 (by omega))
  have G1 := hide (G0.out.below b1 (by omega))
  have B1 := hide (BL.out.trans (b1.mono BL.out.size))
  have VO := hide hvo
  have HTT := hide hTT
  clear hvo b1 zz hW0 CT hTT
  obtain ⟨y0, y1, y2, y3⟩ := M1.out
  have gg := G1.out
  unfold Free at gg
  go_wp2_with fail
  refine bodyPost_ret (v := .agg #[.slice ta T.r tc, .slice tb T.s td, .int .i64 T.o, .int .i64 T.n]) (by simp [results, Try.results20, go_sem, y0, y1, y2, y3]) rfl ?_
  have zz := HS0.out
  have k4 := kept_sets4 w1 (w.heap.size + 1) (.slice ta T.r tc) (.slice tb T.s td) (.int .i64 T.o) (.int .i64 T.n)
  show ViewR w.heap.size (turnedV r s D S o n (sliceV r s D S o n x f c t)) w _ _
  rw [HTT.out]
  exact ⟨ta, tb, tc, td, rfl, (VO.out.kept k4 (fun k q e => by have := (VO.out.blk q).1; have e : k = w.heap.size + 1 := e; omega)).mono (B' := w.heap.size) (by omega), B1.out.trans (k4.below B1.out.size (fun j e => by have e : j = w.heap.size + 1 := e; omega))⟩
end Vo
end Go.Proofs.Ytldcacdopijfdaa
