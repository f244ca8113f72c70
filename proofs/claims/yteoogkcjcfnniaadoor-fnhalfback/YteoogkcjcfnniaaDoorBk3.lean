/- A half made a float and back: the program's answers, each under a name. -/
import Derived.Test.YteoogkcjcfnniaaDoorBk2
namespace Go.Proofs.YteoogkcjcfnniaaDoor
namespace FlV
open Go.ChangeShapes Go.WideShapes Go.ChangeAt Go.RowKit Go.Joins
open Flo (hide ret_int ret_bool)
set_option linter.unusedVariables false

theorem up_bd (a s e : Int) (m : Nat) (h : FlP.FinH a s m e) : 0 ≤ up m e ∧ up m e < 2139095040 := by
  obtain ⟨L, _⟩ := half_bl a s e m h
  obtain ⟨s0, s1, _, _, m1, e0, e1, hc⟩ := h
  unfold up
  by_cases m0 : m = 0
  · rw [if_pos m0]; omega
  · rw [if_neg m0]
    obtain ⟨b1, b2⟩ := mant_bd m m0 (by omega)
    have L0 := Rnd.bl_pos m m0
    generalize ((m * 2 ^ (24 - Rnd.bl m) : Nat) : Int) = z at *
    omega
theorem ofHalfN (a s e r : Int) (m : Nat) (w : World) (h : FlP.FinH a s m e) (hr : s * 2147483648 + up m e = r) (hv : SV w) (hh : HV w) :
    Calls Tryd.prog 12 #[.int .i64 a] w fun e' w' => e' = .returned (.int .i64 r) ∧ Below w.heap.size w w' := by
  rw [← hr]; exact ofHalfV a s e m w h hv hh
theorem halfOfN (a s e r : Int) (m : Nat) (w : World) (h : FlP.FinH a s m e) (hr : s * 2147483648 + up m e = r) (hv : SV w) (hh : HV w) :
    Calls Tryd.prog 11 #[.int .i64 r] w fun e' w' => e' = .returned (.int .i64 a) ∧ Below w.heap.size w w' := by
  rw [← hr]; exact halfOfV a s e m w h hv hh
theorem lessV (a b e f : Int) (m n : Nat) (w : World) (ha : FlP.FinH a 0 m e) (hb : FlP.FinH b 0 n f) (hv : SV w) :
    Calls Tryd.prog 14 #[.int .i64 (up m e), .int .i64 (up n f)] w fun e' w' => e' = .returned (.bool (decide (a < b))) ∧ Below w.heap.size w w' := by
  obtain ⟨a0, a1⟩ := up_bd a 0 e m ha
  obtain ⟨b0, b1⟩ := up_bd b 0 f n hb
  obtain ⟨m', e', fa, _⟩ := up_fin a 0 e m ha
  obtain ⟨n', f', fb, _⟩ := up_fin b 0 f n hb
  rw [Int.zero_mul, Int.zero_add] at fa fb
  have na : Num (up m e) 0 := .inr ⟨_, _, fa⟩
  have nb : Num (up n f) 0 := .inr ⟨_, _, fb⟩
  have key : decide (rank (up m e) 0 < rank (up n f) 0) = decide (a < b) := by
    unfold rank
    rw [if_neg (by decide), if_neg (by decide), Bool.eq_iff_iff, decide_eq_true_eq, decide_eq_true_eq]
    constructor
    · intro h
      rcases Int.lt_trichotomy a b with c | c | c
      · exact c
      · exfalso
        have hm : (m : Int) = (n : Int) ∧ e = f := by
          obtain ⟨_, _, h1, _, m1, e0, _, hc⟩ := ha
          obtain ⟨_, _, h2, _, n1, f0, _, hd⟩ := hb
          omega
        obtain ⟨hm1, rfl⟩ := hm
        have : m = n := by omega
        subst this
        omega
      · have := up_lt b a f e n m hb ha c; omega
    · intro h; exact up_lt a b e f m n ha hb h
  obtain ⟨k1, s1, x1, y1, c1, hA⟩ := splitAny (up m e)
  obtain ⟨k2, s2, x2, y2, c2, hB⟩ := splitAny (up n f)
  have nz : ∀ c s, 0 ≤ c → c < 2139095040 → Num c s → s = 0 := fun c s h0 h1 hn => by have := hn.bd; omega
  have notbad : ∀ c, Num c 0 → ¬ FlP.Bad c := by
    intro c hn hb
    rcases hn with hi | ⟨mm, ee, hf⟩
    · unfold FlP.Inf at hi; unfold FlP.Bad at hb; omega
    · unfold FlP.Fin at hf; unfold FlP.Bad at hb; omega
  rcases c1.num with ⟨_, bad⟩ | ⟨q1, n1⟩
  · exact absurd bad (notbad _ na)
  · rcases c2.num with ⟨_, bad⟩ | ⟨q2, n2⟩
    · exact absurd bad (notbad _ nb)
    · obtain rfl := nz _ _ a0 a1 n1
      obtain rfl := nz _ _ b0 b1 n2
      exact lessWalk (up m e) (up n f) k1 0 x1 y1 k2 0 x2 y2 _ w hv hA hB (.inr (.inr ⟨q1, q2, n1, n2, key.symm⟩))
theorem fl_one : Rnd.fl 23 255 (1 * 2 ^ 149) 1 = 1065353216 := by decide +kernel
theorem ofOne (w : World) (hv : SV w) : Calls Tryd.prog 13 #[.int .i64 1] w fun e' w' => e' = .returned (.int .i64 1065353216) ∧ Below w.heap.size w w' := by
  obtain ⟨v0, v1⟩ := hv.cells
  have hr : Hid (∀ w, Calls Tryd.prog 25 #[.agg #[.int .u8 8, .int .u8 23], .int .u8 0, .int .u64 1, .int .i64 0] w fun e w' => e = .returned (.int .i64 1065353216) ∧ Below w.heap.size w w') := by
    intro w
    have := FlR.roundS 0 0 1 (1 * 2 ^ 149) 1 0 149 w (by decide) (by decide) (by decide) (by decide) (by decide) (by decide) (by decide) (by decide) (.inl ⟨by decide +kernel, by decide +kernel⟩)
    rw [fl_one] at this
    exact this
  clear hv
  go_enter Tryd.func13, Tryd.ntmps13
  go_wp2_with fail
  refine (hr.out _).mono ?_; rintro e w1 ⟨rfl, b1⟩
  go_wp2_with fail
  go_ret
  exact ⟨rfl, b1⟩
theorem up_one : FlP.FinH 15360 0 (1024 : Nat) (-10) ∧ 0 * 2147483648 + up 1024 (-10) = 1065353216 := by
  refine ⟨by unfold FlP.FinH; omega, by decide +kernel⟩

end FlV
end Go.Proofs.YteoogkcjcfnniaaDoor
