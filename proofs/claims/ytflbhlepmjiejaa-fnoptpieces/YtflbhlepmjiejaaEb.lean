/- The root on both sides (written by tools/gen15.py). -/
import Derived.Test.YtflbhlepmjiejaaIe
namespace Go.Proofs.Ytflbhlepmjiejaa
namespace Vo
open Go.ChangeShapes Go.WideShapes Go.ChangeAt Go.RowKit Go.Joins Go.Sort
open Vl
set_option linter.unusedVariables false
set_option linter.unusedSimpArgs false
theorem wid {x : Int} (h : -9223372036854775808 ≤ x ∧ x ≤ 9223372036854775807) : IntKind.i64.wrap x = x := by rw [IntKind.wrap_i64]; omega
theorem sq_le {a b : Int} (a0 : 0 ≤ a) (h : a ≤ b) : a * a ≤ b * b := Int.mul_le_mul h h a0 (by omega)
/-- v is the root of n -/
def IsRt (n v : Int) : Prop := 0 ≤ v ∧ v * v ≤ n ∧ n < (v + 1) * (v + 1)
theorem rt_nat (k : Nat) : ∃ v : Int, IsRt (k : Int) v := by
  induction k with
  | zero => exact ⟨0, by omega, by decide, by decide⟩
  | succ k ih =>
    obtain ⟨v, v0, v1, v2⟩ := ih
    by_cases c : ((k + 1 : Nat) : Int) < (v + 1) * (v + 1)
    · exact ⟨v, v0, by omega, c⟩
    · refine ⟨v + 1, by omega, by omega, ?_⟩
      have : (v + 1) * (v + 1) < (v + 1 + 1) * (v + 1 + 1) := Int.mul_lt_mul (by omega) (by omega) (by omega) (by omega)
      omega
theorem rt_ex {n : Int} (h : 0 ≤ n) : ∃ v, IsRt n v := by
  obtain ⟨k, rfl⟩ := Int.eq_ofNat_of_zero_le h
  exact rt_nat k
theorem rt_le {n v m : Int} (h : IsRt n v) (m0 : 0 ≤ m) : m * m ≤ n ↔ m ≤ v := by
  obtain ⟨v0, v1, v2⟩ := h
  constructor
  · intro q
    by_cases c : m ≤ v
    · exact c
    · have := sq_le (a := v + 1) (b := m) (by omega) (by omega)
      omega
  · intro q
    have := sq_le m0 q
    omega
theorem rt_top {n v : Int} (h : IsRt n v) (n1 : n ≤ 4611686018427387904) : v ≤ 2147483648 := by
  by_cases c : v ≤ 2147483648
  · exact c
  · have := sq_le (a := 2147483649) (b := v) (by decide) (by omega)
    have := h.2.1
    omega
theorem rt_one {n v u : Int} (h : IsRt n v) (k : IsRt n u) : v = u := by
  have h1 := (rt_le k h.1).1 h.2.1
  have h2 := (rt_le h k.1).1 k.2.1
  omega
theorem two_half (j : Nat) : (2 : Int) ^ (j + 1) / 2 = 2 ^ j := by
  rw [Int.pow_succ]; omega
theorem two_pos (j : Nat) : (1 : Int) ≤ 2 ^ j := by
  have : (0 : Int) < 2 ^ j := Int.pow_pos (by decide)
  omega
set_option maxHeartbeats 1000000 in
theorem sRoot_no1 (n : Int) (w : World) (hn : bd n)  (g1 : decide (0 ≤ n ∧ n ≤ 4611686018427387904) = false) :
    Calls Try.prog 38 #[.int .i64 n] w fun e w' => e = .returned (.int .i64 0) ∧ Below w.heap.size w w' := by
  have Hn := hide hn
  clear hn
  have G1 := hide g1
  clear g1
  have BL : Hid (Below w.heap.size w w) := hide (Below.refl _ _)
  go_enter Try.func38, Try.ntmps38
  go_wp2_with fail
  refine (gInS n 0 4611686018427387904 false G1.out _).mono ?_
  rintro e1 w1 ⟨rfl, q1⟩
  replace BL := hide (BL.out.trans (q1.mono BL.out.size))
  clear q1
  go_wp2_with fail
  go_ret
  exact ⟨rfl, BL.out⟩
set_option maxHeartbeats 1000000 in
theorem sRoot_yes (n : Int) (w : World) (hn : bd n) (v : Int) (hv : IsRt n v) (n0 : 0 ≤ n) (n1 : n ≤ 4611686018427387904) (g1 : decide (0 ≤ n ∧ n ≤ 4611686018427387904) = true) :
    Calls Try.prog 38 #[.int .i64 n] w fun e w' => e = .returned (.int .i64 v) ∧ Below w.heap.size w w' := by
  have HV := hide hv
  have VT := hide (rt_top hv n1)
  clear hv
  have Hn := hide hn
  clear hn
  have G1 := hide g1
  clear g1
  have BL : Hid (Below w.heap.size w w) := hide (Below.refl _ _)
  go_enter Try.func38, Try.ntmps38
  go_wp2_with fail
  refine (gInS n 0 4611686018427387904 true G1.out _).mono ?_
  rintro e1 w1 ⟨rfl, q1⟩
  replace BL := hide (BL.out.trans (q1.mono BL.out.size))
  clear q1
  go_wp2_with fail
  go_loopw [3, 4] (fun lo hi wx => ∃ a b : Int, lo = .int .i64 a ∧ hi = .int .i64 b ∧ (0 ≤ a ∧ a ≤ v ∧ v < b ∧ b ≤ 2147483649) ∧ wx = w1) (fun lo hi _ => (intOf hi - intOf lo).toNat)
  case atStart => exact ⟨0, 2147483649, rfl, rfl, ⟨by decide, HV.out.1, by have := VT.out; omega, by decide⟩, rfl⟩
  case round =>
    obtain ⟨a, b, rfl, rfl, ⟨a0, av, vb, bt⟩, rfl⟩ := hrel
    have AV := hide av
    have VB := hide vb
    clear av vb
    have ab : a < b := by have := AV.out; have := VB.out; omega
    by_cases ct : 1 < b - a
    · have b1 : a ≤ 2147483649 := by omega
      obtain ⟨M, hM⟩ : ∃ M, (a + b) / 2 = M := ⟨_, rfl⟩
      have MB : Hid (a < M ∧ M < b) := hide (by omega)
      have hq : (a + b).tdiv 2 = M := by rw [Int.tdiv_eq_ediv_of_nonneg (by omega)]; exact hM
      have wq : IntKind.i64.wrap M = M := wid (by have := MB.out; omega)
      have m0 : 0 ≤ M * M := Int.mul_nonneg (by have := MB.out; omega) (by have := MB.out; omega)
      have m1 : M * M ≤ 4611686022722355201 := by have := sq_le (a := M) (b := 2147483649) (by have := MB.out; omega) (by have := MB.out; omega); omega
      have HQ := hide (rt_le HV.out (m := M) (by have := MB.out; omega))
      by_cases cm : M ≤ v
      · have e1 : M * M ≤ n := HQ.out.2 cm
        have R := hide (show (0 ≤ M ∧ M ≤ v ∧ v < b ∧ b ≤ 2147483649) by have := MB.out; have := VB.out; omega)
        have U := hide (show (b - M).toNat < (b - a).toNat by have := MB.out; omega)
        clear cm
        go_wp2_with fail
        go_roundw
        case rel => exact ⟨M, b, rfl, rfl, R.out, trivial⟩
        case measure => simp only [intOf]; exact U.out
      · have e1 : decide (M * M ≤ n) = false := decide_eq_false (fun h => cm (HQ.out.1 h))
        have R := hide (show (0 ≤ a ∧ a ≤ v ∧ v < M ∧ M ≤ 2147483649) by have := MB.out; have := AV.out; omega)
        have U := hide (show (M - a).toNat < (b - a).toNat by have := MB.out; omega)
        clear cm
        go_wp2_with fail
        go_roundw
        case rel => exact ⟨a, M, rfl, rfl, R.out, trivial⟩
        case measure => simp only [intOf]; exact U.out
    · have cf : decide (1 < b - a) = false := decide_eq_false ct
      have E := hide (show a = v by have := AV.out; have := VB.out; omega)
      clear ct
      have bl : b - a ≤ 1 := by have := of_decide_eq_false cf; omega
      go_wp2_with fail
      go_ret
      exact ⟨ret_int E.out, BL.out⟩
set_option maxHeartbeats 1000000 in
theorem iRoot_no1 (n : Int) (w : World) (hn : bd n)  (g1 : decide (0 ≤ n ∧ n ≤ 4611686018427387904) = false) :
    Calls Try.prog 75 #[.int .i64 n] w fun e w' => e = .returned (.int .i64 0) ∧ Below w.heap.size w w' := by
  have Hn := hide hn
  clear hn
  have G1 := hide g1
  clear g1
  have BL : Hid (Below w.heap.size w w) := hide (Below.refl _ _)
  go_enter Try.func75, Try.ntmps75
  go_wp2_with fail
  refine (inB_one 0 4611686018427387904 n false _ _ (by decide) Hn.out G1.out rfl).mono ?_
  rintro e1 w1 ⟨rfl, q1⟩
  replace BL := hide (BL.out.trans (q1.mono BL.out.size))
  clear q1
  go_wp2_with fail
  go_ret
  exact ⟨rfl, BL.out⟩
set_option maxHeartbeats 1000000 in
theorem iRoot_yes (n : Int) (w : World) (hn : bd n) (v : Int) (hv : IsRt n v) (n0 : 0 ≤ n) (n1 : n ≤ 4611686018427387904) (g1 : decide (0 ≤ n ∧ n ≤ 4611686018427387904) = true) :
    Calls Try.prog 75 #[.int .i64 n] w fun e w' => e = .returned (.int .i64 v) ∧ Below w.heap.size w w' := by
  have HV := hide hv
  have VT := hide (rt_top hv n1)
  clear hv
  have Hn := hide hn
  clear hn
  have G1 := hide g1
  clear g1
  have BL : Hid (Below w.heap.size w w) := hide (Below.refl _ _)
  go_enter Try.func75, Try.ntmps75
  go_wp2_with fail
  refine (inB_one 0 4611686018427387904 n true _ _ (by decide) Hn.out G1.out rfl).mono ?_
  rintro e1 w1 ⟨rfl, q1⟩
  replace BL := hide (BL.out.trans (q1.mono BL.out.size))
  clear q1
  go_wp2_with fail
  go_loopw [3, 4] (fun ro bi wx => ∃ (r : Int) (k : Nat), ro = .int .u64 r ∧ bi = .int .u64 (2 ^ k / 2) ∧ (0 ≤ r ∧ r ≤ v ∧ v < r + 2 ^ k ∧ r + 2 ^ k ≤ 4294967296 ∧ k ≤ 32) ∧ wx = w1) (fun _ bi _ => (intOf bi).toNat)
  case atStart => exact ⟨0, 32, rfl, by rfl, ⟨by decide, HV.out.1, by have := VT.out; omega, by decide, by decide⟩, rfl⟩
  case round =>
    obtain ⟨r, k, rfl, rfl, ⟨r0, rv, vr, rt, kt⟩, rfl⟩ := hrel
    have RV := hide rv
    have VR := hide vr
    have RT := hide rt
    have rl : r ≤ 2147483648 := by have := RV.out; have := VT.out; omega
    clear rv vr rt
    rcases k with _ | j
    · have E := hide (show r = v by have := RV.out; have := VR.out; simp only [Int.pow_zero] at this; omega)
      have z0 : (2 : Int) ^ 0 / 2 = 0 := by decide
      rw [z0]
      have cf : decide ((0 : Int) < 0) = false := by decide
      go_wp2_with fail
      go_ret
      exact ⟨ret_int E.out, BL.out⟩
    · rw [two_half]
      obtain ⟨b, hb⟩ : ∃ b : Int, (2 : Int) ^ j = b := ⟨_, rfl⟩
      have b2 : Hid ((2 : Int) ^ (j + 1) = 2 * b) := hide (by rw [Int.pow_succ, hb]; omega)
      have b1 : 1 ≤ b := hb ▸ two_pos j
      have R2 := hide (show r + 2 * b ≤ 4294967296 by have := RT.out; rw [b2.out] at this; exact this)
      have R3 := hide (show v < r + 2 * b by have := VR.out; rw [b2.out] at this; exact this)
      have bt : b ≤ 2147483648 := by have := R2.out; omega
      rw [hb]
      have HB := hide hb
      clear hb
      obtain ⟨M, hM⟩ : ∃ M, r + b = M := ⟨_, rfl⟩
      have MB := hide (show 1 ≤ M ∧ M ≤ 4294967295 by have := R2.out; omega)
      have wM : IntKind.u64.wrap M = M := by rw [IntKind.wrap_u64]; have := MB.out; omega
      have m0 : 0 ≤ M * M := Int.mul_nonneg (by have := MB.out; omega) (by have := MB.out; omega)
      have m1 : M * M ≤ 18446744065119617025 := by have := sq_le (a := M) (b := 4294967295) (by have := MB.out; omega) (by have := MB.out; omega); omega
      have wS : IntKind.u64.wrap (M * M) = M * M := by rw [IntKind.wrap_u64]; omega
      have HQ := hide (rt_le HV.out (m := M) (by have := MB.out; omega))
      have tb : b.tdiv 2 = b / 2 := Int.tdiv_eq_ediv_of_nonneg (by omega)
      have U := hide (show (b / 2).toNat < b.toNat by omega)
      have NX := hide (show (Value.int .u64 (b / 2) = .int .u64 (2 ^ j / 2)) by rw [HB.out])
      by_cases cm : M ≤ v
      · have e1 : M * M ≤ n := HQ.out.2 cm
        have R := hide (show (0 ≤ M ∧ M ≤ v ∧ v < M + 2 ^ j ∧ M + 2 ^ j ≤ 4294967296 ∧ j ≤ 32) by rw [HB.out]; have := R2.out; have := R3.out; have := MB.out; omega)
        clear cm
        go_wp2_with fail
        go_roundw
        case rel => exact ⟨M, j, rfl, NX.out, R.out, trivial⟩
        case measure => simp only [intOf]; exact U.out
      · have e1 : decide (M * M ≤ n) = false := decide_eq_false (fun h => cm (HQ.out.1 h))
        have R := hide (show (0 ≤ r ∧ r ≤ v ∧ v < r + 2 ^ j ∧ r + 2 ^ j ≤ 4294967296 ∧ j ≤ 32) by rw [HB.out]; have := R2.out; have := R3.out; have := MB.out; have := RV.out; omega)
        clear cm
        go_wp2_with fail
        go_roundw
        case rel => exact ⟨r, j, rfl, NX.out, R.out, trivial⟩
        case measure => simp only [intOf]; exact U.out
/-- the root: both sides answer one number -/
theorem rootBoth (n : Int) (hn : bd n) : ∃ v : Int, (0 ≤ v ∧ v ≤ 2147483648) ∧ (0 ≤ n → n ≤ 4611686018427387904 → IsRt n v) ∧
    (∀ w, Calls Try.prog 38 #[.int .i64 n] w fun e w' => e = .returned (.int .i64 v) ∧ Below w.heap.size w w') ∧
    (∀ w, Calls Try.prog 75 #[.int .i64 n] w fun e w' => e = .returned (.int .i64 v) ∧ Below w.heap.size w w') := by
  cases g1 : decide (0 ≤ n ∧ n ≤ 4611686018427387904)
  · exact ⟨0, by omega, fun h h' => absurd ⟨h, h'⟩ (of_decide_eq_false g1), fun w => sRoot_no1 n w hn g1, fun w => iRoot_no1 n w hn g1⟩
  obtain ⟨n0, n1⟩ := of_decide_eq_true g1
  obtain ⟨v, hv⟩ := rt_ex n0
  exact ⟨v, ⟨hv.1, rt_top hv n1⟩, fun _ _ => hv, fun w => sRoot_yes n w hn v hv n0 n1 g1, fun w => iRoot_yes n w hn v hv n0 n1 g1⟩
end Vo
end Go.Proofs.Ytflbhlepmjiejaa
