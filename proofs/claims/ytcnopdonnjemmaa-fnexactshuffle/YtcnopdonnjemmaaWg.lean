/- The told generator on both sides (written by tools/gen16.py). -/
import Derived.Test.YtcnopdonnjemmaaIe
namespace Go.Proofs.Ytcnopdonnjemmaa
namespace Vo
open Go.ChangeShapes Go.WideShapes Go.ChangeAt Go.RowKit Go.Joins Go.Sort
open Vl
set_option linter.unusedVariables false
set_option linter.unusedSimpArgs false
theorem wid (x : Int) (h : -9223372036854775808 ≤ x ∧ x ≤ 9223372036854775807) : IntKind.i64.wrap x = x := by rw [IntKind.wrap_i64]; omega
/-- the next state -/
def stn (s : Int) : Int := (1664525 * s + 1013904223) % 4294967296
theorem stn_rng (s : Int) : 0 ≤ stn s ∧ stn s ≤ 4294967295 := by unfold stn; omega
/-- a state that can be -/
def stOk (s : Int) : Bool := decide (0 ≤ s ∧ s ≤ 4294967295)
/-- a number below n, by the next state -/
def blw (s n : Int) : Int := stn s * n / 4294967296
theorem mul_st {s n : Int} (n0 : 0 ≤ n) (n1 : n ≤ 2147483648) : 0 ≤ stn s * n ∧ stn s * n ≤ 9223372034707292160 := by
  obtain ⟨a, b⟩ := stn_rng s
  refine ⟨Int.mul_nonneg a n0, ?_⟩
  calc stn s * n ≤ 4294967295 * n := Int.mul_le_mul_of_nonneg_right b n0
    _ ≤ 9223372034707292160 := by omega
theorem blw_rng {s n : Int} (n0 : 1 ≤ n) (n1 : n ≤ 2147483648) : 0 ≤ blw s n ∧ blw s n < n := by
  obtain ⟨a, b⟩ := stn_rng s
  obtain ⟨c, d⟩ := mul_st (s := s) (n := n) (by omega) n1
  unfold blw
  have : stn s * n ≤ 4294967295 * n := Int.mul_le_mul_of_nonneg_right b (by omega)
  omega
theorem mask32 (n : Int) : bits .and .i64 n 4294967295 = n % 4294967296 := by
  have key : (BitVec.ofInt 64 n &&& BitVec.ofInt 64 4294967295).toNat = (n % ((2 ^ 64 : Nat) : Int)).toNat % 2 ^ 32 := by
    rw [BitVec.toNat_and, BitVec.toNat_ofInt, show (BitVec.ofInt 64 4294967295).toNat = 2 ^ 32 - 1 by decide, Nat.and_two_pow_sub_one_eq_mod]
  show IntKind.i64.wrap ((BitVec.ofInt 64 n &&& BitVec.ofInt 64 4294967295).toNat : Nat) = n % 4294967296
  rw [key, IntKind.wrap_i64]
  omega
theorem st_wid {s : Int} : IntKind.i64.wrap (stn s) = stn s := wid _ (by have := stn_rng s; omega)
theorem u32_id {s : Int} (h : 0 ≤ s ∧ s ≤ 4294967295) : IntKind.u32.wrap s = s := by rw [IntKind.wrap_u32]; omega
theorem u32_next (s : Int) : IntKind.u32.wrap (IntKind.u32.wrap (1664525 * s) + 1013904223) = stn s := by
  rw [IntKind.wrap_u32, IntKind.wrap_u32]; unfold stn; omega
theorem stateS (s : Int) (b : Bool) (hb : stOk s = b) (w : World) :
    Calls Try.prog 29 #[.int .i64 s] w fun e w' => e = .returned (.bool b) ∧ Below w.heap.size w w' := by
  by_cases c1 : 0 ≤ s
  · have e := hide (show decide (s < 4294967296) = b by rw [← hb]; unfold stOk; rw [decide_eq_decide]; omega)
    clear hb
    go_enter Try.func29, Try.ntmps29
    go_wp2_with fail
    go_ret
    exact ⟨ret_bool e.out, Below.refl _ _⟩
  · have e := hide (show false = b by rw [← hb]; unfold stOk; rw [decide_eq_false]; omega)
    have c1' : decide (0 ≤ s) = false := decide_eq_false c1
    clear c1 hb
    go_enter Try.func29, Try.ntmps29
    go_wp2_with fail
    go_ret
    exact ⟨ret_bool e.out, Below.refl _ _⟩
theorem stateI (s : Int) (b : Bool) (hs : bd s) (hb : stOk s = b) (w : World) :
    Calls Try.prog 30 #[.int .i64 s] w fun e w' => e = .returned (.bool b) ∧ Below w.heap.size w w' := by
  have C := hide (fun w => inB_one 0 4294967295 s b _ w (by decide) hs hb rfl)
  clear hb hs
  go_enter Try.func30, Try.ntmps30
  go_wp2_with fail
  refine (C.out _).mono ?_; rintro e1 w1 ⟨rfl, b1⟩
  go_wp2_with fail
  go_ret
  exact ⟨rfl, b1⟩
theorem nextG (s : Int) (w : World) :
    Calls Try.prog 31 #[.int .u32 s] w fun e w' => e = .returned (.int .u32 (stn s)) ∧ w' = w := by
  have e := hide (u32_next s)
  go_enter Try.func31, Try.ntmps31
  go_wp2_with fail
  go_ret
  exact ⟨ret_int e.out, rfl⟩
set_option maxHeartbeats 1000000 in
theorem sNext_no1 (s : Int) (w : World) (hs : bd s)  (g1 : stOk s = false) :
    Calls Try.prog 9 #[.int .i64 s] w fun e w' => e = .returned (.int .i64 0) ∧ Below w.heap.size w w' := by
  have Hs := hide hs
  clear hs
  have G1 := hide g1
  clear g1
  have BL : Hid (Below w.heap.size w w) := hide (Below.refl _ _)
  go_enter Try.func9, Try.ntmps9
  go_wp2_with fail
  refine (stateS s false G1.out _).mono ?_
  rintro e1 w1 ⟨rfl, q1⟩
  replace BL := hide (BL.out.trans (q1.mono BL.out.size))
  clear q1
  go_wp2_with fail
  go_ret
  exact ⟨rfl, BL.out⟩
set_option maxHeartbeats 1000000 in
theorem sNext_yes (s : Int) (w : World) (hs : bd s)  (g1 : stOk s = true) :
    Calls Try.prog 9 #[.int .i64 s] w fun e w' => e = .returned (.int .i64 (stn s)) ∧ Below w.heap.size w w' := by
  have mk := mask32
  have E := hide (show (1664525 * s + 1013904223) % 4294967296 = stn s from rfl)
  have Hs := hide hs
  clear hs
  have s0 : 0 ≤ s ∧ s ≤ 4294967295 := of_decide_eq_true g1
  have G1 := hide g1
  clear g1
  have BL : Hid (Below w.heap.size w w) := hide (Below.refl _ _)
  go_enter Try.func9, Try.ntmps9
  go_wp2_with fail
  refine (stateS s true G1.out _).mono ?_
  rintro e1 w1 ⟨rfl, q1⟩
  replace BL := hide (BL.out.trans (q1.mono BL.out.size))
  clear q1
  obtain ⟨s0, s1⟩ := s0
  go_wp2_with fail
  go_ret
  exact ⟨ret_int E.out, BL.out⟩
set_option maxHeartbeats 1000000 in
theorem iNext_no1 (s : Int) (w : World) (hs : bd s)  (g1 : stOk s = false) :
    Calls Try.prog 10 #[.int .i64 s] w fun e w' => e = .returned (.int .i64 0) ∧ Below w.heap.size w w' := by
  have Hs := hide hs
  clear hs
  have G1 := hide g1
  clear g1
  have BL : Hid (Below w.heap.size w w) := hide (Below.refl _ _)
  go_enter Try.func10, Try.ntmps10
  go_wp2_with fail
  refine (stateI s false Hs.out G1.out _).mono ?_
  rintro e1 w1 ⟨rfl, q1⟩
  replace BL := hide (BL.out.trans (q1.mono BL.out.size))
  clear q1
  go_wp2_with fail
  go_ret
  exact ⟨rfl, BL.out⟩
set_option maxHeartbeats 1000000 in
theorem iNext_yes (s : Int) (w : World) (hs : bd s)  (g1 : stOk s = true) :
    Calls Try.prog 10 #[.int .i64 s] w fun e w' => e = .returned (.int .i64 (stn s)) ∧ Below w.heap.size w w' := by
  have SW := st_wid (s := s)
  have SU := u32_id (of_decide_eq_true g1)
  have Hs := hide hs
  clear hs
  have s0 : 0 ≤ s ∧ s ≤ 4294967295 := of_decide_eq_true g1
  have G1 := hide g1
  clear g1
  have BL : Hid (Below w.heap.size w w) := hide (Below.refl _ _)
  go_enter Try.func10, Try.ntmps10
  go_wp2_with fail
  refine (stateI s true Hs.out G1.out _).mono ?_
  rintro e1 w1 ⟨rfl, q1⟩
  replace BL := hide (BL.out.trans (q1.mono BL.out.size))
  clear q1
  clear s0
  go_wp2_with fail
  refine (nextG s _).mono ?_
  rintro e1 w2 ⟨rfl, rfl⟩
  go_wp2_with fail
  go_ret
  exact ⟨rfl, BL.out⟩
theorem nextBoth (s : Int) (hs : bd s) : ∃ v : Int, bd v ∧ (stOk s = true → v = stn s) ∧
    (∀ w, Calls Try.prog 9 #[.int .i64 s] w fun e w' => e = .returned (.int .i64 v) ∧ Below w.heap.size w w') ∧
    (∀ w, Calls Try.prog 10 #[.int .i64 s] w fun e w' => e = .returned (.int .i64 v) ∧ Below w.heap.size w w') := by
  cases g1 : stOk s
  · exact ⟨0, by unfold bd; omega, fun h => by simp at h, fun w => sNext_no1 s w hs g1, fun w => iNext_no1 s w hs g1⟩
  · exact ⟨stn s, by have := stn_rng s; unfold bd; omega, fun _ => rfl, fun w => sNext_yes s w hs g1, fun w => iNext_yes s w hs g1⟩
set_option maxHeartbeats 1000000 in
theorem sBel_no1 (s n : Int) (w : World) (hs : bd s) (hn : bd n)  (g1 : stOk s = false) :
    Calls Try.prog 11 #[.int .i64 s, .int .i64 n] w fun e w' => e = .returned (.tuple #[.int .i64 (0), .int .i64 (s)]) ∧ Below w.heap.size w w' := by
  have Hs := hide hs
  have Hn := hide hn
  clear hs hn
  have G1 := hide g1
  clear g1
  have BL : Hid (Below w.heap.size w w) := hide (Below.refl _ _)
  go_enter Try.func11, Try.ntmps11
  go_wp2_with fail
  refine (stateS s false G1.out _).mono ?_
  rintro e1 w1 ⟨rfl, q1⟩
  replace BL := hide (BL.out.trans (q1.mono BL.out.size))
  clear q1
  go_wp2_with fail
  go_ret2
  exact ⟨rfl, BL.out⟩
set_option maxHeartbeats 1000000 in
theorem sBel_no2 (s n : Int) (w : World) (hs : bd s) (hn : bd n)  (g1 : stOk s = true) (g2 : decide (1 ≤ n ∧ n ≤ 2147483648) = false) :
    Calls Try.prog 11 #[.int .i64 s, .int .i64 n] w fun e w' => e = .returned (.tuple #[.int .i64 (0), .int .i64 (s)]) ∧ Below w.heap.size w w' := by
  have Hs := hide hs
  have Hn := hide hn
  clear hs hn
  have s0 : 0 ≤ s ∧ s ≤ 4294967295 := of_decide_eq_true g1
  have G1 := hide g1
  have G2 := hide g2
  clear g1 g2
  have BL : Hid (Below w.heap.size w w) := hide (Below.refl _ _)
  go_enter Try.func11, Try.ntmps11
  go_wp2_with fail
  refine (stateS s true G1.out _).mono ?_
  rintro e1 w1 ⟨rfl, q1⟩
  replace BL := hide (BL.out.trans (q1.mono BL.out.size))
  clear q1
  go_wp2_with fail
  refine (gInS n 1 2147483648 false G2.out _).mono ?_
  rintro e1 w2 ⟨rfl, q2⟩
  replace BL := hide (BL.out.trans (q2.mono BL.out.size))
  clear q2
  go_wp2_with fail
  go_ret2
  exact ⟨rfl, BL.out⟩
set_option maxHeartbeats 1000000 in
theorem sBel_yes (s n : Int) (w : World) (hs : bd s) (hn : bd n)  (g1 : stOk s = true) (g2 : decide (1 ≤ n ∧ n ≤ 2147483648) = true) :
    Calls Try.prog 11 #[.int .i64 s, .int .i64 n] w fun e w' => e = .returned (.tuple #[.int .i64 (blw s n), .int .i64 (stn s)]) ∧ Below w.heap.size w w' := by
  have NX := hide (fun w => sNext_yes s w hs g1)
  obtain ⟨m0, m1⟩ := mul_st (s := s) (n := n) (by have := of_decide_eq_true g2; omega) (by have := of_decide_eq_true g2; omega)
  have E := hide (show stn s * n / 4294967296 = blw s n from rfl)
  have Hs := hide hs
  have Hn := hide hn
  clear hs hn
  have s0 : 0 ≤ s ∧ s ≤ 4294967295 := of_decide_eq_true g1
  have G1 := hide g1
  have G2 := hide g2
  clear g1 g2
  have BL : Hid (Below w.heap.size w w) := hide (Below.refl _ _)
  go_enter Try.func11, Try.ntmps11
  go_wp2_with fail
  refine (stateS s true G1.out _).mono ?_
  rintro e1 w1 ⟨rfl, q1⟩
  replace BL := hide (BL.out.trans (q1.mono BL.out.size))
  clear q1
  go_wp2_with fail
  refine (gInS n 1 2147483648 true G2.out _).mono ?_
  rintro e1 w2 ⟨rfl, q2⟩
  replace BL := hide (BL.out.trans (q2.mono BL.out.size))
  clear q2
  clear s0
  go_wp2_with fail
  refine (NX.out _).mono ?_
  rintro e1 w3 ⟨rfl, q3⟩
  replace BL := hide (BL.out.trans (q3.mono BL.out.size))
  go_wp2_with fail
  go_ret2
  exact ⟨rfl, BL.out⟩
theorem belowG (s n : Int) (p : Nat) (w : World) (n0 : 1 ≤ n) (n1 : n ≤ 2147483648) (hp : w.cell? ⟨p, 0, none⟩ = some (.int .u32 s)) (hf : w.frozen? ⟨p, 0, none⟩ = false) :
    Calls Try.prog 34 #[.pointer (some ⟨p, 0, none⟩), .int .i64 n] w fun e w' => e = .returned (.int .i64 (blw s n)) ∧ w' = w.setCell ⟨p, 0, none⟩ (.int .u32 (stn s)) := by
  obtain ⟨m0, m1⟩ := mul_st (s := s) (n := n) (by omega) n1
  have SW := st_wid (s := s)
  have E := hide (show stn s * n / 4294967296 = blw s n from rfl)
  obtain ⟨W1, hW1⟩ : ∃ W1, w.setCell ⟨p, 0, none⟩ (.int .u32 (stn s)) = W1 := ⟨_, rfl⟩
  have c1 : W1.cell? ⟨p, 0, none⟩ = some (.int .u32 (stn s)) := hW1 ▸ World.cell?_setCell_same _ _ _ hp
  have N0 := hide n0
  go_enter Try.func34, Try.ntmps34
  go_wp2_with fail
  refine (nextG s _).mono ?_
  rintro e1 w2 ⟨rfl, rfl⟩
  go_wp2_with fail
  go_ret
  exact ⟨ret_int E.out, hW1.symm⟩
set_option maxHeartbeats 1000000 in
theorem iBel_no1 (s n : Int) (w : World) (hs : bd s) (hn : bd n)  (g1 : stOk s = false) :
    Calls Try.prog 12 #[.int .i64 s, .int .i64 n] w fun e w' => e = .returned (.tuple #[.int .i64 (0), .int .i64 (s)]) ∧ Below w.heap.size w w' := by
  have Hs := hide hs
  have Hn := hide hn
  clear hs hn
  have G1 := hide g1
  clear g1
  have BL : Hid (Below w.heap.size w w) := hide (Below.refl _ _)
  go_enter Try.func12, Try.ntmps12
  go_wp2_with fail
  refine (stateI s false Hs.out G1.out _).mono ?_
  rintro e1 w1 ⟨rfl, q1⟩
  replace BL := hide (BL.out.trans (q1.mono BL.out.size))
  clear q1
  go_wp2_with fail
  go_ret2
  exact ⟨rfl, BL.out⟩
set_option maxHeartbeats 1000000 in
theorem iBel_no2 (s n : Int) (w : World) (hs : bd s) (hn : bd n)  (g1 : stOk s = true) (g2 : decide (1 ≤ n ∧ n ≤ 2147483648) = false) :
    Calls Try.prog 12 #[.int .i64 s, .int .i64 n] w fun e w' => e = .returned (.tuple #[.int .i64 (0), .int .i64 (s)]) ∧ Below w.heap.size w w' := by
  have Hs := hide hs
  have Hn := hide hn
  clear hs hn
  have s0 : 0 ≤ s ∧ s ≤ 4294967295 := of_decide_eq_true g1
  have G1 := hide g1
  have G2 := hide g2
  clear g1 g2
  have BL : Hid (Below w.heap.size w w) := hide (Below.refl _ _)
  go_enter Try.func12, Try.ntmps12
  go_wp2_with fail
  refine (stateI s true Hs.out G1.out _).mono ?_
  rintro e1 w1 ⟨rfl, q1⟩
  replace BL := hide (BL.out.trans (q1.mono BL.out.size))
  clear q1
  go_wp2_with fail
  refine (inB_one 1 2147483648 n false _ _ (by decide) Hn.out G2.out rfl).mono ?_
  rintro e1 w2 ⟨rfl, q2⟩
  replace BL := hide (BL.out.trans (q2.mono BL.out.size))
  clear q2
  go_wp2_with fail
  go_ret2
  exact ⟨rfl, BL.out⟩
set_option maxHeartbeats 1000000 in
theorem iBel_yes (s n : Int) (w : World) (hs : bd s) (hn : bd n)  (g1 : stOk s = true) (g2 : decide (1 ≤ n ∧ n ≤ 2147483648) = true) :
    Calls Try.prog 12 #[.int .i64 s, .int .i64 n] w fun e w' => e = .returned (.tuple #[.int .i64 (blw s n), .int .i64 (stn s)]) ∧ Below w.heap.size w w' := by
  have Hs := hide hs
  have Hn := hide hn
  clear hs hn
  have s0 : 0 ≤ s ∧ s ≤ 4294967295 := of_decide_eq_true g1
  have f2 : 1 ≤ n ∧ n ≤ 2147483648 := of_decide_eq_true g2
  have G1 := hide g1
  have G2 := hide g2
  clear g1 g2
  have BL : Hid (Below w.heap.size w w) := hide (Below.refl _ _)
  go_enter Try.func12, Try.ntmps12
  go_wp2_with fail
  refine (stateI s true Hs.out G1.out _).mono ?_
  rintro e1 w1 ⟨rfl, q1⟩
  replace BL := hide (BL.out.trans (q1.mono BL.out.size))
  clear q1
  go_wp2_with fail
  refine (inB_one 1 2147483648 n true _ _ (by decide) Hn.out G2.out rfl).mono ?_
  rintro e1 w2 ⟨rfl, q2⟩
  replace BL := hide (BL.out.trans (q2.mono BL.out.size))
  clear q2
  have SU := u32_id s0
  have n0 : 1 ≤ n := f2.1
  have n1 : n ≤ 2147483648 := f2.2
  clear s0 f2
  have SW := st_wid (s := s)
  obtain ⟨W3, hW3⟩ : ∃ W3, w2.alloc (.cells #[.int .u32 s] 47) = W3 := ⟨_, rfl⟩
  have c3 : W3.cell? ⟨w2.heap.size, 0, none⟩ = some (.int .u32 s) := by rw [← hW3]; simp [go_sem]
  have f3 : W3.frozen? ⟨w2.heap.size, 0, none⟩ = false := by rw [← hW3]; simp [go_sem]
  have B3 := hide (show Below w.heap.size w W3 from hW3 ▸ BL.out.alloc BL.out.size _)
  have SZ := hide BL.out.size
  go_wp2_with fail
  refine (belowG s n _ _ n0 n1 c3 f3).mono ?_
  rintro e1 w4 ⟨rfl, h4⟩
  have c4 : w4.cell? ⟨w2.heap.size, 0, none⟩ = some (.int .u32 (stn s)) := by rw [h4]; exact World.cell?_setCell_same _ _ _ c3
  have B4 := hide (show Below w.heap.size w w4 from h4 ▸ B3.out.setCell (show w.heap.size ≤ w2.heap.size from SZ.out) _)
  clear h4 c3 f3 hW3
  go_wp2_with fail
  have k4 := cell_regrown c4
  clear c4
  refine wp_region_quiet_below (by kernel_rfl) (by kernel_rfl) ?_
  repeat (go_big_quiet_step (fail))
  refine wpQuiet_nil ?_
  intro _ hw'
  obtain ⟨⟨dq, osq⟩, hw''⟩ := hw'
  subst hw''
  go_wp2_with fail
  go_ret2
  exact ⟨rfl, B4.out.trans ((below_regrown _ dq osq).mono B4.out.size)⟩
theorem belowBoth (s n : Int) (hs : bd s) (hn : bd n) : ∃ u v : Int,
    (∀ w, Calls Try.prog 11 #[.int .i64 s, .int .i64 n] w fun e w' => e = .returned (.tuple #[.int .i64 u, .int .i64 v]) ∧ Below w.heap.size w w') ∧
    (∀ w, Calls Try.prog 12 #[.int .i64 s, .int .i64 n] w fun e w' => e = .returned (.tuple #[.int .i64 u, .int .i64 v]) ∧ Below w.heap.size w w') := by
  cases g1 : stOk s
  · exact ⟨0, s, fun w => sBel_no1 s n w hs hn g1, fun w => iBel_no1 s n w hs hn g1⟩
  cases g2 : decide (1 ≤ n ∧ n ≤ 2147483648)
  · exact ⟨0, s, fun w => sBel_no2 s n w hs hn g1 g2, fun w => iBel_no2 s n w hs hn g1 g2⟩
  · exact ⟨blw s n, stn s, fun w => sBel_yes s n w hs hn g1 g2, fun w => iBel_yes s n w hs hn g1 g2⟩
end Vo
end Go.Proofs.Ytcnopdonnjemmaa
