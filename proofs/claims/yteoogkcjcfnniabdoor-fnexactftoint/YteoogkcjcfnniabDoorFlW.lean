/- Rounded numbers: HalfOf and OfHalf on both sides. -/
import Derived.Test.YteoogkcjcfnniabDoorFlU
namespace Go.Proofs.YteoogkcjcfnniabDoor
namespace FlV
open Go.ChangeShapes Go.WideShapes Go.ChangeAt Go.RowKit Go.Joins
open Flo (hide ret_int ret_bool)
set_option linter.unusedVariables false

/-- rounding to a float, on both sides -/
theorem roundBothS (s e : Int) (M : Nat) (s0 : 0 ≤ s) (s1 : s ≤ 1) (m1 : (M : Int) < 4611686018427387904) (e0 : -1000 ≤ e) (e1 : e ≤ 1000) : ∃ r : Int, 0 ≤ r ∧ r ≤ 4294967295 ∧
    (∀ (neg : Bool) (w : World), neg = (s == 1) → Calls Tryd.prog 23 #[.bool neg, .int .i64 M, .int .i64 e, .bool false] w fun e w' => e = .returned (.int .i64 r) ∧ w' = w) ∧
    (∀ w : World, Calls Tryd.prog 24 #[.agg #[.int .u8 8, .int .u8 23], .int .u8 s, .int .u64 M, .int .i64 e] w fun e w' => e = .returned (.int .i64 r) ∧ Below w.heap.size w w') := by
  by_cases m0 : M = 0
  · subst m0
    exact ⟨s * 2147483648, by omega, by omega, fun neg w hn => FlM.putZero neg s e w s0 s1 hn e0 e1, fun w => FlR.roundZeroS s e w s0 s1⟩
  · obtain ⟨a, b, j1, j2, hb, he, hm, hx⟩ := exact_rep (-149) M e
    have f0 : (0 : Int) ≤ (Rnd.fl 23 255 a b : Nat) := Int.natCast_nonneg _
    have f1 := Rnd.fl_le 23 255 a b _ (show ((255 * 2 ^ 23 : Nat) : Int) = 2139095040 by decide)
    exact ⟨(Rnd.fl 23 255 a b : Nat) + s * 2147483648, by omega, by omega, fun neg w hn => FlM.put neg false s a b j1 j2 M e w s0 s1 hn hb he hm (by rw [hx]; rfl) m0 m1 (fun h => by cases h) e0 e1,
      fun w => by rw [Int.add_comm]; exact FlR.roundS s e M a b j1 j2 w s0 s1 hb he m0 (by omega) e0 e1 (.inl ⟨hm, hx⟩)⟩

theorem halfOfBoth (a : Int) : ∃ r, (∀ w, Calls Tryd.prog 13 #[.int .i64 a] w fun e w' => e = .returned (.int .i64 r) ∧ Below w.heap.size w w') ∧
    (∀ w, SV w → HV w → Calls Tryd.prog 14 #[.int .i64 a] w fun e w' => e = .returned (.int .i64 r) ∧ Below w.heap.size w w') := by
  have imp : ∀ r w, SV w → HV w → (∀ w, Calls Tryd.prog 31 #[.agg #[.int .u8 8, .int .u8 23], .int .i64 a, .agg #[.int .u8 5, .int .u8 10]] w fun e w' => e = .returned (.int .i64 r) ∧ Below w.heap.size w w') →
      Calls Tryd.prog 14 #[.int .i64 a] w fun e w' => e = .returned (.int .i64 r) ∧ Below w.heap.size w w' := by
    intro r w hv hh hT
    obtain ⟨v0, v1⟩ := hv.cells
    obtain ⟨v2, v3⟩ := hh.cells
    have HT := hide hT
    clear hT hv hh
    go_enter Tryd.func14, Tryd.ntmps14
    go_wp2_with fail
    refine (HT.out _).mono ?_; rintro e w1 ⟨rfl, b1⟩
    go_wp2_with fail
    go_ret
    exact ⟨rfl, b1⟩
  rcases FlP.kinds a with h | ⟨s, h⟩ | ⟨s, m, e, h⟩
  · refine ⟨32256, fun w => ?_, fun w hv hh => imp _ w hv hh (fun w => turnBadSH a w h)⟩
    clear imp
    go_enter Tryd.func13, Tryd.ntmps13
    go_wp2_with fail
    refine (FlM.openBad a _ h).mono ?_; rintro e w1 ⟨b, x, y, rfl, b1⟩
    obtain ⟨s, s0, s1, hs⟩ : ∃ s : Int, 0 ≤ s ∧ s ≤ 1 ∧ b = (s == 1) := by
      cases b
      · exact ⟨0, by decide, by decide, rfl⟩
      · exact ⟨1, by decide, by decide, rfl⟩
    have hs' := hide hs
    clear hs
    go_wp2_with fail
    refine (FlM.sign b s _ s0 s1 hs'.out).mono ?_; rintro e w2 ⟨rfl, rfl⟩
    go_wp2_with fail
    go_ret
    exact ⟨rfl, b1.alloc b1.size _⟩
  · have s0 : 0 ≤ s := h.1
    have s1 : s ≤ 1 := h.2.1
    refine ⟨s * 32768 + 31744, fun w => ?_, fun w hv hh => imp _ w hv hh (fun w => turnInfSH a s w h)⟩
    clear imp
    go_enter Tryd.func13, Tryd.ntmps13
    go_wp2_with fail
    refine (FlM.openInfC a s _ h).mono ?_; rintro e w1 ⟨rfl, b1⟩
    go_wp2_with fail
    refine (FlM.sign _ s _ s0 s1 rfl).mono ?_; rintro e w2 ⟨rfl, rfl⟩
    go_wp2_with fail
    go_ret
    exact ⟨ret_int (by omega), b1.alloc b1.size _⟩
  · have s0 : 0 ≤ s := h.1
    have s1 : s ≤ 1 := h.2.1
    have m0 : 0 ≤ m := h.2.2.2.1
    have m1 : m < 16777216 := h.2.2.2.2.1
    have e0 := h.2.2.2.2.2.1
    have e1 := h.2.2.2.2.2.2.1
    obtain ⟨M, rfl⟩ := Int.eq_ofNat_of_zero_le m0
    obtain ⟨f, f0, f1, hC, hR⟩ := roundBothH s e M s0 s1 (by omega) (by omega) (by omega)
    refine ⟨s * 32768 + f, fun w => ?_, fun w hv hh => imp _ w hv hh (fun w => turnFinSH a s M e _ w h m1 hR)⟩
    have HC := hide hC
    have HH := hide h
    clear imp hC hR h
    go_enter Tryd.func13, Tryd.ntmps13
    go_wp2_with fail
    refine (FlM.openFin a s M e _ HH.out).mono ?_; rintro e' w1 ⟨rfl, b1⟩
    go_wp2_with fail
    refine (FlM.sign _ s _ s0 s1 rfl).mono ?_; rintro e' w2 ⟨rfl, rfl⟩
    go_wp2_with fail
    refine (HC.out _ _).mono ?_; rintro e' w3 ⟨rfl, rfl⟩
    go_wp2_with fail
    go_ret
    exact ⟨ret_int (by omega), b1.alloc b1.size _⟩

theorem ofHalfBoth (a : Int) : ∃ r, 0 ≤ r ∧ r ≤ 4294967295 ∧ (∀ w, Calls Tryd.prog 15 #[.int .i64 a] w fun e w' => e = .returned (.int .i64 r) ∧ Below w.heap.size w w') ∧
    (∀ w, SV w → HV w → Calls Tryd.prog 16 #[.int .i64 a] w fun e w' => e = .returned (.int .i64 r) ∧ Below w.heap.size w w') := by
  have imp : ∀ r w, SV w → HV w → (∀ w, Calls Tryd.prog 31 #[.agg #[.int .u8 5, .int .u8 10], .int .i64 a, .agg #[.int .u8 8, .int .u8 23]] w fun e w' => e = .returned (.int .i64 r) ∧ Below w.heap.size w w') →
      Calls Tryd.prog 16 #[.int .i64 a] w fun e w' => e = .returned (.int .i64 r) ∧ Below w.heap.size w w' := by
    intro r w hv hh hT
    obtain ⟨v0, v1⟩ := hv.cells
    obtain ⟨v2, v3⟩ := hh.cells
    have HT := hide hT
    clear hT hv hh
    go_enter Tryd.func16, Tryd.ntmps16
    go_wp2_with fail
    refine (HT.out _).mono ?_; rintro e w1 ⟨rfl, b1⟩
    go_wp2_with fail
    go_ret
    exact ⟨rfl, b1⟩
  have m5 := Flo.mask5
  have m10 := Flo.mask10
  rcases FlP.kindsH a with h | ⟨s, h⟩ | ⟨s, m, e, h⟩
  · refine ⟨2143289344, by decide, by decide, fun w => ?_, fun w hv hh => imp _ w hv hh (fun w => turnBadHS a w h)⟩
    clear imp
    unfold FlP.BadH at h
    by_cases c : a < 0
    · go_enter Tryd.func15, Tryd.ntmps15
      go_wp2_with fail
      go_ret
      exact ⟨rfl, Below.refl _ _⟩
    · have c0 : decide (a < 0) = false := decide_eq_false c
      by_cases c' : 65535 < a
      · clear h c
        go_enter Tryd.func15, Tryd.ntmps15
        go_wp2_with fail
        go_ret
        exact ⟨rfl, Below.refl _ _⟩
      · have c1 : decide (65535 < a) = false := decide_eq_false c'
        have d1 : a / 1024 % 32 = 31 := by omega
        have d2 : (a % 1024 != 0) = true := by rw [bne_iff_ne]; omega
        clear h c c'
        go_enter Tryd.func15, Tryd.ntmps15
        go_wp2_with fail
        go_ret
        exact ⟨rfl, Below.refl _ _⟩
  · have s0 : 0 ≤ s := h.1
    have s1 : s ≤ 1 := h.2.1
    have ha := h.2.2
    refine ⟨s * 2147483648 + 2139095040, by omega, by omega, fun w => ?_, fun w hv hh => imp _ w hv hh (fun w => turnInfHS a s w h)⟩
    have c0 : decide (a < 0) = false := decide_eq_false (by omega)
    have c1 : decide (65535 < a) = false := decide_eq_false (by omega)
    have d1 : a / 1024 % 32 = 31 := by omega
    have d2 : a % 1024 = 0 := by omega
    have d3 : a / 32768 = s := by omega
    clear imp h ha
    go_enter Tryd.func15, Tryd.ntmps15
    go_wp2_with fail
    refine (FlM.infinity _ s _ s0 s1 rfl).mono ?_; rintro e w1 ⟨rfl, rfl⟩
    go_wp2_with fail
    go_ret
    exact ⟨ret_int (by omega), Below.refl _ _⟩
  · have s0 : 0 ≤ s := h.1
    have s1 : s ≤ 1 := h.2.1
    have ha := h.2.2.1
    have m0 : 0 ≤ m := h.2.2.2.1
    have m1 : m < 2048 := h.2.2.2.2.1
    have e0 := h.2.2.2.2.2.1
    have e1 := h.2.2.2.2.2.2.1
    have hm := h.2.2.2.2.2.2.2
    obtain ⟨M, rfl⟩ := Int.eq_ofNat_of_zero_le m0
    obtain ⟨r, r0, r1, hP, hR⟩ := roundBothS s e M s0 s1 (by omega) (by omega) (by omega)
    refine ⟨r, r0, r1, fun w => ?_, fun w hv hh => imp _ w hv hh (fun w => turnFinHS a s M e _ w h (by omega) hR)⟩
    have c0 : decide (a < 0) = false := decide_eq_false (by omega)
    have c1 : decide (65535 < a) = false := decide_eq_false (by omega)
    have d3 : a / 32768 = s := by omega
    by_cases cm : (M : Int) < 1024
    · have d1 : a / 1024 % 32 = 0 := by omega
      have d2 : a % 1024 = (M : Int) := by omega
      obtain rfl : e = -24 := by omega
      have HP := hide hP
      clear imp hP hR h ha hm
      go_enter Tryd.func15, Tryd.ntmps15
      go_wp2_with fail
      refine (HP.out _ _ rfl).mono ?_; rintro e' w1 ⟨rfl, rfl⟩
      go_wp2_with fail
      go_ret
      exact ⟨rfl, Below.refl _ _⟩
    · have d1 : a / 1024 % 32 = e + 25 := by omega
      have d2 : a % 1024 = (M : Int) - 1024 := by omega
      have d4 : (e + 25 == 31) = false := by rw [beq_eq_false_iff_ne]; omega
      have d5 : (e + 25 == 0) = false := by rw [beq_eq_false_iff_ne]; omega
      have d6 : (M : Int) - 1024 + 1024 = M := by omega
      have d7 : e + 25 - 25 = e := by omega
      have HP := hide hP
      clear imp hP hR h ha hm
      go_enter Tryd.func15, Tryd.ntmps15
      go_wp2_with fail
      refine (HP.out _ _ rfl).mono ?_; rintro e' w1 ⟨rfl, rfl⟩
      go_wp2_with fail
      go_ret
      exact ⟨rfl, Below.refl _ _⟩

end FlV
end Go.Proofs.YteoogkcjcfnniabDoor
