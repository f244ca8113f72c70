/- CodeOk on both sides. -/
import Derived.Test.YtpllbamldhgjkaaCc
import Derived.Test.YtpllbamldhgjkaaCd
namespace Go.Proofs.Ytpllbamldhgjkaa
namespace Vo
open Go.ChangeShapes Go.WideShapes Go.ChangeAt Go.RowKit Go.Joins Go.Sort
open Vl
set_option linter.unusedVariables false
set_option linter.unusedSimpArgs false
/-- what an Op adds to what is open -/
def opD (o : Int) : Int := if o = 1 then 1 else if o = 2 then -1 else 0
/-- how many are open behind k instructions -/
def opn (C : Nat → IV) : Nat → Int
  | 0 => 0
  | k + 1 => opn C k + opD (C k).o
def StOk (C : Nat → IV) (k : Nat) : Prop := InsOk (C k) ∧ 0 ≤ opn C (k + 1) ∧ opn C (k + 1) ≤ 16
instance (C : Nat → IV) (k : Nat) : Decidable (StOk C k) := by unfold StOk; infer_instance
/-- code that can be -/
def CdeOk (n : Nat) (C : Nat → IV) : Prop := n ≤ 60000 ∧ (∀ k, k < n → StOk C k) ∧ opn C n = 0
instance (n : Nat) (C : Nat → IV) : Decidable (CdeOk n C) := by unfold CdeOk; infer_instance
theorem opn_same {n : Nat} {C U : Nat → IV} (h : ISame n C U) : ∀ k, k ≤ n → opn U k = opn C k
  | 0, _ => rfl
  | k + 1, hk => by rw [opn, opn, opn_same h k (by omega), h k (by omega)]
theorem cde_same {n : Nat} {C U : Nat → IV} (h : ISame n C U) : decide (CdeOk n U) = decide (CdeOk n C) := by
  refine decide_eq_decide.2 ?_
  unfold CdeOk StOk
  rw [opn_same h n (Nat.le_refl _)]
  refine and_congr Iff.rfl (and_congr ?_ Iff.rfl)
  exact forall_congr' fun k => imp_congr_right fun hk => by rw [h k hk, opn_same h (k + 1) (by omega)]
theorem opn_le {C : Nat → IV} {n : Nat} (h : ∀ k, k < n → StOk C k) : ∀ k, k ≤ n → 0 ≤ opn C k ∧ opn C k ≤ 16
  | 0, _ => by simp [opn]
  | k + 1, hk => (h k (by omega)).2

set_option maxHeartbeats 4000000 in
theorem codeOkF (B : Nat) (a : Option Addr) (n cap : Nat) (C : Nat → IV) (w : World) (hB : B ≤ w.heap.size) (h : LI B w a n C) (hn : (n : Int) ≤ 1048576) :
    Calls Try.prog 8 #[.slice a n cap] w fun e w' => e = .returned (.bool (decide (CdeOk n C))) ∧ Below w.heap.size w w' := by
  have H := hide h
  clear h
  go_enter Try.func8, Try.ntmps8
  by_cases c : 60000 < (n : Int)
  · have e := hide (show ¬ CdeOk n C from fun q => by have := q.1; omega)
    have c'' : decide (60000 < n) = true := decide_eq_true (by omega)
    go_wp2_with fail
    go_ret
    exact ⟨by rw [decide_eq_false e.out]; rfl, Below.refl _ _⟩
  have c' : decide (60000 < (n : Int)) = false := by rw [decide_eq_false_iff_not]; exact c
  have c'' : decide (60000 < n) = false := by rw [decide_eq_false_iff_not]; omega
  have ub : n ≤ 60000 := by omega
  clear c
  go_wp2_with fail
  clear c' c''
  go_loopw [3, 11] (fun p i wx => ∃ k : Nat, k ≤ n ∧ i = .int .i64 k ∧ p = .int .i64 (opn C k) ∧ (∀ j, j < k → StOk C j) ∧ Below w.heap.size w wx) (fun p i _ => n - (intOf i).toNat)
  case atStart => exact ⟨0, Nat.zero_le _, rfl, rfl, fun j hj => by omega, Below.refl _ _⟩
  case round =>
    obtain ⟨X, rfl⟩ : ∃ X, X = wr := ⟨_, rfl⟩
    obtain ⟨k, hk, rfl, rfl, hall, hby⟩ := hrel
    have HA := hide hall
    have HBY := hide hby
    have op := opn_le hall k (Nat.le_refl _)
    clear hall hby
    obtain ⟨p, hp⟩ : ∃ p, opn C k = p := ⟨_, rfl⟩
    rw [hp] at op ⊢
    have EP := hide hp
    clear hp
    by_cases hlt : k < n
    case neg =>
      obtain rfl : k = n := by omega
      have e := hide (show decide (p = 0) = decide (CdeOk k C) from decide_eq_decide.2 ⟨fun q => ⟨ub, HA.out, by rw [EP.out]; exact q⟩, fun q => by rw [← EP.out]; exact q.2.2⟩)
      have e2 := hide (show (p == 0) = decide (CdeOk k C) by rw [← e.out]; by_cases q : p = 0 <;> simp [q])
      go_wp2_with fail
      go_ret
      exact ⟨by rw [← e2.out]; rfl, HBY.out⟩
    rcases H.out.below (HBY.out.mono hB) with h0 | ⟨b, off, rfl, hbB, hc⟩
    · omega
    obtain ⟨⟨c0, c1, c2, c3⟩, _⟩ := hc k hlt
    have kI : (k : Int) < n := by omega
    clear hc
    obtain ⟨x, hx⟩ : ∃ x, C k = x := ⟨_, rfl⟩
    rw [hx] at c0 c1 c2 c3
    have EX := hide hx
    clear hx
    have EQ := hide (show opn C (k + 1) = p + opD x.o by rw [opn, EP.out, EX.out])
    have no1 := hide (show ¬ InsOk x → ¬ CdeOk n C from fun q q' => q (by have := (q'.2.1 k hlt).1; rw [EX.out] at this; exact this))
    have no2 := hide (show p + opD x.o < 0 → ¬ CdeOk n C from fun q q' => by have := (q'.2.1 k hlt).2.1; rw [EQ.out] at this; omega)
    have no3 := hide (show 16 < p + opD x.o → ¬ CdeOk n C from fun q q' => by have := (q'.2.1 k hlt).2.2; rw [EQ.out] at this; omega)
    have yes := hide (show InsOk x → 0 ≤ p + opD x.o → p + opD x.o ≤ 16 → ∀ j, j < k + 1 → StOk C j from fun q1 q2 q3 j hj => by
      by_cases ej : j = k
      · rw [ej]; exact ⟨by rw [EX.out]; exact q1, by rw [EQ.out]; exact q2, by rw [EQ.out]; exact q3⟩
      · exact HA.out j (by omega))
    have wp1 : IntKind.i64.wrap (p + 1) = p + 1 := by rw [IntKind.wrap_i64]; omega
    have wp2 : IntKind.i64.wrap (p - 1) = p - 1 := by rw [IntKind.wrap_i64]; omega
    have B1 := hide (show Below w.heap.size w (X.alloc (.cells #[.int .i64 x.o, .int .i64 x.a, .int .i64 x.b, .int .i64 x.c] 36)) from HBY.out.alloc HBY.out.size _)
    have m := icells X (.int .i64 x.o) (.int .i64 x.a) (.int .i64 x.b) (.int .i64 x.c) 36
    obtain ⟨Y, hY⟩ : ∃ Y, X.alloc (.cells #[.int .i64 x.o, .int .i64 x.a, .int .i64 x.b, .int .i64 x.c] 36) = Y := ⟨_, rfl⟩
    rw [hY] at B1 m
    obtain ⟨m0, m1, m2, m3⟩ := m
    have CF := hide (fun W => fitsF x W)
    by_cases t1 : x.o = 1
    case pos =>
      have d1 : (x.o == 1) = true := by simp [t1]
      have DD := hide (show opD x.o = 1 from by rw [opD, if_pos t1])
      rw [DD.out] at no2 no3 yes EQ
      clear t1
      have ez : p + (1) = p + 1 := by omega
      rw [ez] at no2 no3 yes EQ
      clear ez
      have u1 : ¬ p + 1 < 0 := by omega
      have u1' : decide (p + 1 < 0) = false := by rw [decide_eq_false_iff_not]; exact u1
      by_cases u2 : 16 < p + 1
      case pos =>
        have e := hide (no3.out u2)
        go_wp2_with fail
        go_ret
        exact ⟨by rw [decide_eq_false e.out]; rfl, B1.out⟩
      have u2' : decide (16 < p + 1) = false := by rw [decide_eq_false_iff_not]; exact u2
      by_cases u3 : InsOk x
      case neg =>
        have e := hide (no1.out u3)
        simp only [decide_eq_false u3] at CF
        clear u1 u2 u3
        go_wp2_with fail
        refine (CF.out _).mono ?_
        rintro e1 w1 ⟨rfl, b1⟩
        have B2 := hide (B1.out.trans (b1.mono B1.out.size))
        clear b1
        go_wp2_with fail
        go_ret
        exact ⟨by rw [decide_eq_false e.out]; rfl, B2.out⟩
      have f := hide (yes.out u3 (by omega) (by omega))
      simp only [decide_eq_true u3] at CF
      clear u1 u2 u3
      go_wp2_with fail
      refine (CF.out _).mono ?_
      rintro e1 w1 ⟨rfl, b1⟩
      have B2 := hide (B1.out.trans (b1.mono B1.out.size))
      clear b1
      go_wp2_with fail
      go_roundw
      all_goals first | (simp only [intOf]; omega) | (simp [intOf]; omega) | exact ⟨k + 1, by omega, by go_num, by rw [EQ.out], f.out, B2.out⟩
    by_cases t2 : x.o = 2
    case pos =>
      have d1 : (x.o == 1) = false := by simp [t2]
      have d2 : (x.o == 2) = true := by simp [t2]
      have DD := hide (show opD x.o = -1 from by rw [opD, if_neg t1, if_pos t2])
      rw [DD.out] at no2 no3 yes EQ
      clear t1 t2
      have ez : p + (-1) = p - 1 := by omega
      rw [ez] at no2 no3 yes EQ
      clear ez
      by_cases u1 : p - 1 < 0
      case pos =>
        have e := hide (no2.out u1)
        go_wp2_with fail
        go_ret
        exact ⟨by rw [decide_eq_false e.out]; rfl, B1.out⟩
      have u1' : decide (p - 1 < 0) = false := by rw [decide_eq_false_iff_not]; exact u1
      have u2 : ¬ 16 < p - 1 := by omega
      have u2' : decide (16 < p - 1) = false := by rw [decide_eq_false_iff_not]; exact u2
      by_cases u3 : InsOk x
      case neg =>
        have e := hide (no1.out u3)
        simp only [decide_eq_false u3] at CF
        clear u1 u2 u3
        go_wp2_with fail
        refine (CF.out _).mono ?_
        rintro e1 w1 ⟨rfl, b1⟩
        have B2 := hide (B1.out.trans (b1.mono B1.out.size))
        clear b1
        go_wp2_with fail
        go_ret
        exact ⟨by rw [decide_eq_false e.out]; rfl, B2.out⟩
      have f := hide (yes.out u3 (by omega) (by omega))
      simp only [decide_eq_true u3] at CF
      clear u1 u2 u3
      go_wp2_with fail
      refine (CF.out _).mono ?_
      rintro e1 w1 ⟨rfl, b1⟩
      have B2 := hide (B1.out.trans (b1.mono B1.out.size))
      clear b1
      go_wp2_with fail
      go_roundw
      all_goals first | (simp only [intOf]; omega) | (simp [intOf]; omega) | exact ⟨k + 1, by omega, by go_num, by rw [EQ.out], f.out, B2.out⟩
    have d1 : (x.o == 1) = false := by simpa using t1
    have d2 : (x.o == 2) = false := by simpa using t2
    have DD := hide (show opD x.o = 0 from by rw [opD, if_neg t1, if_neg t2])
    rw [DD.out] at no2 no3 yes EQ
    clear t1 t2
    have ez : p + (0 : Int) = p := by omega
    rw [ez] at no2 no3 yes EQ
    clear ez
    have u1 : ¬ p < 0 := by omega
    have u1' : decide (p < 0) = false := by rw [decide_eq_false_iff_not]; exact u1
    have u2 : ¬ 16 < p := by omega
    have u2' : decide (16 < p) = false := by rw [decide_eq_false_iff_not]; exact u2
    by_cases u3 : InsOk x
    case neg =>
      have e := hide (no1.out u3)
      simp only [decide_eq_false u3] at CF
      clear u1 u2 u3
      go_wp2_with fail
      refine (CF.out _).mono ?_
      rintro e1 w1 ⟨rfl, b1⟩
      have B2 := hide (B1.out.trans (b1.mono B1.out.size))
      clear b1
      go_wp2_with fail
      go_ret
      exact ⟨by rw [decide_eq_false e.out]; rfl, B2.out⟩
    have f := hide (yes.out u3 (by omega) (by omega))
    simp only [decide_eq_true u3] at CF
    clear u1 u2 u3
    go_wp2_with fail
    refine (CF.out _).mono ?_
    rintro e1 w1 ⟨rfl, b1⟩
    have B2 := hide (B1.out.trans (b1.mono B1.out.size))
    clear b1
    go_wp2_with fail
    go_roundw
    all_goals first | (simp only [intOf]; omega) | (simp [intOf]; omega) | exact ⟨k + 1, by omega, by go_num, by rw [EQ.out], f.out, B2.out⟩
set_option maxHeartbeats 4000000 in
theorem specCodeOk (B : Nat) (a : Option Addr) (n cap : Nat) (C : Nat → IV) (w : World) (hB : B ≤ w.heap.size) (h : LI B w a n C) (hn : (n : Int) ≤ 1048576) :
    Calls Try.prog 6 #[.slice a n cap] w fun e w' => e = .returned (.bool (decide (CdeOk n C))) ∧ Below w.heap.size w w' := by
  have H := hide h
  clear h
  go_enter Try.func6, Try.ntmps6
  by_cases c : 60000 < (n : Int)
  · have e := hide (show ¬ CdeOk n C from fun q => by have := q.1; omega)
    have c'' : decide (60000 < n) = true := decide_eq_true (by omega)
    go_wp2_with fail
    go_ret
    exact ⟨by rw [decide_eq_false e.out]; rfl, Below.refl _ _⟩
  have c' : decide (60000 < (n : Int)) = false := by rw [decide_eq_false_iff_not]; exact c
  have c'' : decide (60000 < n) = false := by rw [decide_eq_false_iff_not]; omega
  have ub : n ≤ 60000 := by omega
  clear c
  go_wp2_with fail
  clear c' c''
  go_loopw [3, 4] (fun p i wx => ∃ k : Nat, k ≤ n ∧ i = .int .i64 k ∧ p = .int .i64 (opn C k) ∧ (∀ j, j < k → StOk C j) ∧ Below w.heap.size w wx) (fun p i _ => n - (intOf i).toNat)
  case atStart => exact ⟨0, Nat.zero_le _, rfl, rfl, fun j hj => by omega, Below.refl _ _⟩
  case round =>
    obtain ⟨X, rfl⟩ : ∃ X, X = wr := ⟨_, rfl⟩
    obtain ⟨k, hk, rfl, rfl, hall, hby⟩ := hrel
    have HA := hide hall
    have HBY := hide hby
    have op := opn_le hall k (Nat.le_refl _)
    clear hall hby
    obtain ⟨p, hp⟩ : ∃ p, opn C k = p := ⟨_, rfl⟩
    rw [hp] at op ⊢
    have EP := hide hp
    clear hp
    by_cases hlt : k < n
    case neg =>
      obtain rfl : k = n := by omega
      have e := hide (show decide (p = 0) = decide (CdeOk k C) from decide_eq_decide.2 ⟨fun q => ⟨ub, HA.out, by rw [EP.out]; exact q⟩, fun q => by rw [← EP.out]; exact q.2.2⟩)
      have e2 := hide (show (p == 0) = decide (CdeOk k C) by rw [← e.out]; by_cases q : p = 0 <;> simp [q])
      go_wp2_with fail
      go_ret
      exact ⟨by rw [← e2.out]; rfl, HBY.out⟩
    rcases H.out.below (HBY.out.mono hB) with h0 | ⟨b, off, rfl, hbB, hc⟩
    · omega
    obtain ⟨⟨c0, c1, c2, c3⟩, _⟩ := hc k hlt
    have kI : (k : Int) < n := by omega
    clear hc
    obtain ⟨x, hx⟩ : ∃ x, C k = x := ⟨_, rfl⟩
    rw [hx] at c0 c1 c2 c3
    have EX := hide hx
    clear hx
    have EQ := hide (show opn C (k + 1) = p + opD x.o by rw [opn, EP.out, EX.out])
    have no1 := hide (show ¬ InsOk x → ¬ CdeOk n C from fun q q' => q (by have := (q'.2.1 k hlt).1; rw [EX.out] at this; exact this))
    have no2 := hide (show p + opD x.o < 0 → ¬ CdeOk n C from fun q q' => by have := (q'.2.1 k hlt).2.1; rw [EQ.out] at this; omega)
    have no3 := hide (show 16 < p + opD x.o → ¬ CdeOk n C from fun q q' => by have := (q'.2.1 k hlt).2.2; rw [EQ.out] at this; omega)
    have yes := hide (show InsOk x → 0 ≤ p + opD x.o → p + opD x.o ≤ 16 → ∀ j, j < k + 1 → StOk C j from fun q1 q2 q3 j hj => by
      by_cases ej : j = k
      · rw [ej]; exact ⟨by rw [EX.out]; exact q1, by rw [EQ.out]; exact q2, by rw [EQ.out]; exact q3⟩
      · exact HA.out j (by omega))
    have wp1 : IntKind.i64.wrap (p + 1) = p + 1 := by rw [IntKind.wrap_i64]; omega
    have wp2 : IntKind.i64.wrap (p - 1) = p - 1 := by rw [IntKind.wrap_i64]; omega
    have CF := hide (fun W => specIns x W)
    by_cases u3 : InsOk x
    case neg =>
      have e := hide (no1.out u3)
      simp only [decide_eq_false u3] at CF
      clear u3
      go_wp2_with fail
      refine (CF.out _).mono ?_
      rintro e1 w1 ⟨rfl, b1⟩
      have B2 := hide (HBY.out.trans (b1.mono HBY.out.size))
      clear b1
      go_wp2_with fail
      go_ret
      exact ⟨by rw [decide_eq_false e.out]; rfl, B2.out⟩
    have U3 := hide u3
    simp only [decide_eq_true u3] at CF
    clear u3
    have lb : b < X.heap.size := Nat.lt_of_lt_of_le hbB (Nat.le_trans hB HBY.out.size)
    go_wp2_with fail
    refine (CF.out _).mono ?_
    rintro e1 w1 ⟨rfl, b1⟩
    have B2 := hide (HBY.out.trans (b1.mono HBY.out.size))
    replace c0 := (b1.cell (p := ⟨b, off + k * 4, none⟩) lb).trans c0
    clear b1 c1 c2 c3
    by_cases t1 : x.o = 1
    case pos =>
      have d1 : (x.o == 1) = true := by simp [t1]
      have DD := hide (show opD x.o = 1 from by rw [opD, if_pos t1])
      rw [DD.out] at no2 no3 yes EQ
      clear t1
      have ez : p + (1) = p + 1 := by omega
      rw [ez] at no2 no3 yes EQ
      clear ez
      have u1 : ¬ p + 1 < 0 := by omega
      have u1' : decide (p + 1 < 0) = false := by rw [decide_eq_false_iff_not]; exact u1
      by_cases u2 : 16 < p + 1
      case pos =>
        have e := hide (no3.out u2)
        go_wp2_with fail
        go_ret
        exact ⟨by rw [decide_eq_false e.out]; rfl, B2.out⟩
      have u2' : decide (16 < p + 1) = false := by rw [decide_eq_false_iff_not]; exact u2
      have f := hide (yes.out U3.out (by omega) (by omega))
      clear u1 u2
      go_wp2_with fail
      go_roundw
      all_goals first | (simp only [intOf]; omega) | (simp [intOf]; omega) | exact ⟨k + 1, by omega, by go_num, by rw [EQ.out], f.out, B2.out⟩
    by_cases t2 : x.o = 2
    case pos =>
      have d1 : (x.o == 1) = false := by simp [t2]
      have d2 : (x.o == 2) = true := by simp [t2]
      have DD := hide (show opD x.o = -1 from by rw [opD, if_neg t1, if_pos t2])
      rw [DD.out] at no2 no3 yes EQ
      clear t1 t2
      have ez : p + (-1) = p - 1 := by omega
      rw [ez] at no2 no3 yes EQ
      clear ez
      by_cases u1 : p - 1 < 0
      case pos =>
        have e := hide (no2.out u1)
        go_wp2_with fail
        go_ret
        exact ⟨by rw [decide_eq_false e.out]; rfl, B2.out⟩
      have u1' : decide (p - 1 < 0) = false := by rw [decide_eq_false_iff_not]; exact u1
      have u2 : ¬ 16 < p - 1 := by omega
      have u2' : decide (16 < p - 1) = false := by rw [decide_eq_false_iff_not]; exact u2
      have f := hide (yes.out U3.out (by omega) (by omega))
      clear u1 u2
      go_wp2_with fail
      go_roundw
      all_goals first | (simp only [intOf]; omega) | (simp [intOf]; omega) | exact ⟨k + 1, by omega, by go_num, by rw [EQ.out], f.out, B2.out⟩
    have d1 : (x.o == 1) = false := by simpa using t1
    have d2 : (x.o == 2) = false := by simpa using t2
    have DD := hide (show opD x.o = 0 from by rw [opD, if_neg t1, if_neg t2])
    rw [DD.out] at no2 no3 yes EQ
    clear t1 t2
    have ez : p + (0 : Int) = p := by omega
    rw [ez] at no2 no3 yes EQ
    clear ez
    have u1 : ¬ p < 0 := by omega
    have u1' : decide (p < 0) = false := by rw [decide_eq_false_iff_not]; exact u1
    have u2 : ¬ 16 < p := by omega
    have u2' : decide (16 < p) = false := by rw [decide_eq_false_iff_not]; exact u2
    have f := hide (yes.out U3.out (by omega) (by omega))
    clear u1 u2
    go_wp2_with fail
    go_roundw
    all_goals first | (simp only [intOf]; omega) | (simp [intOf]; omega) | exact ⟨k + 1, by omega, by go_num, by rw [EQ.out], f.out, B2.out⟩
end Vo
end Go.Proofs.Ytpllbamldhgjkaa
