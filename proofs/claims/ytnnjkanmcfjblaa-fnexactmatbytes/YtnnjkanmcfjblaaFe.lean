/- Factor: both sides answer the same. -/
import Derived.Test.YtnnjkanmcfjblaaFd
namespace Go.Proofs.Ytnnjkanmcfjblaa
namespace Vo
open Go.ChangeShapes Go.WideShapes Go.ChangeAt Go.RowKit Go.Joins Go.Sort
open Vl
set_option linter.unusedVariables false
set_option linter.unusedSimpArgs false
theorem fit_last (P d : Nat) (h : fit P d 0) (n : Nat) : ∃ k, k ≤ n ∧ fit P d k ∧ ∀ j, k < j → j ≤ n → ¬ fit P d j := by
  induction n with
  | zero => exact ⟨0, Nat.le_refl _, h, fun j h1 h2 => by omega⟩
  | succ n ih =>
    by_cases c : fit P d (n + 1)
    · exact ⟨n + 1, Nat.le_refl _, c, fun j h1 h2 => by omega⟩
    · obtain ⟨k, k1, k2, k3⟩ := ih
      refine ⟨k, by omega, k2, fun j h1 h2 => ?_⟩
      by_cases e : j = n + 1
      · subst e; exact c
      · exact k3 j h1 (by omega)
theorem nea_nn (d n : Int) (h : 0 ≤ n) (hd : 0 < d) : 0 ≤ nea d n := by
  have h1 := (nea_ge d n).1
  have h2 : 0 ≤ n / d := Int.ediv_nonneg h (by omega)
  omega
theorem facR_ex (P d : Nat) (hd : 0 < d) : ∃ m s b, FacR P d m s b ∧ (0 ≤ m ∧ m ≤ 2147483648) ∧ (0 ≤ s ∧ s ≤ 62) := by
  by_cases h : fit P d 0
  · obtain ⟨k, k1, k2, k3⟩ := fit_last P d h 62
    exact ⟨nea d (P * 2 ^ k : Nat), k, true, .inl ⟨k, k1, rfl, rfl, rfl, k2, k3⟩, ⟨nea_nn _ _ (Int.natCast_nonneg _) (by omega), k2⟩, by omega, by omega⟩
  · exact ⟨0, 0, false, .inr ⟨rfl, rfl, rfl, h⟩, by omega, by omega⟩
/-- three scales that can be -/
def Ok3 (sa za sb zb sc zc : Int) : Prop := scOk sa za = true ∧ scOk sb zb = true ∧ scOk sc zc = true
/-- the factor of three scales: both sides answer the same -/
theorem facBoth (sa za sb zb sc zc : Int) (hsa : bd sa) (hza : bd za) (hsb : bd sb) (hzb : bd zb) (hsc : bd sc) (hzc : bd zc) : ∃ (m s : Int) (b : Bool), ((0 ≤ m ∧ m ≤ 2147483648) ∧ (0 ≤ s ∧ s ≤ 62)) ∧ (b = true → Ok3 sa za sb zb sc zc) ∧
    (∀ w, Calls Try.prog 5 #[.agg #[.int .i64 sa, .int .i64 za], .agg #[.int .i64 sb, .int .i64 zb], .agg #[.int .i64 sc, .int .i64 zc]] w fun e w' => e = .returned (.tuple #[.int .i64 m, .int .i64 s, .bool b]) ∧ Below w.heap.size w w') ∧
    (∀ w, Calls Try.prog 7 #[.agg #[.int .i64 sa, .int .i64 za], .agg #[.int .i64 sb, .int .i64 zb], .agg #[.int .i64 sc, .int .i64 zc]] w fun e w' => e = .returned (.tuple #[.int .i64 m, .int .i64 s, .bool b]) ∧ Below w.heap.size w w') := by
  have no : sht3 sa za sb zb sc zc = false → (∀ w, Calls Try.prog 5 #[.agg #[.int .i64 sa, .int .i64 za], .agg #[.int .i64 sb, .int .i64 zb], .agg #[.int .i64 sc, .int .i64 zc]] w fun e w' => e = .returned (.tuple #[.int .i64 0, .int .i64 0, .bool false]) ∧ Below w.heap.size w w') → ∃ (m s : Int) (b : Bool), ((0 ≤ m ∧ m ≤ 2147483648) ∧ (0 ≤ s ∧ s ≤ 62)) ∧ (b = true → Ok3 sa za sb zb sc zc) ∧
    (∀ w, Calls Try.prog 5 #[.agg #[.int .i64 sa, .int .i64 za], .agg #[.int .i64 sb, .int .i64 zb], .agg #[.int .i64 sc, .int .i64 zc]] w fun e w' => e = .returned (.tuple #[.int .i64 m, .int .i64 s, .bool b]) ∧ Below w.heap.size w w') ∧
    (∀ w, Calls Try.prog 7 #[.agg #[.int .i64 sa, .int .i64 za], .agg #[.int .i64 sb, .int .i64 zb], .agg #[.int .i64 sc, .int .i64 zc]] w fun e w' => e = .returned (.tuple #[.int .i64 m, .int .i64 s, .bool b]) ∧ Below w.heap.size w w') := fun g h =>
    ⟨0, 0, false, by omega, fun e => absurd e Bool.false_ne_true, h, fun w => iFac_no sa za sb zb sc zc w hsa hza hsb hzb hsc hzc g⟩
  have sf : ∀ {x y : Bool}, (x = false ∨ y = false) → (x && y) = false := fun {x y} h => by rcases h with rfl | rfl <;> simp
  cases g1 : scOk sa za
  · exact no (by unfold sht3 sht; rw [g1]; simp) (fun w => sFac_no1 sa za sb zb sc zc w hsa hza hsb hzb hsc hzc g1)
  cases g2 : scOk sb zb
  · exact no (by unfold sht3 sht; rw [g2]; simp) (fun w => sFac_no2 sa za sb zb sc zc w hsa hza hsb hzb hsc hzc g1 g2)
  cases g3 : scOk sc zc
  · exact no (by unfold sht3 sht; rw [g3]; simp) (fun w => sFac_no3 sa za sb zb sc zc w hsa hza hsb hzb hsc hzc g1 g2 g3)
  cases g4 : decide (sa ≤ 16777216)
  · exact no (by unfold sht3 sht; rw [g4]; simp) (fun w => sFac_no4 sa za sb zb sc zc w hsa hza hsb hzb hsc hzc g1 g2 g3 g4)
  cases g5 : decide (sb ≤ 16777216)
  · exact no (by unfold sht3 sht; rw [g5]; simp) (fun w => sFac_no5 sa za sb zb sc zc w hsa hza hsb hzb hsc hzc g1 g2 g3 g4 g5)
  cases g6 : decide (sc ≤ 16777216)
  · exact no (by unfold sht3 sht; rw [g6]; simp) (fun w => sFac_no6 sa za sb zb sc zc w hsa hza hsb hzb hsc hzc g1 g2 g3 g4 g5 g6)
  obtain ⟨⟨a0, -⟩, -⟩ := sc_of g1
  obtain ⟨⟨b0, -⟩, -⟩ := sc_of g2
  obtain ⟨⟨c0, -⟩, -⟩ := sc_of g3
  have a1 := of_decide_eq_true g4
  have b1 := of_decide_eq_true g5
  have c1 := of_decide_eq_true g6
  have p0 : 0 ≤ sa * sb := Int.mul_nonneg (by omega) (by omega)
  have p1 : sa * sb ≤ 281474976710656 := by
    have h : (sa * sb).natAbs ≤ 16777216 * 16777216 := by
      rw [Int.natAbs_mul]; exact Nat.mul_le_mul (by omega) (by omega)
    omega
  obtain ⟨P, hP⟩ := Int.eq_ofNat_of_zero_le p0
  obtain ⟨d, hd⟩ := Int.eq_ofNat_of_zero_le (show 0 ≤ 65536 * sc by omega)
  have d0 : 0 < d := by omega
  have P1 : P ≤ 281474976710656 := by omega
  have d1 : d ≤ 1099511627776 := by omega
  have gg : sht3 sa za sb zb sc zc = true := by unfold sht3 sht; rw [g1, g2, g3, g4, g5, g6]; rfl
  obtain ⟨m, s, b, hF, hm, hs⟩ := facR_ex P d d0
  refine ⟨m, s, b, ⟨hm, hs⟩, fun _ => ⟨g1, g2, g3⟩, fun w => ?_, fun w => ?_⟩
  · refine (sFac_yes sa za sb zb sc zc P d w g1 g2 g3 a1 b1 c1 hP hd P1 d0 d1).mono ?_
    rintro e w' ⟨m', s', b', rfl, hF', bb⟩
    obtain ⟨rfl, rfl, rfl⟩ := hF.one d0 hF'
    exact ⟨rfl, bb⟩
  · refine (iFac_yes sa za sb zb sc zc P d w hsa hza hsb hzb hsc hzc gg hP hd P1 d0 d1).mono ?_
    rintro e w' ⟨m', s', b', rfl, hF', bb⟩
    obtain ⟨rfl, rfl, rfl⟩ := hF.one d0 hF'
    exact ⟨rfl, bb⟩
end Vo
end Go.Proofs.Ytnnjkanmcfjblaa
