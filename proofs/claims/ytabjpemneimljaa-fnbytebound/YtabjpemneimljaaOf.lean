/- How far off a byte's value is: plain; what Calibrate and Worst of the program answer. -/
import Derived.Test.YtabjpemneimljaaIi
import Derived.Test.YtabjpemneimljaaIk
namespace Go.Proofs.Ytabjpemneimljaa
namespace Vo
open Go.ChangeShapes Go.WideShapes Go.ChangeAt Go.RowKit Go.Joins Go.Sort
open Vl
set_option linter.unusedVariables false
/-- n by d, rounded -/
def nr (n d : Int) : Int := if n.tmod d < 0 then Nea.rd (n.tdiv d - 1) (n.tmod d + d) d else Nea.rd (n.tdiv d) (n.tmod d) d
theorem nr_half {n d : Int} (d0 : 1 ≤ d) : -d ≤ 2 * (d * nr n d - n) ∧ 2 * (d * nr n d - n) ≤ d := by
  have e1 := Int.tmod_add_mul_tdiv n d
  have t1 : n.tmod d < d := Int.tmod_lt_of_pos n (by omega)
  have t0 : -d < n.tmod d := by
    have := Int.tmod_lt_of_pos (-n) (show 0 < d by omega)
    rw [Int.neg_tmod] at this
    omega
  unfold nr Nea.rd
  generalize n.tdiv d = q at *
  generalize n.tmod d = t at *
  have x1 : d * (q + 1) = d * q + d := by rw [Int.mul_add, Int.mul_one]
  have x2 : d * (q - 1 + 1) = d * q := by rw [show q - 1 + 1 = q by omega]
  have x3 : d * (q - 1) = d * q - d := by rw [Int.mul_sub, Int.mul_one]
  split <;> split <;> omega
theorem cst_cover {d : Int} (d0 : 0 ≤ d) (d1 : d ≤ 2199023255552) : d ≤ 255 * cst d ∧ 1 ≤ cst d ∧ cst d ≤ 1099511627776 := by
  unfold cst
  rw [Int.tdiv_eq_ediv_of_nonneg (by omega)]
  split <;> omega
theorem cal_rng {lo hi σ z : Int} (lo0 : lo ≤ 0) (hi0 : 0 ≤ hi) (s0 : 1 ≤ σ) (cov : hi - lo ≤ 255 * σ) (hz : z = nr (-lo) σ) : (0 ≤ z ∧ z ≤ 255) ∧ -σ ≤ 2 * (σ * z + lo) ∧ 2 * (σ * z + lo) ≤ σ := by
  obtain ⟨h0, h1⟩ := nr_half (n := -lo) s0
  rw [← hz] at h0 h1
  refine ⟨⟨?_, ?_⟩, by omega, by omega⟩
  · by_cases c : 0 ≤ z
    · exact c
    · have := Int.mul_le_mul_of_nonneg_left (show z ≤ -1 by omega) (show 0 ≤ σ by omega)
      omega
  · by_cases c : z ≤ 255
    · exact c
    · have := Int.mul_le_mul_of_nonneg_left (show 256 ≤ z by omega) (show 0 ≤ σ by omega)
      omega
theorem ar_lo {σ P M x lo : Int} (h : M ≤ -σ - P) (m0 : -σ ≤ 2 * (M - x)) (lx : lo ≤ x) (e0 : -σ ≤ 2 * (P + lo)) (s0 : 1 ≤ σ) : -σ ≤ x - -P ∧ x - -P ≤ σ := by
  constructor <;> omega
theorem ar_hi {σ P M x lo hi : Int} (h : 256 * σ - P ≤ M) (m1 : 2 * (M - x) ≤ σ) (cov : hi - lo ≤ 255 * σ) (xh : x ≤ hi) (e1 : 2 * (P + lo) ≤ σ) (s0 : 1 ≤ σ) : -σ ≤ x - (255 * σ - P) ∧ x - (255 * σ - P) ≤ σ := by
  constructor <;> omega
theorem cal_off {lo hi σ z x : Int} (lo0 : lo ≤ 0) (hi0 : 0 ≤ hi) (s0 : 1 ≤ σ) (cov : hi - lo ≤ 255 * σ) (hz : z = nr (-lo) σ) (lx : lo ≤ x) (xh : x ≤ hi) :
    -σ ≤ x - σ * (cl 0 255 (z + nr x σ) - z) ∧ x - σ * (cl 0 255 (z + nr x σ) - z) ≤ σ := by
  obtain ⟨⟨z0, z1⟩, e0, e1⟩ := cal_rng lo0 hi0 s0 cov hz
  obtain ⟨m0, m1⟩ := nr_half (n := x) s0
  obtain ⟨m, hm⟩ : ∃ m, nr x σ = m := ⟨_, rfl⟩
  rw [hm] at m0 m1 ⊢
  clear hm hz
  obtain ⟨P, hP⟩ : ∃ P, σ * z = P := ⟨_, rfl⟩
  obtain ⟨M, hM⟩ : ∃ M, σ * m = M := ⟨_, rfl⟩
  rw [hM] at m0 m1
  rw [hP] at e0 e1
  by_cases c1 : z + m < 0
  · rw [cl_lo c1]
    have := Int.mul_le_mul_of_nonneg_left (show m ≤ -1 - z by omega) (show 0 ≤ σ by omega)
    have e : σ * (-1 - z) = -σ - P := by rw [Int.mul_sub, hP]; omega
    have e' : σ * (0 - z) = -P := by rw [Int.mul_sub, hP]; omega
    rw [e, hM] at this
    rw [e']
    exact ar_lo this m0 lx e0 s0
  · by_cases c2 : 255 < z + m
    · rw [cl_hi (by decide) c2]
      have := Int.mul_le_mul_of_nonneg_left (show 256 - z ≤ m by omega) (show 0 ≤ σ by omega)
      have e : σ * (256 - z) = 256 * σ - P := by rw [Int.mul_sub, hP]; omega
      have e' : σ * (255 - z) = 255 * σ - P := by rw [Int.mul_sub, hP]; omega
      rw [e, hM] at this
      rw [e']
      exact ar_hi this m1 cov xh e1 s0
    · rw [cl_in ⟨by omega, by omega⟩, show z + m - z = m by omega, hM]
      omega
theorem mn_le {S : Nat → Int} : ∀ k j, j < k → mnP S k ≤ S j
  | 0, _, h => by omega
  | k + 1, j, h => by
    show (if S k < mnP S k then S k else mnP S k) ≤ S j
    by_cases c : j = k
    · subst c; split <;> omega
    · have := mn_le (S := S) k j (by omega)
      split <;> omega
theorem mx_ge {S : Nat → Int} : ∀ k j, j < k → S j ≤ mxP S k
  | 0, _, h => by omega
  | k + 1, j, h => by
    show S j ≤ (if mxP S k < S k then S k else mxP S k)
    by_cases c : j = k
    · subst c; split <;> omega
    · have := mx_ge (S := S) k j (by omega)
      split <;> omega
theorem rls_of {r : Nat} {S : Nat → Int} (h : rls r S = true) : ib (-1099511627776) 1099511627776 r S = true ∧ 0 < r ∧ (r : Int) ≤ 4096 := by
  unfold rls at h
  rw [Bool.and_eq_true] at h
  have := of_decide_eq_true h.2
  exact ⟨h.1, by omega, by omega⟩
theorem sc_mk {s z : Int} (h : (1 ≤ s ∧ s ≤ 1099511627776) ∧ (0 ≤ z ∧ z ≤ 255)) : scOk s z = true := decide_eq_true h
theorem calI (r : Nat) (S : Nat → Int) (hr : (r : Int) ≤ 1048576) : (rls r S = false → ∀ (B : Nat) (a : Option Addr) (cap : Nat) (w : World), B ≤ w.heap.size → Ints B w a r S → Calls Try.prog 15 #[.slice a r cap] w fun e w' => e = .returned (.tuple #[.agg #[.int .i64 0, .int .i64 0], .bool false]) ∧ Below w.heap.size w w') ∧
    (rls r S = true → ∀ (B : Nat) (a : Option Addr) (cap : Nat) (w : World), B ≤ w.heap.size → Ints B w a r S → Calls Try.prog 15 #[.slice a r cap] w fun e w' => e = .returned (.tuple #[.agg #[.int .i64 (cst (mxP S r - mnP S r)), .int .i64 (nr (-mnP S r) (cst (mxP S r - mnP S r)))], .bool true]) ∧ Below w.heap.size w w') := by
  refine ⟨fun g B a cap w hB h => ?_, fun g B a cap w hB h => ?_⟩
  · by_cases g1 : r = 0
    · subst g1; exact iCal_no1 a cap w
    by_cases g2 : 4096 < (r : Int)
    · exact iCal_no2 B a r cap S w hB h hr g1 g2
    cases g3 : ib (-1099511627776) 1099511627776 r S
    · exact iCal_no3 B a r cap S w hB h hr g1 g2 g3
    · unfold rls at g
      rw [g3, decide_eq_true (p := 0 < (r : Int) ∧ (r : Int) ≤ 4096) (by omega)] at g
      exact absurd g (by decide)
  · obtain ⟨g3, r0, r4⟩ := rls_of g
    have hall := of_decide_eq_true g3
    obtain ⟨k, rfl⟩ : ∃ k, r = k + 1 := ⟨r - 1, by omega⟩
    obtain ⟨l0, l1⟩ := mn_bd (K := 1099511627776) (by decide) (k + 1) hall
    obtain ⟨h0, h1⟩ := mx_bd (K := 1099511627776) (by decide) (k + 1) hall
    obtain ⟨⟨mi0, mi1⟩, M0, M1'⟩ := m1_bd (K := 1099511627776) k hall
    obtain ⟨c0, c1⟩ := cst_bd (d := mxP S (k + 1) - mnP S (k + 1)) (by omega) (by omega)
    obtain ⟨z, -, ez, -, hI⟩ := nearB (-mnP S (k + 1)) (cst (mxP S (k + 1) - mnP S (k + 1))) 1099511627776 (by omega) (by omega) (by decide) c0 (by omega)
    rw [show nr (-mnP S (k + 1)) (cst (mxP S (k + 1) - mnP S (k + 1))) = z from ez.symm]
    refine iCal_yes B a (k + 1) cap S w hB h hr (by omega) (by omega) g3 (m1 S k) (M1 S k) (mnP S (k + 1)) (mxP S (k + 1)) ((mxP S (k + 1) - mnP S (k + 1) + 254).tdiv 255) _ z rfl rfl (mn_is S k).symm (mx_is S k).symm mi0 mi1 M0 M1' (Int.tdiv_nonneg (by omega) (by omega)) ?_ rfl (fun n w e => ?_) (fun n d w e1 e2 => ?_)
    · have := tdiv_abs (mxP S (k + 1) - mnP S (k + 1) + 254) 255
      omega
    · subst e
      have := roundedUpF (mxP S (k + 1) - mnP S (k + 1)) 255 w (by omega) (by omega) (by decide) (by decide)
      rwa [show mxP S (k + 1) - mnP S (k + 1) + 255 - 1 = mxP S (k + 1) - mnP S (k + 1) + 254 by omega] at this
    · subst e1 e2
      exact hI w
/-- the scale that is calibrated: it can be, and the worst is at most a step -/
theorem worst_step (r : Nat) (S : Nat → Int) (hr : (r : Int) ≤ 1048576) (g : rls r S = true) : ∃ (s z v : Int), scOk s z = true ∧ (v ≤ s ∧ 0 ≤ v) ∧
    (∀ (B : Nat) (a : Option Addr) (cap : Nat) (w : World), B ≤ w.heap.size → Ints B w a r S → Calls Try.prog 15 #[.slice a r cap] w fun e w' => e = .returned (.tuple #[.agg #[.int .i64 s, .int .i64 z], .bool true]) ∧ Below w.heap.size w w') ∧
    (∀ (B : Nat) (a : Option Addr) (cap : Nat) (w : World), B ≤ w.heap.size → Ints B w a r S → Calls Try.prog 17 #[.agg #[.int .i64 s, .int .i64 z], .slice a r cap] w fun e w' => e = .returned (.int .i64 v) ∧ Below w.heap.size w w') := by
  obtain ⟨g3, r0, r4⟩ := rls_of g
  have hall := of_decide_eq_true g3
  obtain ⟨l0, l1⟩ := mn_bd (K := 1099511627776) (by decide) r hall
  obtain ⟨h0, h1⟩ := mx_bd (K := 1099511627776) (by decide) r hall
  obtain ⟨cov, c0, c1⟩ := cst_cover (d := mxP S r - mnP S r) (by omega) (by omega)
  have hC := (calI r S hr).2 g
  obtain ⟨σ, hσ⟩ : ∃ σ, cst (mxP S r - mnP S r) = σ := ⟨_, rfl⟩
  rw [hσ] at cov c0 c1 hC
  obtain ⟨z, hz⟩ : ∃ z, nr (-mnP S r) σ = z := ⟨_, rfl⟩
  rw [hz] at hC
  obtain ⟨⟨z0, z1⟩, -⟩ := cal_rng l1 h0 c0 cov hz.symm
  have ok : scOk σ z = true := sc_mk ⟨⟨c0, c1⟩, z0, z1⟩
  have off : ∀ j, j < r → -σ ≤ S j - σ * (cl 0 255 (z + nr (S j) σ) - z) ∧ S j - σ * (cl 0 255 (z + nr (S j) σ) - z) ≤ σ := fun j hj => cal_off l1 h0 c0 cov hz.symm (mn_le r j hj) (mx_ge r j hj)
  have qv : QV 11 10 σ z r S (fun j => cl 0 255 (z + nr (S j) σ)) (fun j => σ * (cl 0 255 (z + nr (S j) σ) - z)) := fun j hj => by
    have hx := hall j hj
    obtain ⟨q, ⟨q0, q1⟩, eq, -, hq⟩ := quantBoth σ z (S j) ⟨by omega, by omega⟩ ⟨by omega, by omega⟩ ⟨by omega, by omega⟩
    have eq' : q = cl 0 255 (z + nr (S j) σ) := eq ok hx
    obtain ⟨v, hv, ev, -, hvi⟩ := valueBoth σ z q ⟨by omega, by omega⟩ ⟨by omega, by omega⟩ ⟨by omega, by omega⟩
    rw [if_pos ⟨ok, q0, q1⟩] at ev
    rw [eq'] at hq ev hvi
    rw [ev] at hv hvi
    exact ⟨hv, hx, hq, hvi⟩
  obtain ⟨w0, w1⟩ := wst_bd (S := S) (V := fun j => σ * (cl 0 255 (z + nr (S j) σ) - z)) (K := σ) (by omega) r off
  exact ⟨σ, z, wst S (fun j => σ * (cl 0 255 (z + nr (S j) σ) - z)) r, ok, ⟨w1, w0⟩, hC, fun B a cap w hB h => iWor_yes σ z B a r cap S _ _ w hB h ⟨by omega, by omega⟩ ⟨by omega, by omega⟩ ok (by omega) g3 qv⟩
end Vo
end Go.Proofs.Ytabjpemneimljaa
