/- Whether matrices of bytes fit (written by tools/genmat.py). -/
import Derived.Test.YtnnjkanmcfjblaaIl
import Derived.Test.YtnnjkanmcfjblaaId
import Derived.Test.YtnnjkanmcfjblaaIe
namespace Go.Proofs.Ytnnjkanmcfjblaa
namespace Vo
open Go.ChangeShapes Go.WideShapes Go.ChangeAt Go.RowKit Go.Joins Go.Sort
open Vl
set_option linter.unusedVariables false
set_option linter.unusedSimpArgs false
/-- what matrices of bytes must be: R rows of N, M columns of N -/
def MFit (r s : Nat) (X W : Nat → Int) (n m : Int) : Prop :=
  ((1 ≤ n ∧ n ≤ 4096) ∧ (1 ≤ m ∧ m ≤ 4096)) ∧ (r : Int) ≤ 4096 ∧ (s : Int) ≤ 4096 ∧ r % n.toNat = 0 ∧ s = n.toNat * m.toNat ∧ r / n.toNat * m.toNat ≤ 4096 ∧ r / n.toNat * m.toNat * n.toNat ≤ 65536 ∧ ib 0 255 r X = true ∧ ib 0 255 s W = true
noncomputable instance (r s : Nat) (X W : Nat → Int) (n m : Int) : Decidable (MFit r s X W n m) := Classical.propDecidable _
noncomputable def mfit (r s : Nat) (X W : Nat → Int) (n m : Int) : Bool := decide (MFit r s X W n m)
theorem mfit_no {r s : Nat} {X W : Nat → Int} {n m : Int} (h : ¬ MFit r s X W n m) : mfit r s X W n m = false := decide_eq_false h
theorem mfit_yes {r s : Nat} {X W : Nat → Int} {n m : Int} (h : MFit r s X W n m) : mfit r s X W n m = true := decide_eq_true h
theorem div_td (r N : Nat) : (r : Int).tdiv (N : Int) = ((r / N : Nat) : Int) := by rw [Int.tdiv_eq_ediv_of_nonneg (Int.natCast_nonneg _), Int.natCast_ediv]
theorem mod_tm (r N : Nat) : (r : Int).tmod (N : Int) = ((r % N : Nat) : Int) := by rw [Int.tmod_eq_emod_of_nonneg (Int.natCast_nonneg _), Int.natCast_emod]
set_option maxHeartbeats 2000000 in
theorem matricesFitF (a b : Option Addr) (r s cap dap : Nat) (X Y : Nat → Int) (n m : Int) (w : World) (h1 : Ints w.heap.size w a r X) (h2 : Ints w.heap.size w b s Y) (hn : bd n) (hm : bd m) (hr : (r : Int) ≤ 1048576) (hs : (s : Int) ≤ 1048576) :
    Calls Try.prog 24 #[.slice a r cap, .int .i64 n, .slice b s dap, .int .i64 m] w fun e w' => e = .returned (.bool (mfit r s X Y n m)) ∧ Below w.heap.size w w' := by
  have H1 := hide h1
  have H2 := hide h2
  clear h1 h2
  cases g1 : decide ((1 ≤ n ∧ n ≤ 4096) ∧ (1 ≤ m ∧ m ≤ 4096))
  · rw [mfit_no (fun h => absurd h.1 (of_decide_eq_false g1))]
    have C2 := hide (inB_two 1 4096 n m false _ w (by decide) hn hm g1 rfl)
    clear g1 hr hs hn hm
    go_enter Try.func24, Try.ntmps24
    go_wp2_with fail
    refine (C2.out).mono ?_; rintro e1 w1 ⟨rfl, q1⟩
    go_wp2_with fail
    go_ret
    exact ⟨rfl, q1⟩
  have C2 := hide (inB_two 1 4096 n m true _ w (by decide) hn hm g1 rfl)
  obtain ⟨⟨n0, n1⟩, m0, m1⟩ := of_decide_eq_true g1
  obtain ⟨N, rfl⟩ := Int.eq_ofNat_of_zero_le (show 0 ≤ n by omega)
  obtain ⟨M, rfl⟩ := Int.eq_ofNat_of_zero_le (show 0 ≤ m by omega)
  clear g1 hn hm
  by_cases g2 : (r : Int) ≤ 4096
  case neg =>
    rw [mfit_no (fun h => absurd h.2.1 g2)]
    have g2' : decide ((4096 : Int) < (r : Int)) = true := decide_eq_true (by omega)
    have g2'' : decide (4096 < r) = true := decide_eq_true (by omega)
    clear g2 hr hs n0 n1 m0 m1
    go_enter Try.func24, Try.ntmps24
    go_wp2_with fail
    refine (C2.out).mono ?_; rintro e1 w1 ⟨rfl, q1⟩
    go_wp2_with fail
    go_ret
    exact ⟨rfl, q1⟩
  have g2' : decide ((4096 : Int) < (r : Int)) = false := decide_eq_false (by omega)
  have g2'' : decide (4096 < r) = false := decide_eq_false (by omega)
  by_cases g3 : (s : Int) ≤ 4096
  case neg =>
    rw [mfit_no (fun h => absurd h.2.2.1 g3)]
    have g3' : decide ((4096 : Int) < (s : Int)) = true := decide_eq_true (by omega)
    have g3'' : decide (4096 < s) = true := decide_eq_true (by omega)
    clear g2 g3 hr hs n0 n1 m0 m1
    go_enter Try.func24, Try.ntmps24
    go_wp2_with fail
    refine (C2.out).mono ?_; rintro e1 w1 ⟨rfl, q1⟩
    go_wp2_with fail
    go_ret
    exact ⟨rfl, q1⟩
  have g3' : decide ((4096 : Int) < (s : Int)) = false := decide_eq_false (by omega)
  have g3'' : decide (4096 < s) = false := decide_eq_false (by omega)
  have MF : Hid (MFit r s X Y N M ↔ (r % N = 0 ∧ s = N * M ∧ r / N * M ≤ 4096 ∧ r / N * M * N ≤ 65536 ∧ ib 0 255 r X = true ∧ ib 0 255 s Y = true)) := hide (by unfold MFit; simp only [Int.toNat_natCast]; exact ⟨fun h => h.2.2.2, fun h => ⟨⟨⟨n0, n1⟩, m0, m1⟩, g2, g3, h⟩⟩)
  have n0' : 0 < N := by omega
  have nz : ((N : Int) == 0) = false := by simp; omega
  have nz' : ¬ (N : Int) = 0 := by omega
  obtain ⟨Q, hQ⟩ : ∃ Q, r / N = Q := ⟨_, rfl⟩
  obtain ⟨t, ht⟩ : ∃ t, r % N = t := ⟨_, rfl⟩
  obtain ⟨P, hP⟩ : ∃ P, Q * M = P := ⟨_, rfl⟩
  obtain ⟨V, hV⟩ : ∃ V, P * N = V := ⟨_, rfl⟩
  obtain ⟨Z, hZ⟩ : ∃ Z, N * M = Z := ⟨_, rfl⟩
  have Ql : Q ≤ 4096 := by rw [← hQ]; exact Nat.le_trans (Nat.div_le_self _ _) (by omega)
  have Pl : P ≤ 4096 * 4096 := by rw [← hP]; exact Nat.mul_le_mul Ql (by omega)
  have Vl' : V ≤ 4096 * 4096 * 4096 := by rw [← hV]; exact Nat.mul_le_mul Pl (by omega)
  have Zl : Z ≤ 4096 * 4096 := by rw [← hZ]; exact Nat.mul_le_mul (by omega) (by omega)
  have dq : (r : Int).tdiv (N : Int) = (Q : Int) := by rw [div_td, hQ]
  have dt : (r : Int).tmod (N : Int) = (t : Int) := by rw [mod_tm, ht]
  have wq : IntKind.i64.wrap (Q : Int) = Q := by rw [IntKind.wrap_i64]; omega
  have wp : IntKind.i64.wrap ((Q : Int) * (M : Int)) = (P : Int) := by rw [← Int.natCast_mul, hP]; rw [IntKind.wrap_i64]; omega
  have wv : IntKind.i64.wrap ((P : Int) * (N : Int)) = (V : Int) := by rw [← Int.natCast_mul, hV]; rw [IntKind.wrap_i64]; omega
  have wz : IntKind.i64.wrap ((N : Int) * (M : Int)) = (Z : Int) := by rw [← Int.natCast_mul, hZ]; rw [IntKind.wrap_i64]; omega
  rw [hQ, ht, hP, hV, hZ] at MF
  clear hQ ht hP hV hZ n0 n1 m0 m1 g2 g3 Ql Pl Vl' Zl n0'
  by_cases g4 : t = 0
  case neg =>
    rw [mfit_no (fun h => absurd (MF.out.1 h).1 g4)]
    have e4 : ¬ (t : Int) = 0 := by omega
    clear g4 hr hs
    go_enter Try.func24, Try.ntmps24
    go_wp2_with fail
    refine (C2.out).mono ?_; rintro e1 w1 ⟨rfl, q1⟩
    go_wp2_with fail
    go_ret
    exact ⟨rfl, q1⟩
  subst g4
  by_cases g5 : s = Z
  case neg =>
    rw [mfit_no (fun h => absurd (MF.out.1 h).2.1 g5)]
    have e5 : ¬ (s : Int) = (Z : Int) := by omega
    have e5' : ¬ s = Z := g5
    clear g5 hr hs
    go_enter Try.func24, Try.ntmps24
    go_wp2_with fail
    refine (C2.out).mono ?_; rintro e1 w1 ⟨rfl, q1⟩
    go_wp2_with fail
    go_ret
    exact ⟨rfl, q1⟩
  have e5 : ((s : Int) = (Z : Int)) = True := eq_true (by omega)
  have e5' : (s = Z) = True := eq_true g5
  have e5b : ((s : Int) != (Z : Int)) = false := by simp; omega
  have G5 := hide g5
  clear g5
  by_cases g6 : P ≤ 4096
  case neg =>
    rw [mfit_no (fun h => absurd (MF.out.1 h).2.2.1 g6)]
    have e6 : decide ((4096 : Int) < (P : Int)) = true := decide_eq_true (by omega)
    have e6' : decide (4096 < P) = true := decide_eq_true (by omega)
    clear g6 hr hs
    go_enter Try.func24, Try.ntmps24
    go_wp2_with fail
    refine (C2.out).mono ?_; rintro e1 w1 ⟨rfl, q1⟩
    go_wp2_with fail
    go_ret
    exact ⟨rfl, q1⟩
  have e6 : decide ((4096 : Int) < (P : Int)) = false := decide_eq_false (by omega)
  have e6' : decide (4096 < P) = false := decide_eq_false (by omega)
  have G6 := hide g6
  clear g6
  by_cases g7 : V ≤ 65536
  case neg =>
    rw [mfit_no (fun h => absurd (MF.out.1 h).2.2.2.1 g7)]
    have e7 : decide ((65536 : Int) < (V : Int)) = true := decide_eq_true (by omega)
    have e7' : decide (65536 < V) = true := decide_eq_true (by omega)
    clear g7 hr hs
    go_enter Try.func24, Try.ntmps24
    go_wp2_with fail
    refine (C2.out).mono ?_; rintro e1 w1 ⟨rfl, q1⟩
    go_wp2_with fail
    go_ret
    exact ⟨rfl, q1⟩
  have e7 : decide ((65536 : Int) < (V : Int)) = false := decide_eq_false (by omega)
  have e7' : decide (65536 < V) = false := decide_eq_false (by omega)
  have G7 := hide g7
  clear g7
  have CX := hide (fun W (b : Below w.heap.size w W) => areBytesF w.heap.size a r cap X W b.size (H1.out.below b) hr)
  have CY := hide (fun W (q : Below w.heap.size w W) => areBytesF w.heap.size b s dap Y W q.size (H2.out.below q) hs)
  clear hr hs
  cases g8 : ib 0 255 r X
  · rw [mfit_no (fun h => by have := (MF.out.1 h).2.2.2.2.1; rw [g8] at this; exact absurd this Bool.false_ne_true)]
    rw [g8] at CX
    clear g8
    go_enter Try.func24, Try.ntmps24
    go_wp2_with fail
    refine (C2.out).mono ?_; rintro e1 w1 ⟨rfl, q1⟩
    go_wp2_with fail
    refine (CX.out _ q1).mono ?_; rintro e1 w2 ⟨rfl, q2⟩
    go_wp2_with fail
    go_ret
    exact ⟨rfl, q1.trans (q2.mono q1.size)⟩
  cases g9 : ib 0 255 s Y
  · rw [mfit_no (fun h => by have := (MF.out.1 h).2.2.2.2.2; rw [g9] at this; exact absurd this Bool.false_ne_true)]
    rw [g8] at CX
    rw [g9] at CY
    clear g8 g9
    go_enter Try.func24, Try.ntmps24
    go_wp2_with fail
    refine (C2.out).mono ?_; rintro e1 w1 ⟨rfl, q1⟩
    go_wp2_with fail
    refine (CX.out _ q1).mono ?_; rintro e1 w2 ⟨rfl, q2⟩
    go_wp2_with fail
    refine (CY.out _ (q1.trans (q2.mono q1.size))).mono ?_; rintro e1 w3 ⟨rfl, q3⟩
    go_wp2_with fail
    go_ret
    exact ⟨rfl, (q1.trans (q2.mono q1.size)).trans (q3.mono (q1.trans (q2.mono q1.size)).size)⟩
  rw [mfit_yes (MF.out.2 ⟨rfl, G5.out, G6.out, G7.out, g8, g9⟩)]
  rw [g8] at CX
  rw [g9] at CY
  clear g8 g9
  go_enter Try.func24, Try.ntmps24
  go_wp2_with fail
  refine (C2.out).mono ?_; rintro e1 w1 ⟨rfl, q1⟩
  go_wp2_with fail
  refine (CX.out _ q1).mono ?_; rintro e1 w2 ⟨rfl, q2⟩
  go_wp2_with fail
  refine (CY.out _ (q1.trans (q2.mono q1.size))).mono ?_; rintro e1 w3 ⟨rfl, q3⟩
  go_wp2_with fail
  go_ret
  exact ⟨rfl, (q1.trans (q2.mono q1.size)).trans (q3.mono (q1.trans (q2.mono q1.size)).size)⟩
end Vo
end Go.Proofs.Ytnnjkanmcfjblaa
