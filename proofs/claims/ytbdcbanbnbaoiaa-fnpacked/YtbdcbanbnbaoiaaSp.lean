/- The stable sort walked: blocks changed, blocks turned round. -/
import Derived.Test.YtbdcbanbnbaoiaaVl
import Derived.Test.YtbdcbanbnbaoiaaSo
import Derived.BigRegion
import Derived.RegionTactic
import Derived.ChangeAlike
namespace Go.Proofs.Ytbdcbanbnbaoiaa
namespace So
open Go.ChangeShapes Go.WideShapes Go.ChangeAt Go.RowKit Go.Joins
open Vl
set_option linter.unusedVariables false
set_option linter.unusedSimpArgs false
theorem rw_cast {w w' : World} {g r : Nat} {D : Nat → Int} (h : Rw w g r D) (e : w = w') : Rw w' g r D := e ▸ h
theorem rw_swap {w : World} {g r p q : Nat} {D : Nat → Int} (h : Rw w g r D) (hp : p < r) (hq : q < r) : Rw ((w.setCell ⟨g, p, none⟩ (.int .i64 (D q))).setCell ⟨g, q, none⟩ (.int .i64 (D p))).drew g r (fun t => if t = q then D p else if t = p then D q else D t) :=
  (((h.set p (D q) (h q hq).2.2).set q (D p) (h p hp).2.2).below (B := g + 1) ((Below.refl _ _).drew) (by omega)).same fun t ht => rfl
theorem kept_swap (w : World) (g p q : Nat) (x y : Value) : Kept (· = g) w ((w.setCell ⟨g, p, none⟩ x).setCell ⟨g, q, none⟩ y).drew :=
  ((Kept.setCell w ⟨g, p, none⟩ x).trans (Kept.setCell _ ⟨g, q, none⟩ y)).trans (Kept.of_below ((Below.refl _ _).drew))
set_option maxHeartbeats 1000000 in
theorem swapF (g r c : Nat) (D : Nat → Int) (a b n : Nat) (F : Value) (w : World) (h : Rw w g r D) (h1 : a + n ≤ b) (h2 : b + n ≤ r) (hr : (r : Int) ≤ 1048576) :
    Calls Try.prog 52 #[.slice (some ⟨g, 0, none⟩) r c, .int .i64 a, .int .i64 b, .int .i64 n, F] w fun e w' => e = .returned (.tuple #[]) ∧ Rw w' g r (swp D a b n) ∧ Kept (· = g) w w' := by
  have H := hide h
  clear h
  go_enter Try.func52, Try.ntmps52
  go_wp2_with fail
  go_loopw [10] (fun i wx => ∃ k : Nat, k ≤ n ∧ i = .int .i64 k ∧ Rw wx g r (swp D a b k) ∧ Kept (· = g) w wx) (fun i _ => n - (intOf i).toNat)
  case atStart => exact ⟨0, Nat.zero_le _, rfl, H.out.same (fun t ht => by unfold swp; rw [if_neg (by omega), if_neg (by omega)]), Kept.refl _ _⟩
  case round =>
    obtain ⟨k, hk, rfl, hw, hb⟩ := hrel
    have HW := hide hw
    have HB := hide hb
    clear hw hb
    by_cases hlt : k < n
    · have hkI : (k : Int) < n := by omega
      obtain ⟨ca, fa, ba⟩ := HW.out (a + k) (by omega)
      obtain ⟨cb, fb, bb⟩ := HW.out (b + k) (by omega)
      have ea : swp D a b k (a + k) = D (a + k) := by unfold swp; rw [if_neg (by omega), if_neg (by omega)]
      have eb : swp D a b k (b + k) = D (b + k) := by unfold swp; rw [if_neg (by omega), if_neg (by omega)]
      rw [ea] at ca ba
      rw [eb] at cb bb
      have aI : (a : Int) + k < r := by omega
      have bI : (b : Int) + k < r := by omega
      have ne : ¬ (a + k) = b + k := by omega
      go_wp2_with fail
      go_region
      go_wp2_with fail
      go_roundw
      case rel =>
        refine ⟨k + 1, by omega, by go_num, rw_cast ((rw_swap HW.out (p := a + k) (q := b + k) (by omega) (by omega)).same (E := swp D a b (k + 1)) (fun t ht => ?_)) (by rw [ea, eb]), HB.out.trans (kept_swap _ _ _ _ _ _)⟩
        rw [ea, eb]
        unfold swp
        repeat' split
        all_goals first | rfl | omega | (congr 1; omega)
      case measure => simp [intOf]; omega
    · have e : k = n := by omega
      subst e
      have hkI : decide ((k : Int) < k) = false := by simp
      go_wp2_with fail
      exact bodyPost_end (results_none rfl _ _ _) rfl ⟨rfl, HW.out, HB.out⟩
set_option maxHeartbeats 1000000 in
theorem rotF (g r c : Nat) (D : Nat → Int) (a m b : Nat) (F : Value) (w : World) (h : Rw w g r D) (h1 : a < m) (h2 : m < b) (h3 : b ≤ r) (hr : (r : Int) ≤ 1048576) :
    Calls Try.prog 51 #[.slice (some ⟨g, 0, none⟩) r c, .int .i64 a, .int .i64 m, .int .i64 b, F] w fun e w' => e = .returned (.tuple #[]) ∧ Rw w' g r (rot D a m b) ∧ Kept (· = g) w w' := by
  have H := hide h
  clear h
  go_enter Try.func51, Try.ntmps51
  go_wp2_with fail
  go_loopw [10, 11] (fun vi vj wx => ∃ (i j : Nat) (E : Nat → Int), 0 < i ∧ 0 < j ∧ a + i ≤ m ∧ m + j ≤ b ∧ vi = .int .i64 i ∧ vj = .int .i64 j ∧ Rw wx g r E ∧ rot E (m - i) m (m + j) = rot D a m b ∧ Kept (· = g) w wx) (fun vi vj _ => (intOf vi).toNat + (intOf vj).toNat)
  case atStart => exact ⟨m - a, b - m, D, by omega, by omega, by omega, by omega, by go_num, by go_num, H.out, by rw [show m - (m - a) = a by omega, show m + (b - m) = b by omega], Kept.refl _ _⟩
  case round =>
    obtain ⟨i, j, E, hi, hj, h4, h5, rfl, rfl, hw, he, hb⟩ := hrel
    have HW := hide hw
    have HE := hide he
    have HB := hide hb
    clear hw he hb
    by_cases hne : i = j
    · subst hne
      have t1 : (decide ((i : Int) = i)) = true := by simp
      have CA := swapF g r c E (m - i) m i F _ HW.out (by omega) (by omega) hr
      rw [show ((m - i : Nat) : Int) = (m : Int) - i by omega] at CA
      have CH := hide CA
      clear CA
      go_wp2_with fail
      refine CH.out.mono ?_
      rintro e w1 ⟨rfl, rw1, k1⟩
      have R1 := hide rw1
      have K1 := hide k1
      clear rw1 k1
      go_wp2_with fail
      exact bodyPost_end (results_none rfl _ _ _) rfl ⟨rfl, R1.out.same (fun t ht => by rw [← HE.out, rot_eq (by omega)]), HB.out.trans K1.out⟩
    · have t1 : decide ((i : Int) = j) = false := decide_eq_false (by omega)
      by_cases hgt : j < i
      · have t2 : (j : Int) < i := by omega
        have CA := swapF g r c E (m - i) m j F _ HW.out (by omega) (by omega) hr
        rw [show ((m - i : Nat) : Int) = (m : Int) - i by omega] at CA
        have CH := hide CA
        clear CA
        go_wp2_with fail
        refine CH.out.mono ?_
        rintro e w1 ⟨rfl, rw1, k1⟩
        have R1 := hide rw1
        have K1 := hide k1
        clear rw1 k1
        go_wp2_with fail
        go_roundw
        case rel => exact ⟨i - j, j, _, by omega, by omega, by omega, by omega, by go_num, by go_num, R1.out, by rw [rot_gt (by omega) hgt]; exact HE.out, HB.out.trans K1.out⟩
        case measure => simp [intOf]; omega
      · have t2 : decide ((j : Int) < i) = false := decide_eq_false (by omega)
        have CA := swapF g r c E (m - i) (m + j - i) i F _ HW.out (by omega) (by omega) hr
        rw [show ((m - i : Nat) : Int) = (m : Int) - i by omega, show ((m + j - i : Nat) : Int) = (m : Int) + j - i by omega] at CA
        have CH := hide CA
        clear CA
        go_wp2_with fail
        refine CH.out.mono ?_
        rintro e w1 ⟨rfl, rw1, k1⟩
        have R1 := hide rw1
        have K1 := hide k1
        clear rw1 k1
        go_wp2_with fail
        go_roundw
        case rel => exact ⟨i, j - i, _, by omega, by omega, by omega, by omega, by go_num, by go_num, R1.out, by rw [rot_lt (by omega) (by omega)]; exact HE.out, HB.out.trans K1.out⟩
        case measure => simp [intOf]; omega
end So
end Go.Proofs.Ytbdcbanbnbaoiaa
