/- Lists that are one. -/
import Derived.Test.YtejfodkobfdelaaVac
import Derived.Deep.RegionHeld3
namespace Go.Proofs.Ytejfodkobfdelaa
namespace Vo
open Go.ChangeShapes Go.WideShapes Go.ChangeAt Go.RowKit Go.Joins Go.Sort
open Vl Vp Vr
set_option linter.unusedVariables false
set_option linter.unusedSimpArgs false

/-- the answer: are two lists one -/
def EqB (r s : Nat) (D S : Nat → Int) (e : Ending) : Prop := ∃ z : Bool, e = .returned (.bool z) ∧ (z = true ↔ r = s ∧ ∀ k, k < r → D k = S k)
set_option maxHeartbeats 1000000 in
theorem equalI (B : Nat) (a b : Option Addr) (r s cap dap : Nat) (D S : Nat → Int) (w : World) (hB : B ≤ w.heap.size) (h : Ints B w a r D) (h' : Ints B w b s S) (hr : (r : Int) ≤ 1048576) (hs : (s : Int) ≤ 1048576) :
    Calls Try.prog 95 #[.slice a r cap, .slice b s dap] w fun e w' => EqB r s D S e ∧ Below w.heap.size w w' := by
  have H := hide h
  have H' := hide h'
  clear h h'
  go_enter Try.func95, Try.ntmps95
  by_cases c : r = s
  rotate_left
  · have c' : ((r : Int) != (s : Int)) = true := by rw [bne_iff_ne]; omega
    have C := hide c
    clear c
    go_wp2_with fail
    go_ret
    exact ⟨⟨false, rfl, ⟨fun e => (by cases e), fun e => absurd e.1 C.out⟩⟩, Below.refl _ _⟩
  subst c
  have c' : ((r : Int) != (r : Int)) = false := by simp
  go_wp2_with fail
  clear c'
  go_loopw [13] (fun i wx => ∃ t : Nat, t ≤ r ∧ i = .int .i64 t ∧ (∀ j, j < t → D j = S j) ∧ Below w.heap.size w wx) (fun i _ => r - (intOf i).toNat)
  case atStart => exact ⟨0, Nat.zero_le _, rfl, fun j hj => by omega, Below.refl _ _⟩
  case round =>
    obtain ⟨X, rfl⟩ : ∃ X, X = wr := ⟨_, rfl⟩
    obtain ⟨t, ht, rfl, hall, hby⟩ := hrel
    have HALL := hide hall
    have HBY := hide hby
    clear hall hby
    by_cases hlt : t < r
    · have tI : (t : Int) < r := by omega
      rcases H.out.below (HBY.out.mono hB) with h0 | ⟨ba, oa, rfl, hba, hca⟩
      · omega
      rcases H'.out.below (HBY.out.mono hB) with h0 | ⟨bb, ob, rfl, hbb, hcb⟩
      · omega
      have ca := (hca t hlt).1
      have cb := (hcb t hlt).1
      clear hca hcb
      by_cases d : D t = S t
      · have d' : (D t != S t) = false := by rw [bne_eq_false_iff_eq]; exact d
        have DD := hide d
        clear d
        go_wp2_with fail
        go_region_held3 (fun w' => w'.cell? ⟨ba, oa + t, none⟩ = some (.int .i64 (D t)) ∧ w'.cell? ⟨bb, ob + t, none⟩ = some (.int .i64 (S t)))
          ((try dsimp only) <;> (repeat' apply And.intro) <;> (first | with_reducible assumption | assumption)) (fail)
        all_goals (go_wp2_with fail)
        all_goals go_roundw
        all_goals first
          | (simp only [intOf]; omega)
          | (simp [intOf]; omega)
          | exact ⟨t + 1, by omega, by go_num, fun j hj => by
              by_cases c : j = t
              · subst c; exact DD.out
              · exact HALL.out j (by omega), HBY.out.drew⟩
      · have d' : (D t != S t) = true := by rw [bne_iff_ne]; exact d
        have DD := hide d
        clear d
        go_wp2_with fail
        go_region_held3 (fun w' => w'.cell? ⟨ba, oa + t, none⟩ = some (.int .i64 (D t)) ∧ w'.cell? ⟨bb, ob + t, none⟩ = some (.int .i64 (S t)))
          ((try dsimp only) <;> (repeat' apply And.intro) <;> (first | with_reducible assumption | assumption)) (fail)
        go_wp2_with fail
        go_ret
        exact ⟨⟨false, rfl, ⟨fun e => (by cases e), fun e => absurd (e.2 t hlt) DD.out⟩⟩, HBY.out.drew⟩
    · obtain rfl : t = r := by omega
      go_wp2_with fail
      go_ret
      exact ⟨⟨true, rfl, ⟨fun _ => ⟨rfl, HALL.out⟩, fun _ => rfl⟩⟩, HBY.out⟩
set_option maxHeartbeats 1000000 in
theorem sameI (B : Nat) (a b : Option Addr) (r s cap dap : Nat) (D S : Nat → Int) (w : World) (hB : B ≤ w.heap.size) (h : Ints B w a r D) (h' : Ints B w b s S) (hr : (r : Int) ≤ 1048576) (hs : (s : Int) ≤ 1048576) :
    Calls Try.prog 28 #[.slice a r cap, .slice b s dap] w fun e w' => EqB r s D S e ∧ Below w.heap.size w w' := by
  have H := hide h
  have H' := hide h'
  clear h h'
  go_enter Try.func28, Try.ntmps28
  by_cases c : r = s
  rotate_left
  · have c' : ((r : Int) != (s : Int)) = true := by rw [bne_iff_ne]; omega
    have C := hide c
    clear c
    go_wp2_with fail
    go_ret
    exact ⟨⟨false, rfl, ⟨fun e => (by cases e), fun e => absurd e.1 C.out⟩⟩, Below.refl _ _⟩
  subst c
  have c' : ((r : Int) != (r : Int)) = false := by simp
  go_wp2_with fail
  clear c'
  go_loopw [5] (fun i wx => ∃ t : Nat, t ≤ r ∧ i = .int .i64 t ∧ (∀ j, j < t → D j = S j) ∧ Below w.heap.size w wx) (fun i _ => r - (intOf i).toNat)
  case atStart => exact ⟨0, Nat.zero_le _, rfl, fun j hj => by omega, Below.refl _ _⟩
  case round =>
    obtain ⟨X, rfl⟩ : ∃ X, X = wr := ⟨_, rfl⟩
    obtain ⟨t, ht, rfl, hall, hby⟩ := hrel
    have HALL := hide hall
    have HBY := hide hby
    clear hall hby
    by_cases hlt : t < r
    · have tI : (t : Int) < r := by omega
      rcases H.out.below (HBY.out.mono hB) with h0 | ⟨ba, oa, rfl, hba, hca⟩
      · omega
      rcases H'.out.below (HBY.out.mono hB) with h0 | ⟨bb, ob, rfl, hbb, hcb⟩
      · omega
      have ca := (hca t hlt).1
      have cb := (hcb t hlt).1
      clear hca hcb
      by_cases d : D t = S t
      · have d' : (D t != S t) = false := by rw [bne_eq_false_iff_eq]; exact d
        have DD := hide d
        clear d
        go_wp2_with fail
        go_region_held3 (fun w' => w'.cell? ⟨ba, oa + t, none⟩ = some (.int .i64 (D t)) ∧ w'.cell? ⟨bb, ob + t, none⟩ = some (.int .i64 (S t)))
          ((try dsimp only) <;> (repeat' apply And.intro) <;> (first | with_reducible assumption | assumption)) (fail)
        all_goals (go_wp2_with fail)
        all_goals go_roundw
        all_goals first
          | (simp only [intOf]; omega)
          | (simp [intOf]; omega)
          | exact ⟨t + 1, by omega, by go_num, fun j hj => by
              by_cases c : j = t
              · subst c; exact DD.out
              · exact HALL.out j (by omega), HBY.out.drew⟩
      · have d' : (D t != S t) = true := by rw [bne_iff_ne]; exact d
        have DD := hide d
        clear d
        go_wp2_with fail
        go_region_held3 (fun w' => w'.cell? ⟨ba, oa + t, none⟩ = some (.int .i64 (D t)) ∧ w'.cell? ⟨bb, ob + t, none⟩ = some (.int .i64 (S t)))
          ((try dsimp only) <;> (repeat' apply And.intro) <;> (first | with_reducible assumption | assumption)) (fail)
        go_wp2_with fail
        go_ret
        exact ⟨⟨false, rfl, ⟨fun e => (by cases e), fun e => absurd (e.2 t hlt) DD.out⟩⟩, HBY.out.drew⟩
    · obtain rfl : t = r := by omega
      go_wp2_with fail
      go_ret
      exact ⟨⟨true, rfl, ⟨fun _ => ⟨rfl, HALL.out⟩, fun _ => rfl⟩⟩, HBY.out⟩
end Vo
end Go.Proofs.Ytejfodkobfdelaa
