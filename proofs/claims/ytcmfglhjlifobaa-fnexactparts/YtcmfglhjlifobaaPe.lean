/- Forms: the arrow; Parts of the program. -/
import Derived.Test.YtcmfglhjlifobaaPd
import Derived.Lib.SlicesS
namespace Go.Proofs.Ytcmfglhjlifobaa
namespace Vo
open Go.ChangeShapes Go.WideShapes Go.ChangeAt Go.RowKit Go.Joins Go.Sort
open Vl Vp
set_option linter.unusedVariables false
set_option linter.unusedSimpArgs false
theorem ba_ext {a b : ByteArray} (h : a.size = b.size) (hb : ∀ j, j < a.size → bt a j = bt b j) : a = b := by
  apply ByteArray.ext
  apply Array.ext
  · exact h
  · intro j h1 h2
    have e1 : j < a.size := h1
    have e2 : j < b.size := h2
    have q := hb j e1
    rw [bt_at e1, bt_at e2] at q
    exact UInt8.toNat_inj.1 q
theorem bt_extract {s : ByteArray} {a b j : Nat} (hb : b ≤ s.size) (hj : a + j < b) : bt (s.extract a b) j = bt s (a + j) := by
  have h1 : j < (s.extract a b).size := by rw [ByteArray.size_extract]; omega
  rw [bt_at h1, bt_at (show a + j < s.size by omega)]
  congr 1
  exact ByteArray.getElem_extract ..
/-- a text begins with an arrow -/
def arB (t : ByteArray) : Bool := decide (2 ≤ t.size) && bt t 0 == 45 && bt t 1 == 62
theorem arB_iff {t : ByteArray} : arB t = true ↔ 2 ≤ t.size ∧ bt t 0 = 45 ∧ bt t 1 = 62 := by
  unfold arB
  simp only [Bool.and_eq_true, decide_eq_true_eq, beq_iff_eq, and_assoc]
theorem ar_eq {t : ByteArray} (h : 2 ≤ t.size) : (t.extract 0 2 = ⟨#[45, 62]⟩) ↔ (bt t 0 = 45 ∧ bt t 1 = 62) := by
  constructor
  · intro e
    have e0 := bt_extract (s := t) (a := 0) (b := 2) (j := 0) h (by omega)
    have e1 := bt_extract (s := t) (a := 0) (b := 2) (j := 1) h (by omega)
    rw [e] at e0 e1
    exact ⟨by rw [← show (0 + 0 : Nat) = 0 from rfl, ← e0]; rfl, by rw [← show (0 + 1 : Nat) = 1 from rfl, ← e1]; rfl⟩
  · rintro ⟨h0, h1⟩
    refine ba_ext (by rw [ByteArray.size_extract]; show min 2 t.size - 0 = 2; omega) (fun j hj => ?_)
    have hj2 : j < 2 := by rw [ByteArray.size_extract] at hj; omega
    rw [bt_extract h (by omega), Nat.zero_add]
    have : j = 0 ∨ j = 1 := by omega
    rcases this with rfl | rfl
    · rw [h0]; rfl
    · rw [h1]; rfl
theorem ar_list : (⟨#[45, 62]⟩ : ByteArray).toList = [45, 62] := by
  simp [ByteArray.toList, ByteArray.toList.loop, ByteArray.size, ByteArray.get!]
theorem ar_beq (x : ByteArray) : ((x.toList == [45, 62]) = true) ↔ x = ⟨#[45, 62]⟩ := by
  have q := Lib.bytes_beq_iff x ⟨#[45, 62]⟩
  rwa [ar_list] at q
theorem ar_no {x : ByteArray} (h : x ≠ ⟨#[45, 62]⟩) : (x.toList == [45, 62]) = false := by
  cases hl : (x.toList == [45, 62]) with
  | false => rfl
  | true => exact absurd ((ar_beq x).1 hl) h
theorem hasPre (t : ByteArray) (w : World) : Calls Try.prog 28 #[.string t, .string ⟨#[45, 62]⟩] w fun e w' => e = .returned (.bool (arB t)) ∧ w' = w := by
  by_cases h2 : 2 ≤ t.size
  rotate_left
  · have E := hide (show arB t = false by unfold arB; rw [decide_eq_false h2]; rfl)
    have h2' : decide ((2 : Int) ≤ (t.size : Int)) = false := decide_eq_false (by omega)
    have h2'' : decide (2 ≤ t.size) = false := decide_eq_false h2
    clear h2
    go_enter Try.func28, Try.ntmps28
    go_wp2_with fail
    go_ret
    exact ⟨by rw [E.out]; rfl, rfl⟩
  have h2' : (2 : Int) ≤ (t.size : Int) := by omega
  by_cases h3 : t.extract 0 2 = ⟨#[45, 62]⟩
  · have E := hide (show arB t = true from arB_iff.2 ⟨h2, (ar_eq h2).1 h3⟩)
    have h3' := (ar_beq _).2 h3
    clear h3
    go_enter Try.func28, Try.ntmps28
    go_wp2_with fail
    go_ret
    exact ⟨by rw [E.out]; rfl, rfl⟩
  · have E := hide (show arB t = false by
      cases hl : arB t with
      | false => rfl
      | true => exact absurd ((ar_eq h2).2 (arB_iff.1 hl).2) h3)
    have h3' := ar_no h3
    clear h3
    go_enter Try.func28, Try.ntmps28
    go_wp2_with fail
    go_ret
    exact ⟨by rw [E.out]; rfl, rfl⟩
theorem hasPrefix (t : ByteArray) (w : World) : Calls Try.prog 18 #[.string t, .string ⟨#[45, 62]⟩] w fun e w' => e = .returned (.bool (arB t)) ∧ w' = w := by
  go_enter Try.func18, Try.ntmps18
  go_wp2_with fail
  refine (hasPre t _).mono ?_
  rintro e w1 ⟨rfl, hq⟩
  have hq := hq.symm
  subst hq
  go_wp2_with fail
  go_ret
  exact ⟨rfl, rfl⟩
end Vo
end Go.Proofs.Ytcmfglhjlifobaa
