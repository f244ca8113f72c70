/- Marks of texts. -/
import Derived.Test.YtcmfglhjlifobaaPi
import Derived.Laws.IdiomStrings
namespace Go.Proofs.Ytcmfglhjlifobaa
namespace Vo
open Go.ChangeShapes Go.WideShapes Go.ChangeAt Go.RowKit Go.Joins Go.Sort
open Vl Vp
set_option linter.unusedVariables false
set_option linter.unusedSimpArgs false
/-- the digits of a number ahead of a text -/
def mtA : Nat → Nat → ByteArray → ByteArray
  | 0, _, o => o
  | f + 1, k, o => if k = 0 then o else mtA f (k / 10) (⟨#[48 + UInt8.ofNat (k % 10)]⟩ ++ o)
theorem mtA_zero (f : Nat) (o : ByteArray) : mtA f 0 o = o := by cases f <;> rfl
theorem mtA_more {f k : Nat} (o : ByteArray) (h : 0 < k) : mtA (f + 1) k o = mtA f (k / 10) (⟨#[48 + UInt8.ofNat (k % 10)]⟩ ++ o) := by
  show (if k = 0 then o else _) = _
  rw [if_neg (by omega)]
/-- the mark's text -/
def mtT (k : Nat) : ByteArray := ⟨#[109]⟩ ++ mtA k k ⟨#[]⟩
/-- a byte as a text -/
theorem oneByte (W : World) (j : Nat) : (convert 50 9 (.slice (some ⟨W.heap.size, 0, none⟩) 1 1)).run Try.prog (W.alloc (.cells #[.int .u8 (48 + (j : Int) % 10)] 5)) = .ok (.string ⟨#[48 + UInt8.ofNat (j % 10)]⟩) (W.alloc (.cells #[.int .u8 (48 + (j : Int) % 10)] 5)) := by
  have e : (48 + (j : Int) % 10) = (((UInt8.ofNat (48 + j % 10)).toNat : Nat) : Int) := by
    rw [UInt8.toNat_ofNat', Nat.mod_eq_of_lt (by omega)]; omega
  have e8 : (48 : UInt8) + UInt8.ofNat (j % 10) = UInt8.ofNat (48 + j % 10) := by simp
  rw [e8, e]
  exact run_convert_bytes_back (W.alloc (.cells #[.int .u8 ((UInt8.ofNat (48 + j % 10)).toNat : Int)] 5)) 50 9 5 ⟨W.heap.size, 0, none⟩ 1 [UInt8.ofNat (48 + j % 10)] Try.underlying50 Try.underlying5 Try.underlying9 (fun i hi => by
    have : i = 0 := by simpa using hi
    subst this
    simp [Addr.add])
set_option maxRecDepth 100000 in
theorem markText (k : Nat) (w : World) (h1 : 1 ≤ k) (h2 : (k : Int) ≤ 4294967296) :
    Calls Try.prog 21 #[.int .i64 (k : Int)] w fun e w' => e = .returned (.string (mtT k)) ∧ Below w.heap.size w w' := by
  have k0 : decide ((k : Int) ≤ 0) = false := decide_eq_false (by omega)
  go_enter Try.func21, Try.ntmps21
  go_wp2_with fail
  go_loopw [0, 3] (fun i o wx => ∃ (j f : Nat) (x : ByteArray), x.size + j ≤ k ∧ j ≤ f ∧ i = .int .i64 (j : Int) ∧ o = .string x ∧ mtA k k ⟨#[]⟩ = mtA f j x ∧ Below w.heap.size w wx) (fun i _ _ => (intOf i).toNat)
  case atStart => exact ⟨k, k, _, Nat.le_of_eq (Nat.zero_add _), Nat.le_refl _, rfl, rfl, rfl, Below.refl _ _⟩
  case round =>
    obtain ⟨j, f, x, hj, hf, rfl, rfl, hm, hw⟩ := hrel
    have HM := hide hm
    have HW := hide hw
    clear hm hw
    have sz : ¬ (9223372036854775807 : Int) < 1 + (x.size : Int) := by omega
    have sz' : ¬ 9223372036854775807 < 1 + x.size := by omega
    by_cases h0 : 0 < j
    · have j0 : (0 : Int) < (j : Int) := by omega
      have kc := oneByte wr j
      go_wp2_with fail
      obtain ⟨f', rfl⟩ : ∃ f', f = f' + 1 := ⟨f - 1, by omega⟩
      go_roundw
      case rel =>
        refine ⟨j / 10, f', _, ?_, by omega, by go_num, rfl, by rw [HM.out, mtA_more _ h0], HW.out.alloc HW.out.size _⟩
        rw [ByteArray.size_append]
        show 1 + x.size + j / 10 ≤ k
        omega
      case measure => simp [intOf]; omega
    · have j0 : decide ((0 : Int) < (j : Int)) = false := decide_eq_false (by omega)
      go_wp2_with fail
      go_ret
      have hj0 : j = 0 := by omega
      subst hj0
      refine ⟨?_, HW.out⟩
      show Ending.returned (.string (⟨#[109]⟩ ++ x)) = _
      unfold mtT
      rw [HM.out, mtA_zero]
end Vo
end Go.Proofs.Ytcmfglhjlifobaa
