/- For the law of ReadTensor: what the row lists; one answer. -/
import Derived.Test.YtbbmbgjjhaajjaaGreatDoorKf
import Derived.Test.YtbbmbgjjhaajjaaGreatDoorLaid2
import Derived.Lib.LaidU8
namespace Go.Proofs.YtbbmbgjjhaajjaaGreatDoor
namespace Vo
open Go.ChangeShapes Go.WideShapes Go.ChangeAt Go.RowKit
open Vl Vp Txt
set_option linter.unusedVariables false
theorem rd_one {l : List UInt8} {r s r' s' : Nat} {D S D' S' : Nat → Int} {b b' : Bool} (h : (b = true ∧ TR l r s D S) ∨ (b = false ∧ (⟨r, s, D, S⟩ : PT) = PT.zero ∧ ∀ r s D S, ¬ TR l r s D S)) (h' : (b' = true ∧ TR l r' s' D' S') ∨ (b' = false ∧ (⟨r', s', D', S'⟩ : PT) = PT.zero ∧ ∀ r s D S, ¬ TR l r s D S)) :
    b = b' ∧ r = r' ∧ s = s' ∧ (∀ k, k < r → D k = D' k) ∧ (∀ k, k < s → S k = S' k) := by
  rcases h with ⟨rfl, t⟩ | ⟨rfl, e, t⟩ <;> rcases h' with ⟨rfl, t'⟩ | ⟨rfl, e', t'⟩
  · exact ⟨rfl, t.one t'⟩
  · exact absurd t (t' _ _ _ _)
  · exact absurd t' (t _ _ _ _)
  · cases e
    cases e'
    exact ⟨rfl, rfl, rfl, fun _ _ => rfl, fun _ _ => rfl⟩
theorem rd_le {l : List UInt8} {r s : Nat} {D S : Nat → Int} {b : Bool} (h : (b = true ∧ TR l r s D S) ∨ (b = false ∧ (⟨r, s, D, S⟩ : PT) = PT.zero ∧ ∀ r s D S, ¬ TR l r s D S)) : (r : Int) ≤ 6 ∧ (s : Int) ≤ 4096 := by
  rcases h with ⟨_, t⟩ | ⟨_, e, _⟩
  · obtain ⟨hd, hs, _⟩ := tok_three t.1
    have := (dok_iff.1 hd).1
    have := szR_le hd
    omega
  · cases e
    omega
theorem sp_datum : (Rows.laid_strings_asciiSpace : DataW Unit) = Lib.tabData .u8 Lib.asciiSpaceTab := by kernel_rfl
theorem sp_type : (Tryz.prog.globals[0]?).map (·.type) = some 84 := by kernel_rfl
theorem sp_at {r : List (String × DataW Unit)} {W : World} (h : laidMet Tryz.prog (("strings.asciiSpace", Rows.laid_strings_asciiSpace) :: r) W) : Lib.TabIs Tryz.prog W "strings.asciiSpace" .u8 Lib.asciiSpaceTab := by
  rw [sp_datum] at h
  exact Lib.tabIs_of_head sp_g sp_type Tryz.underlying84 Tryz.underlying5 (by kernel_rfl) (by kernel_rfl) h
theorem wh_datum : (Rows.laid_unicode_White_Space : DataW Unit) = Lib.whiteData := by kernel_rfl
theorem wh_extra : WhiteExtra Tryz.prog Tryz.lays199_ren := ⟨by kernel_rfl, by kernel_rfl, by kernel_rfl, by kernel_rfl, by kernel_rfl, by kernel_rfl, by kernel_rfl, by kernel_rfl⟩
theorem wh_at {l : List (String × DataW Unit)} {W : World} (h : laidMet Tryz.prog l W) (hm : ("unicode.White_Space", (Rows.laid_unicode_White_Space : DataW Unit)) ∈ l) : Lib.WhiteTab 1 W := by
  rw [wh_datum] at hm
  exact whiteTab_of_reads Tryz.lays199 wh_extra (Lib.laidMet.reads h hm)
theorem readTensor_vars {W : World} (h : laidMetH Tryz.prog Rows.fnExactReadTensorRow.laid W) : TVars W := by
  rw [MakeChecks.laidMetH_plain _ _ _ (by kernel_rfl)] at h
  exact ⟨⟨Base.pows_at h.tail.tail, Base.err_at Base.syn_g (by kernel_rfl) h.tail.tail.tail.tail, Base.err_at Base.ran_g (by kernel_rfl) h.tail.tail.tail⟩, sp_at h.tail.tail.tail.tail.tail.tail, wh_at h (by simp [Rows.fnExactReadTensorRow])⟩
end Vo
end Go.Proofs.YtbbmbgjjhaajjaaGreatDoor
