/- What the rows' listed variables give the walks: the library's table of powers of ten. -/
import Derived.Test.YtbbmbgjjhaajjaaGreatDoorShow
import Derived.Stop.LaidErr
import Derived.Stop.Joined
import Derived.LaidByTextLater
namespace Go.Proofs.YtbbmbgjjhaajjaaGreatDoor
namespace Base
open Go.ChangeShapes Go.WideShapes Go.ChangeAt Go.RowKit

theorem pows_datum : (Rows.laid_internal_strconv_uint64pow10 : DataW Unit) = Lib.tabData .u64 Lib.pow10Tab := by kernel_rfl
theorem pows_type : (Tryz.prog.globals[5]?).map (·.type) = some 150 := by kernel_rfl
theorem pows_at {r : List (String × DataW Unit)} {W : World} (h : laidMet Tryz.prog (("internal/strconv.uint64pow10", Rows.laid_internal_strconv_uint64pow10) :: r) W) : Pows W := by
  rw [pows_datum] at h
  exact Lib.tabIs_of_head pows_g pows_type Tryz.underlying150 Tryz.underlying132 (by kernel_rfl) (by kernel_rfl) h



end Base
end Go.Proofs.YtbbmbgjjhaajjaaGreatDoor
