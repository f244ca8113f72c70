/- What the rows' listed variables give the walks: the library's table of powers of ten. -/
import Derived.Test.YtjibidbnkchpdaaDoorShow
import Derived.Stop.LaidErr
import Derived.Stop.Joined
import Derived.LaidByTextLater
namespace Go.Proofs.YtjibidbnkchpdaaDoor
namespace Base
open Go.ChangeShapes Go.WideShapes Go.ChangeAt Go.RowKit

theorem pows_datum : (Rows.laid_internal_strconv_uint64pow10 : DataW Unit) = Lib.tabData .u64 Lib.pow10Tab := by kernel_rfl
theorem pows_type : (Tryd.prog.globals[0]?).map (·.type) = some 76 := by kernel_rfl
theorem pows_at {r : List (String × DataW Unit)} {W : World} (h : laidMet Tryd.prog (("internal/strconv.uint64pow10", Rows.laid_internal_strconv_uint64pow10) :: r) W) : Pows W := by
  rw [pows_datum] at h
  exact Lib.tabIs_of_head pows_g pows_type Tryd.underlying76 Tryd.underlying70 (by kernel_rfl) (by kernel_rfl) h


theorem showTensor_pows {W : World} (h : laidMetH Tryd.prog Rows.fnExactShowTensorRow.laid W) : Pows W := by
  rw [MakeChecks.laidMetH_plain _ _ _ (by kernel_rfl)] at h
  exact pows_at h.tail.tail

end Base
end Go.Proofs.YtjibidbnkchpdaaDoor
