/- What the row of ReadNum lists: the table of powers of ten, the library's two errors. -/
import Derived.Test.YthconcaoldpbnaaDoorLaid
import Derived.Test.YthconcaoldpbnaaDoorRead2
namespace Go.Proofs.YthconcaoldpbnaaDoor
namespace Base
open Go.ChangeShapes Go.WideShapes Go.ChangeAt Go.RowKit

theorem star : "*" ++ "errors.errorString" = "*errors.errorString" := by decide
theorem rowE (u : TypeId) (h : Tryd.prog.typeName? 3 u = some "*errors.errorString") : u = 101 :=
  typeName_ptr_named (nm := "errors.errorString") (by rw [star]; kernel_rfl) (by kernel_rfl) (by decide) u (by rw [star]; exact h)
theorem err_at {n : String} {g : Nat} {text : List UInt8} {r : List (String × DataW Unit)} {W : World} (hg : Tryd.prog.globalNamed n = some g) (ht : (Tryd.prog.globals[g]?).map (·.type) = some 61)
    (h : laidMet Tryd.prog ((n, .iface "*errors.errorString" (.ptr (.agg [.lit (.string text)]))) :: r) W) : Err n W := by
  obtain ⟨a, s, hv, _⟩ := laid_sentinel h hg ht Tryd.underlying61 rowE Tryd.underlying101 Tryd.underlying103 rfl rfl Tryd.underlying9 (by kernel_rfl) (by kernel_rfl)
  exact ⟨_, _, hv⟩


theorem fractions_vars {W : World} (h : laidMetH Tryd.prog Rows.fnFractionsRow.laid W) : Vars W := by
  rw [MakeChecks.laidMetH_plain _ _ _ (by kernel_rfl)] at h
  exact ⟨pows_at h.tail.tail, err_at syn_g (by kernel_rfl) h.tail.tail.tail.tail, err_at ran_g (by kernel_rfl) h.tail.tail.tail⟩

end Base
end Go.Proofs.YthconcaoldpbnaaDoor
