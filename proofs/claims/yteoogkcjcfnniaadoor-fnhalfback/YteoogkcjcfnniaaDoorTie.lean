/-
  DERIVED. GIVEN WITH THE SEED: THE PROGRAM's TIES (one call each: nine closed facts by the kernel) AND EACH ROW's TIE, after the 31st guide's Derived/Test/Toyas{Tie, Card}.lean. No idea stands in it: it is a product of the set-up. Laid BY PROGRAM, IN A SANDBOX (cutbox-door.mjs). By AI agents, Wed Nov 11 2026. No macro, syntax, notation, axiom, sorry.
-/
import Derived.Test.YteoogkcjcfnniaaDoorRows
import Derived.LaidByTextLater
import Derived.SevenTiedAt
import Derived.LaidSub
import Derived.LaidOnce
namespace Go.Proofs.YteoogkcjcfnniaaDoor
open Go
set_option maxRecDepth 100000
theorem seatTie1 : Tryd.prog.laidByTextLater [("loop.example/g00033/impl.singleFloat", Rows.laid_loop_example_g00033_impl_singleFloat), ("loop.example/g00033/impl.halfFloat", Rows.laid_loop_example_g00033_impl_halfFloat)] [.wider, .wider] true :=
  Program.laidByTextLater_by_one 19 8 3 (by kernel_rfl) (by kernel_rfl) (by kernel_rfl) (by kernel_rfl) (by kernel_rfl) (by kernel_rfl) (fun _ _ => by kernel_rfl)
theorem noOwnUnsafe : Tryd.pinned.checked.prog.headLifts.contains "ownunsafe" = false := by kernel_rfl
theorem tie : Tryd.prog.laidByTextLater [("loop.example/g00033/impl.singleFloat", Rows.laid_loop_example_g00033_impl_singleFloat), ("loop.example/g00033/impl.halfFloat", Rows.laid_loop_example_g00033_impl_halfFloat)] [.wider, .wider] true :=
  Program.laidByTextLater.sub seatTie1 ["loop.example/g00033/impl.singleFloat", "loop.example/g00033/impl.halfFloat"] (by kernel_rfl) (by kernel_rfl)
theorem fnHalfBack_row_tie : Rows.fnHalfBackRow.laidByTextAt .later Tryd.pinned [.wider, .wider] true :=
  OpenClaim.laidByTextAt_later rfl rfl tie noOwnUnsafe
theorem tie2 : Tryd.prog.laidByTextLater [("loop.example/g00033/impl.singleFloat", Rows.laid_loop_example_g00033_impl_singleFloat)] [.wider] true :=
  Program.laidByTextLater.sub seatTie1 ["loop.example/g00033/impl.singleFloat"] (by kernel_rfl) (by kernel_rfl)
theorem fnExactFAdd_row_tie : Rows.fnExactFAddRow.laidByTextAt .later Tryd.pinned [.wider] true :=
  OpenClaim.laidByTextAt_later rfl rfl tie2 noOwnUnsafe
theorem fnExactFMul_row_tie : Rows.fnExactFMulRow.laidByTextAt .later Tryd.pinned [.wider] true :=
  OpenClaim.laidByTextAt_later rfl rfl tie2 noOwnUnsafe
theorem fnExactFDiv_row_tie : Rows.fnExactFDivRow.laidByTextAt .later Tryd.pinned [.wider] true :=
  OpenClaim.laidByTextAt_later rfl rfl tie2 noOwnUnsafe
theorem fnExactFNeg_row_tie : Rows.fnExactFNegRow.laidByTextAt .later Tryd.pinned [.wider] true :=
  OpenClaim.laidByTextAt_later rfl rfl tie2 noOwnUnsafe
theorem fnExactFLess_row_tie : Rows.fnExactFLessRow.laidByTextAt .later Tryd.pinned [.wider] true :=
  OpenClaim.laidByTextAt_later rfl rfl tie2 noOwnUnsafe
theorem fnHalfBackUpto_row_tie : Rows.fnHalfBackUptoRow.laidByTextAt .later Tryd.pinned [.wider, .wider] true :=
  OpenClaim.laidByTextAt_later rfl rfl tie noOwnUnsafe
theorem fnExactFAddUpto_row_tie : Rows.fnExactFAddUptoRow.laidByTextAt .later Tryd.pinned [.wider] true :=
  OpenClaim.laidByTextAt_later rfl rfl tie2 noOwnUnsafe
theorem fnExactFMulUpto_row_tie : Rows.fnExactFMulUptoRow.laidByTextAt .later Tryd.pinned [.wider] true :=
  OpenClaim.laidByTextAt_later rfl rfl tie2 noOwnUnsafe
theorem fnExactFDivUpto_row_tie : Rows.fnExactFDivUptoRow.laidByTextAt .later Tryd.pinned [.wider] true :=
  OpenClaim.laidByTextAt_later rfl rfl tie2 noOwnUnsafe
theorem fnExactFNegUpto_row_tie : Rows.fnExactFNegUptoRow.laidByTextAt .later Tryd.pinned [.wider] true :=
  OpenClaim.laidByTextAt_later rfl rfl tie2 noOwnUnsafe
theorem fnExactFLessUpto_row_tie : Rows.fnExactFLessUptoRow.laidByTextAt .later Tryd.pinned [.wider] true :=
  OpenClaim.laidByTextAt_later rfl rfl tie2 noOwnUnsafe
end Go.Proofs.YteoogkcjcfnniaaDoor
