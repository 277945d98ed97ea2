/-
  What the rows' list gives a walk: the two tables of the layer below, and the table of places.
-/
import Derived.Test.YtepcpjppogcjbaaDoorRow
import Derived.Test.YtepcpjppogcjbaaDoorDgF
namespace Go.Proofs.YtepcpjppogcjbaaDoor
open Go.ChangeShapes Go.WideShapes Go.ChangeAt Go.RowKit

theorem gDigType : (Tryd.prog.globals[1]?).map (·.type) = some 76 := by kernel_rfl
theorem gValType : (Tryd.prog.globals[2]?).map (·.type) = some 77 := by kernel_rfl
theorem gTrnType : (Tryd.prog.globals[0]?).map (·.type) = some 42 := by kernel_rfl
theorem cells8 : Tryd.prog.cellsOf 5 = 1 := by kernel_rfl
theorem cells16 : Tryd.prog.cellsOf 76 = 16 := by kernel_rfl
theorem cells103 : Tryd.prog.cellsOf 77 = 103 := by kernel_rfl
theorem cellsI : Tryd.prog.cellsOf 3 = 1 := by kernel_rfl
theorem cells4 : Tryd.prog.cellsOf 42 = 4 := by kernel_rfl
theorem dgOk_of {W : World} (hL : laidMetH Tryd.prog laidList W) : DgOk W := by
  have h0 : laidMet Tryd.prog (("seedcorn/hex.digits", Lib.tabData .u8 digTab) :: ("seedcorn/hex.values", Lib.tabData .u8 valTab) :: ("seedcorn/digest.turns", Lib.tabData .i64 trnTab) :: []) W := hL
  exact ⟨Lib.tabIs_of_head gTrn gTrnType Tryd.underlying42 Tryd.underlying3 cellsI cells4 h0.tail.tail,
    Lib.tabIs_of_head gDig gDigType Tryd.underlying76 Tryd.underlying5 cells8 cells16 h0,
    Lib.tabIs_of_head gVal gValType Tryd.underlying77 Tryd.underlying5 cells8 cells103 h0.tail⟩
end Go.Proofs.YtepcpjppogcjbaaDoor
