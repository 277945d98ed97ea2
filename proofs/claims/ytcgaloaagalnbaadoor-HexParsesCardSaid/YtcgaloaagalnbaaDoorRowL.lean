/-
  What the rows' list gives a walk: the two tables of the layer's code, and the powers of ten.
-/
import Derived.Test.YtcgaloaagalnbaaDoorRow
import Derived.Test.YtcgaloaagalnbaaDoorCHexA
namespace Go.Proofs.YtcgaloaagalnbaaDoor
open Go.ChangeShapes Go.WideShapes Go.ChangeAt Go.RowKit

theorem gPowType : (Tryd.prog.globals[3]?).map (·.type) = some 66 := by kernel_rfl
theorem cells64 : Tryd.prog.cellsOf 55 = 1 := by kernel_rfl
theorem cells20 : Tryd.prog.cellsOf 66 = 20 := by kernel_rfl
theorem gDigType : (Tryd.prog.globals[0]?).map (·.type) = some 50 := by kernel_rfl
theorem gValType : (Tryd.prog.globals[1]?).map (·.type) = some 53 := by kernel_rfl
theorem cells8 : Tryd.prog.cellsOf 5 = 1 := by kernel_rfl
theorem cells16 : Tryd.prog.cellsOf 50 = 16 := by kernel_rfl
theorem cells103 : Tryd.prog.cellsOf 53 = 103 := by kernel_rfl
theorem hexOk_of {W : World} (hL : laidMetH Tryd.prog laidList W) : HexOk W := by
  have h0 : laidMet Tryd.prog (("math/bits.deBruijn32tab", Rows.laid_math_bits_deBruijn32tab) :: ("math/bits.deBruijn64tab", Rows.laid_math_bits_deBruijn64tab) :: ("internal/strconv.uint64pow10", Lib.tabData .u64 Lib.pow10Tab) :: ("seedcorn/hex.digits", Lib.tabData .u8 digTab) :: ("seedcorn/hex.values", Lib.tabData .u8 valTab) :: []) W := hL
  have h2 := h0.tail.tail
  exact ⟨Lib.tabIs_of_head gDig gDigType Tryd.underlying50 Tryd.underlying5 cells8 cells16 h2.tail,
    Lib.tabIs_of_head gVal gValType Tryd.underlying53 Tryd.underlying5 cells8 cells103 h2.tail.tail,
    Lib.tabIs_of_head gPow gPowType Tryd.underlying66 Tryd.underlying55 cells64 cells20 h2⟩
end Go.Proofs.YtcgaloaagalnbaaDoor
