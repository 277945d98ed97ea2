/-
  What the rows' list gives a walk: the table of powers of ten, and the sentinel of strconv.
-/
import Derived.Test.YtefgaboalbaapaaDoorRow
import Derived.Test.YtefgaboalbaapaaDoorLawE
namespace Go.Proofs.YtefgaboalbaapaaDoor
open Go.ChangeShapes Go.WideShapes Go.ChangeAt Go.RowKit

theorem gPow : Tryd.prog.globalNamed "internal/strconv.uint64pow10" = some 3 := by kernel_rfl
theorem gPowType : (Tryd.prog.globals[3]?).map (·.type) = some 85 := by kernel_rfl
theorem cells64 : Tryd.prog.cellsOf 41 = 1 := by kernel_rfl
theorem cells20 : Tryd.prog.cellsOf 85 = 20 := by kernel_rfl
theorem gErr : Tryd.prog.globalNamed "strconv.ErrRange" = some 2 := by kernel_rfl
theorem gErrType : (Tryd.prog.globals[2]?).map (·.type) = some 51 := by kernel_rfl
theorem cellsErr : Tryd.prog.cellsOf 91 = 1 := by kernel_rfl
theorem cellsStr : Tryd.prog.cellsOf 9 = 1 := by kernel_rfl
theorem starName : "*" ++ "errors.errorString" = "*errors.errorString" := by decide
theorem rowErr (u : TypeId) (h : Tryd.prog.typeName? 3 u = some "*errors.errorString") : u = 89 :=
  typeName_ptr_named (nm := "errors.errorString") (by rw [starName]; kernel_rfl) (by kernel_rfl) (by decide) u (by rw [starName]; exact h)
theorem libVars_of {W : World} (hL : laidMetH Tryd.prog laidList W) : LibVars W := by
  have h0 : laidMet Tryd.prog (("math/bits.deBruijn32tab", Rows.laid_math_bits_deBruijn32tab) :: ("math/bits.deBruijn64tab", Rows.laid_math_bits_deBruijn64tab) :: ("internal/strconv.uint64pow10", Lib.tabData .u64 Lib.pow10Tab) :: ("strconv.ErrRange", Rows.laid_strconv_ErrRange) :: ("strconv.ErrSyntax", Rows.laid_strconv_ErrSyntax) :: []) W := hL
  have h2 := h0.tail.tail
  obtain ⟨a0, s0, hv0, -, -, -⟩ := laid_sentinel h2.tail gErr gErrType Tryd.underlying51 rowErr Tryd.underlying89 Tryd.underlying91 rfl rfl Tryd.underlying9 cellsErr cellsStr
  exact ⟨Lib.tabIs_of_head gPow gPowType Tryd.underlying85 Tryd.underlying41 cells64 cells20 h2, _, _, by have h0 := World.var?_cell gErr hv0 0; simpa using h0⟩
end Go.Proofs.YtefgaboalbaapaaDoor
