/-
  What all the cards of this seat share: the world in which the listed variables hold what the program's text lays, and what the list gives of the table and of the two sentinels.
-/
import Derived.Test.YtefgaboalbaapaaDoorCards
import Derived.Test.YtefgaboalbaapaaDoorTie
import Derived.WalkKit
import Derived.ProofKit
import Derived.OpenShut
import Derived.Deep.DeepHandedRow
import Derived.Lib.LaidTab
import Derived.Stop.LaidErr
namespace Go.Proofs.YtefgaboalbaapaaDoor
open Go.ChangeShapes Go.WideShapes Go.ChangeAt Go.RowKit

theorem own : ownKnob Tryd.prog.godebug = none := by kernel_rfl
/-- The cells of a table, off what the row lists. -/
noncomputable def cellsOfData : DataW Unit → Array Value
  | .agg l => (l.map fun | .lit (.int k z) => Value.int k z | _ => undef).toArray
  | _ => #[]
noncomputable def low : Nat := (World.holding Tryd.prog default ⟨#[], #[], []⟩).heap.size
noncomputable def setAt (w : World) (g : Nat) (cs : Array Value) : World :=
  { w with heap := w.heap.modify g fun
      | .cells _ t frozen => .cells cs t frozen
      | o => o }
/-- The settled world with two blocks more, each an errors.errorString; the listed variables hold what their initialisers lay. -/
noncomputable def laidWorld (os : Os) : World :=
  let w0 := World.holding Tryd.prog os ⟨#[.cells #[.string ⟨#[105, 110, 118, 97, 108, 105, 100, 32, 115, 121, 110, 116, 97, 120]⟩] 91, .cells #[.string ⟨#[118, 97, 108, 117, 101, 32, 111, 117, 116, 32, 111, 102, 32, 114, 97, 110, 103, 101]⟩] 91], #[], []⟩
  let w1 := setAt w0 1 #[.iface 89 (.pointer (some ⟨low, 0, none⟩))]
  let w2 := setAt w1 2 #[.iface 89 (.pointer (some ⟨low + 1, 0, none⟩))]
  let w3 := setAt w2 3 (cellsOfData Rows.laid_internal_strconv_uint64pow10)
  let w4 := setAt w3 4 (cellsOfData Rows.laid_math_bits_deBruijn32tab)
  setAt w4 5 (cellsOfData Rows.laid_math_bits_deBruijn64tab)
/-- The list of this seat's rows. -/
noncomputable abbrev laidList : List (String × DataW Unit) := Rows.wordOrderRow.laid
set_option maxRecDepth 100000 in
theorem laid_met (os : Os) (args : Array Value) : laidMet Tryd.prog laidList ((laidWorld os).forCall (fun _ _ => 0) ⟨#[], args, []⟩).memory :=
  laidMet_of_run' 8 (by kernel_rfl) (by kernel_rfl)
theorem looks_on : true = Tryd.pinned.checked.prog.looks [] := by kernel_rfl
theorem stand_uint32 : Tryd.pinned.checked.prog.wantsStandIn 22 = false := by kernel_rfl
theorem stand_uint8 : Tryd.pinned.checked.prog.wantsStandIn 5 = false := by kernel_rfl
theorem stand_int : Tryd.pinned.checked.prog.wantsStandIn 3 = false := by kernel_rfl
theorem stand_string : Tryd.pinned.checked.prog.wantsStandIn 9 = false := by kernel_rfl
theorem stand_words : Tryd.pinned.checked.prog.wantsStandIn 30 = false := by kernel_rfl

theorem wf_u32 {n : Int} (h : (Lit.int .u32 n).wf = true) : 0 ≤ n ∧ n < 4294967296 := by
  simp [Lit.wf, IntKind.min, IntKind.max, IntKind.signed, IntKind.bits] at h
  omega
theorem wf_u8 {n : Int} (h : (Lit.int .u8 n).wf = true) : 0 ≤ n ∧ n < 256 := by
  simp [Lit.wf, IntKind.min, IntKind.max, IntKind.signed, IntKind.bits] at h
  omega
theorem wf_i64 {n : Int} (h : (Lit.int .i64 n).wf = true) : -9223372036854775808 ≤ n ∧ n ≤ 9223372036854775807 := by
  simp [Lit.wf, IntKind.min, IntKind.max, IntKind.signed, IntKind.bits] at h
  omega
end Go.Proofs.YtefgaboalbaapaaDoor
