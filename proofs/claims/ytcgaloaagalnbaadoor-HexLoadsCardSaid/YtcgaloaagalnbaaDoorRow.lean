/-
  What all the cards of this seat share: the world in which the listed variables hold what the program's text lays.
-/
import Derived.Test.YtcgaloaagalnbaaDoorCards
import Derived.Test.YtcgaloaagalnbaaDoorTie
import Derived.WalkKit
import Derived.ProofKit
import Derived.OpenShut
import Derived.Deep.DeepHandedRow
import Derived.Lib.LaidTab
import Derived.Stop.LaidErr
namespace Go.Proofs.YtcgaloaagalnbaaDoor
open Go.ChangeShapes Go.WideShapes Go.ChangeAt Go.RowKit

theorem own : ownKnob Tryd.prog.godebug = none := by kernel_rfl
/-- The cells of a table, off what the row lists. -/
noncomputable def cellsOfData : DataW Unit → Array Value
  | .agg l => (l.map fun | .lit (.int k z) => Value.int k z | _ => undef).toArray
  | _ => #[]
noncomputable def setAt (w : World) (g : Nat) (cs : Array Value) : World :=
  { w with heap := w.heap.modify g fun
      | .cells _ t frozen => .cells cs t frozen
      | o => o }
/-- The settled world; the listed variables hold what their initialisers lay. -/
noncomputable def laidWorld (os : Os) : World :=
  let w0 := World.holding Tryd.prog os ⟨#[], #[], []⟩
  let w1 := setAt w0 0 (cellsOfData Rows.laid_seedcorn_hex_digits)
  let w2 := setAt w1 1 (cellsOfData Rows.laid_seedcorn_hex_values)
  let w3 := setAt w2 3 (cellsOfData Rows.laid_internal_strconv_uint64pow10)
  let w4 := setAt w3 4 (cellsOfData Rows.laid_math_bits_deBruijn32tab)
  setAt w4 5 (cellsOfData Rows.laid_math_bits_deBruijn64tab)
/-- The list of this seat's rows. -/
noncomputable abbrev laidList : List (String × DataW Unit) := Rows.hexTextsRow.laid
set_option maxRecDepth 100000 in
theorem laid_met (os : Os) (args : Array Value) : laidMet Tryd.prog laidList ((laidWorld os).forCall (fun _ _ => 0) ⟨#[], args, []⟩).memory :=
  laidMet_of_run' 8 (by kernel_rfl) (by kernel_rfl)
theorem looks_on : false = Tryd.pinned.checked.prog.looks [] := by kernel_rfl
theorem stand_string : Tryd.pinned.checked.prog.wantsStandIn 9 = false := by kernel_rfl
end Go.Proofs.YtcgaloaagalnbaaDoor
