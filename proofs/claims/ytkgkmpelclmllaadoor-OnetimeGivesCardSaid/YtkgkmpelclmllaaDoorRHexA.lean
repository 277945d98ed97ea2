/-
  The contracts of the document's own layer 2: a sign.
-/
import Derived.Test.YtkgkmpelclmllaaDoorProg
import Derived.Test.YtkgkmpelclmllaaDoorHexP
import Derived.WalkKit
import Derived.BigQuiet
import Derived.Deep.QuietTactic
import Derived.Lib.Hide
import Derived.OwnWalk
import Derived.WalkSmall
import Derived.Laws.IdiomStrings
import Derived.Outline
namespace Go.Proofs.YtkgkmpelclmllaaDoor
open Go.RowKit

theorem ret_intH {k : IntKind} {a b : Int} (h : a = b) : Ending.returned (.int k a) = .returned (.int k b) := by rw [h]

theorem sign_lo (n : Int) (w : World) (_h : 0 ≤ n) (_h' : n < 10) : Calls Tryd.prog 38 #[.int .i64 n] w fun e w' => e = .returned (.int .u8 (48 + n)) ∧ w = w' := by
  go_enter Tryd.func38, Tryd.ntmps38
  go_wp2
  go_ret
  exact ⟨ret_intH (by omega), rfl⟩
theorem sign_hi (n : Int) (w : World) (_h : 10 ≤ n) (_h' : n < 16) : Calls Tryd.prog 38 #[.int .i64 n] w fun e w' => e = .returned (.int .u8 (87 + n)) ∧ w = w' := by
  go_enter Tryd.func38, Tryd.ntmps38
  go_wp2
  go_ret
  exact ⟨ret_intH (by omega), rfl⟩
/-- A digit's sign. -/
theorem sign_any (n : Int) (w : World) (h : 0 ≤ n) (h' : n < 16) : Calls Tryd.prog 38 #[.int .i64 n] w fun e w' => e = .returned (.int .u8 ((sgn n.toNat).toNat : Int)) ∧ w = w' := by
  have e := sgn_val n.toNat (by omega)
  by_cases q : n < 10
  · rw [if_pos (by omega)] at e
    rw [e, show ((48 + n.toNat : Nat) : Int) = 48 + n by omega]
    exact sign_lo n w h q
  · rw [if_neg (by omega)] at e
    rw [e, show ((87 + n.toNat : Nat) : Int) = 87 + n by omega]
    exact sign_hi n w (by omega) h'
end Go.Proofs.YtkgkmpelclmllaaDoor
