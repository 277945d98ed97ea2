/-
  The contracts of the document's own layer 2: a digit, a sign.
-/
import Derived.Test.YtepcpjppogcjbaaDoorProg
import Derived.Test.YtepcpjppogcjbaaDoorHexP
import Derived.WalkKit
import Derived.BigQuiet
import Derived.Deep.QuietTactic
import Derived.Lib.Hide
import Derived.OwnWalk
import Derived.WalkSmall
import Derived.Laws.IdiomStrings
import Derived.Outline
namespace Go.Proofs.YtepcpjppogcjbaaDoor
open Go.RowKit

/-- What Digit answers. -/
def dI (c : UInt8) : Int := if dgt c = 16 then -1 else (dgt c : Int)
theorem dI_09 (c : UInt8) (h : 48 ≤ c.toNat) (h' : c.toNat ≤ 57) : dI c = (c.toNat : Int) - 48 := by
  have e : dgt c = c.toNat - 48 := by unfold dgt; rw [if_pos ⟨h, h'⟩]
  unfold dI; rw [e, if_neg (by omega)]; omega
theorem dI_af (c : UInt8) (h : 97 ≤ c.toNat) (h' : c.toNat ≤ 102) : dI c = (c.toNat : Int) - 87 := by
  have e : dgt c = c.toNat - 87 := by unfold dgt; rw [if_neg (by omega), if_pos ⟨h, h'⟩]
  unfold dI; rw [e, if_neg (by omega)]; omega
theorem dI_AF (c : UInt8) (h : 65 ≤ c.toNat) (h' : c.toNat ≤ 70) : dI c = (c.toNat : Int) - 55 := by
  have e : dgt c = c.toNat - 55 := by unfold dgt; rw [if_neg (by omega), if_neg (by omega), if_pos ⟨h, h'⟩]
  unfold dI; rw [e, if_neg (by omega)]; omega
theorem dI_no (c : UInt8) (h : c.toNat < 48 ∨ (57 < c.toNat ∧ c.toNat < 65) ∨ (70 < c.toNat ∧ c.toNat < 97) ∨ 102 < c.toNat) : dI c = -1 := by
  have e : dgt c = 16 := by unfold dgt; rw [if_neg (by omega), if_neg (by omega), if_neg (by omega)]
  unfold dI; rw [if_pos e]
theorem ret_intH {k : IntKind} {a b : Int} (h : a = b) : Ending.returned (.int k a) = .returned (.int k b) := by rw [h]

section
variable (v : Int) (w : World)
theorem digit_09 (_h : 48 ≤ v) (_h' : v ≤ 57) : Calls Tryd.prog 53 #[.int .u8 v] w fun e w' => e = .returned (.int .i64 (v - 48)) ∧ w = w' := by
  go_enter Tryd.func53, Tryd.ntmps53
  go_wp2
  go_ret
  exact ⟨rfl, rfl⟩
theorem digit_af (_h : 97 ≤ v) (_h' : v ≤ 102) : Calls Tryd.prog 53 #[.int .u8 v] w fun e w' => e = .returned (.int .i64 (v - 87)) ∧ w = w' := by
  go_enter Tryd.func53, Tryd.ntmps53
  go_wp2
  go_ret
  exact ⟨ret_intH (by omega), rfl⟩
theorem digit_AF (_h : 65 ≤ v) (_h' : v ≤ 70) : Calls Tryd.prog 53 #[.int .u8 v] w fun e w' => e = .returned (.int .i64 (v - 55)) ∧ w = w' := by
  go_enter Tryd.func53, Tryd.ntmps53
  go_wp2
  go_ret
  exact ⟨ret_intH (by omega), rfl⟩
theorem digit_n1 (_h : v < 48) : Calls Tryd.prog 53 #[.int .u8 v] w fun e w' => e = .returned (.int .i64 (-1)) ∧ w = w' := by
  go_enter Tryd.func53, Tryd.ntmps53
  go_wp2
  go_ret
  exact ⟨rfl, rfl⟩
theorem digit_n2 (_h : 57 < v) (_h' : v < 65) : Calls Tryd.prog 53 #[.int .u8 v] w fun e w' => e = .returned (.int .i64 (-1)) ∧ w = w' := by
  go_enter Tryd.func53, Tryd.ntmps53
  go_wp2
  go_ret
  exact ⟨rfl, rfl⟩
theorem digit_n3 (_h : 70 < v) (_h' : v < 97) : Calls Tryd.prog 53 #[.int .u8 v] w fun e w' => e = .returned (.int .i64 (-1)) ∧ w = w' := by
  go_enter Tryd.func53, Tryd.ntmps53
  go_wp2
  go_ret
  exact ⟨rfl, rfl⟩
theorem digit_n4 (_h : 102 < v) : Calls Tryd.prog 53 #[.int .u8 v] w fun e w' => e = .returned (.int .i64 (-1)) ∧ w = w' := by
  go_enter Tryd.func53, Tryd.ntmps53
  go_wp2
  go_ret
  exact ⟨rfl, rfl⟩
end
theorem digit_any (c : UInt8) (w : World) : Calls Tryd.prog 53 #[.int .u8 (c.toNat : Int)] w fun e w' => e = .returned (.int .i64 (dI c)) ∧ w = w' := by
  by_cases h1 : c.toNat < 48
  · rw [dI_no c (Or.inl h1)]; exact digit_n1 _ w (by omega)
  by_cases h2 : c.toNat ≤ 57
  · rw [dI_09 c (by omega) h2]; exact digit_09 _ w (by omega) (by omega)
  by_cases h3 : c.toNat < 65
  · rw [dI_no c (by omega)]; exact digit_n2 _ w (by omega) (by omega)
  by_cases h4 : c.toNat ≤ 70
  · rw [dI_AF c (by omega) h4]; exact digit_AF _ w (by omega) (by omega)
  by_cases h5 : c.toNat < 97
  · rw [dI_no c (by omega)]; exact digit_n3 _ w (by omega) (by omega)
  by_cases h6 : c.toNat ≤ 102
  · rw [dI_af c (by omega) h6]; exact digit_af _ w (by omega) (by omega)
  · rw [dI_no c (by omega)]; exact digit_n4 _ w (by omega)

theorem sign_lo (n : Int) (w : World) (_h : 0 ≤ n) (_h' : n < 10) : Calls Tryd.prog 52 #[.int .i64 n] w fun e w' => e = .returned (.int .u8 (48 + n)) ∧ w = w' := by
  go_enter Tryd.func52, Tryd.ntmps52
  go_wp2
  go_ret
  exact ⟨ret_intH (by omega), rfl⟩
theorem sign_hi (n : Int) (w : World) (_h : 10 ≤ n) (_h' : n < 16) : Calls Tryd.prog 52 #[.int .i64 n] w fun e w' => e = .returned (.int .u8 (87 + n)) ∧ w = w' := by
  go_enter Tryd.func52, Tryd.ntmps52
  go_wp2
  go_ret
  exact ⟨ret_intH (by omega), rfl⟩
/-- A digit's sign. -/
theorem sign_any (n : Int) (w : World) (h : 0 ≤ n) (h' : n < 16) : Calls Tryd.prog 52 #[.int .i64 n] w fun e w' => e = .returned (.int .u8 ((sgn n.toNat).toNat : Int)) ∧ w = w' := by
  have e := sgn_val n.toNat (by omega)
  by_cases q : n < 10
  · rw [if_pos (by omega)] at e
    rw [e, show ((48 + n.toNat : Nat) : Int) = 48 + n by omega]
    exact sign_lo n w h q
  · rw [if_neg (by omega)] at e
    rw [e, show ((87 + n.toNat : Nat) : Int) = 87 + n by omega]
    exact sign_hi n w (by omega) h'
end Go.Proofs.YtepcpjppogcjbaaDoor
