/-
  The contracts of RotateLeft32 and Turn.
-/
import Derived.Test.YtepcpjppogcjbaaDoorProg
import Derived.Test.YtepcpjppogcjbaaDoorRot
import Derived.WalkKit
import Derived.BigQuiet
import Derived.Lib.Hide
namespace Go.Proofs.YtepcpjppogcjbaaDoor
open Go.RowKit

theorem ret_int {k : IntKind} {a b : Int} (h : a = b) : Ending.returned (.int k a) = .returned (.int k b) := by rw [h]
theorem rotl_any (a n : Int) (w : World) (ha : 0 ≤ a) (ha' : a < 4294967296) :
    Calls Tryd.prog 41 #[.int .u32 a, .int .i64 n] w fun e w' => e = .returned (.int .u32 (rotI a n)) ∧ w = w' := by
  obtain ⟨k, hk⟩ : ∃ k : Int, k = n % 32 := ⟨_, rfl⟩
  have hm := mask31 n
  rw [← hk] at hm
  have h0 : 0 ≤ k := by omega
  have h1 : k ≤ 31 := by omega
  have HR := Lib.hid (join_rot' a k ha ha' h0 h1)
  have HK := Lib.hid hk
  clear hk
  go_enter Tryd.func41, Tryd.ntmps41
  go_wp2
  go_ret
  exact ⟨ret_int (by rw [HR.out, HK.out]; rfl), rfl⟩
theorem turn_any (a n : Int) (w : World) (ha : 0 ≤ a) (ha' : a < 4294967296) :
    Calls Tryd.prog 25 #[.int .u32 a, .int .i64 n] w fun e w' => e = .returned (.int .u32 (rotI a n)) ∧ w = w' := by
  go_enter Tryd.func25, Tryd.ntmps25
  go_wp2_with (go_at_call 41; refine (rotl_any a n _ ha ha').mono ?_; rintro e w' ⟨rfl, rfl⟩)
  go_ret
  exact ⟨rfl, rfl⟩
end Go.Proofs.YtepcpjppogcjbaaDoor
