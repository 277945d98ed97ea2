/-
  The contract of first: the word at the beginning of a text.
-/
import Derived.Test.YtfaedjpfbaiojaaProg
import Derived.Test.YtfaedjpfbaiojaaFour
import Derived.WalkKit
import Derived.BigQuiet
import Derived.Deep.QuietTactic
import Derived.Outline
import Derived.Lib.Hide
import Derived.WalkSmall
namespace Go.Proofs.Ytfaedjpfbaiojaa
open Go.RowKit

theorem ret_intF {k : IntKind} {a b : Int} (h : a = b) : Ending.returned (.int k a) = .returned (.int k b) := by rw [h]
theorem getD_at (t : ByteArray) (j : Nat) (h : j < t.size) : t.data.toList.getD j 0 = t[j] := by
  have h' : j < t.data.toList.length := by rw [len_toList]; exact h
  simp [List.getD, List.getElem?_eq_getElem h']
  rfl
set_option maxHeartbeats 1000000 in
theorem first_any (t : ByteArray) (w : World) (ht : t.size ≤ maxLen) (h4 : 4 ≤ t.size) :
    Calls Try.prog 35 #[.string t] w fun e w' => e = .returned (.int .u32 (wAt t.data.toList 0)) ∧ ∃ n, w' = w.drewN n := by
  unfold maxLen at ht
  have i0 : (0 : Int) < t.size := by omega
  have i1 : (1 : Int) < t.size := by omega
  have i2 : (2 : Int) < t.size := by omega
  have i3 : (3 : Int) < t.size := by omega
  have n0 : 0 < t.size := by omega
  have n1 : 1 < t.size := by omega
  have n2 : 2 < t.size := by omega
  have n3 : 3 < t.size := by omega
  have HF : Hid (wAt t.data.toList 0 = fw t[0] t[1] t[2] t[3]) := by
    show wAt t.data.toList 0 = _
    unfold wAt
    rw [← getD_at t 0 n0, ← getD_at t 1 n1, ← getD_at t 2 n2, ← getD_at t 3 n3]
  have HO := Lib.hid (or_four t[0] t[1] t[2] t[3])
  go_enter Try.func35, Try.ntmps35
  go_wp2
  go_quiet (fail)
  go_wp2
  go_ret
  exact ⟨ret_intF (by rw [HF.out]; exact HO.out), _, rfl⟩
end Go.Proofs.Ytfaedjpfbaiojaa
