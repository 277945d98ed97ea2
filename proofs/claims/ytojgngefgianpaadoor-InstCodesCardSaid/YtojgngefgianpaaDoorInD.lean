/-
  The document's Op: the operation of a name.
-/
import Derived.Test.YtojgngefgianpaaDoorInC
namespace Go.Proofs.YtojgngefgianpaaDoor
open Go.RowKit

/-- The first of n operations from k on that has the name. -/
def opGo (s : ByteArray) : Nat → Nat → Int
  | 0, _ => 0
  | n + 1, k => if (nameB (k : Int)).toList == s.toList then (k : Int) else opGo s n (k + 1)
def opOf (s : ByteArray) : Int := opGo s 27 1
theorem opGo_next (s : ByteArray) (k : Nat) (h : k ≤ 27) : opGo s (28 - k) k = if (nameB (k : Int)).toList == s.toList then (k : Int) else opGo s (28 - (k + 1)) (k + 1) := by
  rw [show 28 - k = (28 - (k + 1)) + 1 by omega]; rfl
set_option maxHeartbeats 4000000 in
set_option maxRecDepth 100000 in
theorem rop_any (s : ByteArray) (w : World) : Calls Tryd.prog 21 #[.string s] w fun e w' => e = .returned (.int .i64 (opOf s)) ∧ w = w' := by
  go_enter Tryd.func21, Tryd.ntmps21
  go_wp2
  go_loopw [3] (fun i wr => ∃ k : Nat, k ≤ 28 ∧ i = .int .i64 (k : Int) ∧ 1 ≤ k ∧ Hid (opOf s = opGo s (28 - k) k) ∧ w = wr) (fun i _ => 28 - (intOf i).toNat)
  case atStart => exact ⟨1, by omega, rfl, by omega, rfl, rfl⟩
  case round =>
    obtain ⟨k, hk, rfl, hk1, HK, rfl⟩ := hrel
    by_cases hlt : k ≤ 27
    · have hkd : decide ((k : Int) ≤ 27) = true := by simp; omega
      have HN := Lib.hid (opGo_next s k hlt)
      go_wp2_with fail
      refine (rname_any (k : Int) w).mono ?_
      rintro e w1 ⟨rfl, rfl⟩
      cases hq : ((nameB (k : Int)).toList == s.toList)
      · have HQ := Lib.hid hq
        go_wp2
        go_roundw
        case rel => exact ⟨k + 1, by omega, by go_num, by omega, by show _ = _; rw [HK.out, HN.out, HQ.out]; rfl, by first | rfl | trivial⟩
        case measure => simp [intOf]; omega
      · have HQ := Lib.hid hq
        go_wp2
        go_ret
        exact ⟨by rw [HK.out, HN.out, HQ.out]; rfl, by first | rfl | trivial⟩
    · have hkd : decide ((k : Int) ≤ 27) = false := by simp; omega
      have hk28 : k = 28 := by omega
      subst hk28
      have HZ : Hid (opOf s = 0) := by show _ = _; rw [HK.out]; rfl
      go_wp2
      go_ret
      exact ⟨by rw [HZ.out]; rfl, rfl⟩
/-- Names are read back. -/
theorem opOf_name (op : Int) (h : 1 ≤ op) (h2 : op ≤ 27) : opOf (nameB op) = op := by
  rcases op_cases op h h2 with rfl | rfl | rfl | rfl | rfl | rfl | rfl | rfl | rfl | rfl | rfl | rfl | rfl | rfl | rfl | rfl | rfl | rfl | rfl | rfl | rfl | rfl | rfl | rfl | rfl | rfl | rfl <;> (simp [opOf, opGo, nameB, ByteArray.toList_eq])
theorem opGo_name (s : ByteArray) : ∀ n k : Nat, opGo s n k = 0 ∨ (nameB (opGo s n k)).toList = s.toList
  | 0, _ => Or.inl rfl
  | n + 1, k => by
    rw [opGo]
    split
    · rename_i h; exact Or.inr (eq_of_beq h)
    · exact opGo_name s n (k + 1)
end Go.Proofs.YtojgngefgianpaaDoor
