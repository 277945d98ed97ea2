/-
  The contracts of isNumber and of Parse where the text is no number's.
-/
import Derived.Test.YtefgaboalbaapaaDoorProg
import Derived.Test.YtefgaboalbaapaaDoorPlain
import Derived.WalkKit
import Derived.BigQuiet
import Derived.Outline
import Derived.Lib.Hide
namespace Go.Proofs.YtefgaboalbaapaaDoor
open Go.RowKit

theorem ret_bool {a b : Bool} (h : a = b) : Ending.returned (.bool a) = .returned (.bool b) := by rw [h]

set_option maxHeartbeats 400000 in
theorem isNumber_rest (s : ByteArray) (w : World) (hs : s.size ≤ maxLen) (h1 : 0 < s.size) (hc : s[0].toNat ≠ 48 ∨ s.size = 1) :
    Calls Tryd.prog 36 #[.string s] w fun e w' => e = .returned (.bool (numB s.data.toList)) ∧ w = w' := by
  unfold maxLen at hs
  have HN := Lib.hid (numB_rest s h1 hc)
  have he := isEmpty_no s h1
  have walk : Calls Tryd.prog 36 #[.string s] w fun e w' => e = .returned (.bool (allD s.data.toList)) ∧ w = w' := by
    have pre : ∃ b : Bool, ((s[0].toNat : Int) == 48) = b ∧ (b = true → s.size ≤ 1) := ⟨_, rfl, fun q => by simp at q; omega⟩
    obtain ⟨b, hz, hb⟩ := pre
    cases b
    case' false =>
      clear hc hb
      go_enter Tryd.func36, Tryd.ntmps36
      go_wp2
    case' true =>
      have h2 : s.size ≤ 1 := hb rfl
      clear hc hb
      go_enter Tryd.func36, Tryd.ntmps36
      go_wp2
    all_goals
      go_loop [18] (fun i => ∃ k : Nat, k ≤ s.size ∧ i = .int .i64 k ∧ Hid (allD (s.data.toList.take k) = true)) (fun i => s.size - (intOf i).toNat)
      case atStart => exact ⟨0, Nat.zero_le _, rfl, Lib.hid rfl⟩
      case round =>
        obtain ⟨k, hk, rfl, HD⟩ := hrel
        clear hz
        by_cases hlt : k < s.size
        · have HA := Lib.hid (all_snoc s k hlt)
          by_cases c0 : (s[k].toNat : Int) < 48
          · go_wp2
            go_ret
            exact ⟨ret_bool (all_of_take _ (k + 1) (by rw [HA.out, digB_lo c0, Bool.and_false])).symm, rfl⟩
          · have c0' : 48 ≤ (s[k].toNat : Int) := by omega
            clear c0
            by_cases c1 : 57 < (s[k].toNat : Int)
            · go_wp2
              go_ret
              exact ⟨ret_bool (all_of_take _ (k + 1) (by rw [HA.out, digB_hi c1, Bool.and_false])).symm, rfl⟩
            · have c1' : (s[k].toNat : Int) ≤ 57 := by omega
              clear c1
              go_wp2
              go_round
              case rel => exact ⟨k + 1, by omega, by go_num, Lib.hid (by rw [HA.out, HD.out, digB_true c0' c1']; rfl)⟩
              case measure => simp [intOf]; omega
        · go_wp2
          go_ret
          refine ⟨ret_bool ?_, rfl⟩
          have := HD.out
          rw [List.take_of_length_le (by rw [len_toList]; omega)] at this
          exact this.symm
  rw [HN.out]
  exact walk

theorem isNumber_any (s : ByteArray) (w : World) (hs : s.size ≤ maxLen) :
    Calls Tryd.prog 36 #[.string s] w fun e w' => e = .returned (.bool (numB s.data.toList)) ∧ w = w' := by
  by_cases h : s.size = 0
  · rw [numB_none s h]
    have he := isEmpty_yes s h
    go_enter Tryd.func36, Tryd.ntmps36
    go_wp2
    go_ret
    exact ⟨rfl, rfl⟩
  · have h1 : 0 < s.size := by omega
    by_cases hc : s[0].toNat ≠ 48 ∨ s.size = 1
    · exact isNumber_rest s w hs h1 hc
    · have h48 : s[0].toNat = 48 := by omega
      have h2 : 1 < s.size := by omega
      rw [numB_zero s h2 h48]
      have hz : ((s[0].toNat : Int) == 48) = true := by simp [h48]
      have he := isEmpty_no s h1
      unfold maxLen at hs
      clear hc h48 h
      go_enter Tryd.func36, Tryd.ntmps36
      go_wp2
      go_ret
      exact ⟨rfl, rfl⟩

theorem parse_no (s : ByteArray) (w : World) (hs : s.size ≤ maxLen) (h : numB s.data.toList = false) :
    Calls Tryd.prog 21 #[.string s] w fun e w' => e = .returned (.tuple #[.int .u32 0, .int .i64 3]) ∧ w = w' := by
  have hN := isNumber_any s w hs
  rw [h] at hN
  have HN := Lib.hid hN
  clear hN h
  go_enter Tryd.func21, Tryd.ntmps21
  go_wp2_with (go_at_call 36; refine (HN.out).mono ?_; rintro e w' ⟨rfl, rfl⟩)
  go_ret2
  exact ⟨rfl, rfl⟩
end Go.Proofs.YtefgaboalbaapaaDoor
