/-
  The contract of the document's own Parse.
-/
import Derived.Test.YtefgaboalbaapaaDoorProg
import Derived.Test.YtefgaboalbaapaaDoorDec
import Derived.WalkKit
import Derived.BigQuiet
import Derived.Lib.Hide
namespace Go.Proofs.YtefgaboalbaapaaDoor
open Go.RowKit

theorem ret2_eqR {k l : IntKind} {a b c d : Int} (h : a = b) (h' : c = d) : Ending.returned (.tuple #[.int k a, .int l c]) = .returned (.tuple #[.int k b, .int l d]) := by rw [h, h']
/-- What the loop holds: the number that the digits so far spell, or 2^32 where that is less. -/
def capV (l : List UInt8) : Int := if decV l < 4294967296 then (decV l : Int) else 4294967296
theorem capV_bd (l : List UInt8) : 0 ≤ capV l ∧ capV l ≤ 4294967296 := by
  unfold capV; split <;> omega
theorem capV_lo (l : List UInt8) (c : UInt8) (h₀ : 48 ≤ (c.toNat : Int)) (h : capV l * 10 + ((c.toNat : Int) - 48) ≤ 4294967296) : capV (l ++ [c]) = capV l * 10 + ((c.toNat : Int) - 48) := by
  have e := decV_snoc l c
  unfold capV at h ⊢
  rw [e]
  by_cases q : decV l < 4294967296
  · rw [if_pos q] at h ⊢
    by_cases r : decV l * 10 + (c.toNat - 48) < 4294967296
    · rw [if_pos r]; omega
    · rw [if_neg r]; omega
  · rw [if_neg q] at h; omega
theorem capV_hi (l : List UInt8) (c : UInt8) (h₀ : 48 ≤ (c.toNat : Int)) (h : 4294967296 < capV l * 10 + ((c.toNat : Int) - 48)) : capV (l ++ [c]) = 4294967296 := by
  have e := decV_snoc l c
  unfold capV at h ⊢
  rw [e]
  by_cases q : decV l < 4294967296
  · rw [if_pos q] at h
    rw [if_neg (by omega)]
  · rw [if_neg (by omega)]

set_option maxHeartbeats 1000000 in
theorem refParse_rest (s : ByteArray) (w : World) (hs : s.size ≤ 1000000) (h1 : 0 < s.size) (hc : s[0].toNat ≠ 48 ∨ s.size = 1) :
    Calls Tryd.prog 22 #[.string s] w fun e w' => e = .returned (.tuple #[.int .u32 (parseV s.data.toList), .int .i64 (parseE s.data.toList)]) ∧ w = w' := by
  have HN := Lib.hid (numB_rest s h1 hc)
  have pre : ∃ b : Bool, ((s[0].toNat : Int) == 48) = b ∧ (b = true → s.size ≤ 1) := ⟨_, rfl, fun q => by simp at q; omega⟩
  obtain ⟨b, hz, hb⟩ := pre
  have hl0 : ((s.size : Int) == 0) = false := by simp; intro q; rw [q] at h1; exact absurd h1 (by decide)
  cases b
  case' false =>
    clear hc hb
    by_cases hone : 1 < s.size
    case' pos =>
      go_enter Tryd.func22, Tryd.ntmps22
      go_wp2
    case' neg =>
      go_enter Tryd.func22, Tryd.ntmps22
      go_wp2
  case' true =>
    have h2 : s.size ≤ 1 := hb rfl
    clear hc hb
    go_enter Tryd.func22, Tryd.ntmps22
    go_wp2
  all_goals
    go_loop [4, 5] (fun v i => ∃ (k : Nat) (y : Int), k ≤ s.size ∧ i = .int .i64 k ∧ v = .int .u64 y ∧ 0 ≤ y ∧ y ≤ 4294967296 ∧ Hid (y = capV (s.data.toList.take k)) ∧ Hid (allD (s.data.toList.take k) = true)) (fun _ i => s.size - (intOf i).toNat)
    case atStart => exact ⟨0, 0, Nat.zero_le _, rfl, rfl, by omega, by omega, Lib.hid rfl, Lib.hid rfl⟩
    case round =>
      obtain ⟨k, y, hk, rfl, rfl, hy0, hy1, HY, HD⟩ := hrel
      clear hz hl0
      by_cases hlt : k < s.size
      · have HA := Lib.hid (all_snoc s k hlt)
        have HT := Lib.hid (take_snoc s k hlt)
        by_cases c0 : (s[k].toNat : Int) < 48
        · go_wp2
          go_ret2
          have e0 : numB s.data.toList = false := by rw [HN.out]; exact all_of_take _ (k + 1) (by rw [HA.out, digB_lo c0, Bool.and_false])
          exact ⟨ret2_eqR (by simp [parseV, e0]) (by simp [parseE, e0]), rfl⟩
        · have c0' : 48 ≤ (s[k].toNat : Int) := by omega
          clear c0
          by_cases c1 : 57 < (s[k].toNat : Int)
          · go_wp2
            go_ret2
            have e0 : numB s.data.toList = false := by rw [HN.out]; exact all_of_take _ (k + 1) (by rw [HA.out, digB_hi c1, Bool.and_false])
            exact ⟨ret2_eqR (by simp [parseV, e0]) (by simp [parseE, e0]), rfl⟩
          · have c1' : (s[k].toNat : Int) ≤ 57 := by omega
            clear c1
            by_cases hbig : 4294967296 < y * 10 + ((s[k].toNat : Int) - 48)
            · go_wp2
              go_round
              case rel => exact ⟨k + 1, 4294967296, by omega, by go_num, rfl, by omega, by omega, Lib.hid (by rw [HT.out]; exact (capV_hi _ _ c0' (by rw [← HY.out]; exact hbig)).symm), Lib.hid (by rw [HA.out, HD.out, digB_true c0' c1']; rfl)⟩
              case measure => simp [intOf]; omega
            · have hsm : y * 10 + ((s[k].toNat : Int) - 48) ≤ 4294967296 := by omega
              clear hbig
              go_wp2
              go_round
              case rel => exact ⟨k + 1, y * 10 + ((s[k].toNat : Int) - 48), by omega, by go_num, rfl, by omega, by omega, Lib.hid (by rw [HT.out, HY.out]; exact (capV_lo _ _ c0' (by rw [← HY.out]; exact hsm)).symm), Lib.hid (by rw [HA.out, HD.out, digB_true c0' c1']; rfl)⟩
              case measure => simp [intOf]; omega
      · have hall : s.data.toList.take k = s.data.toList := List.take_of_length_le (by rw [len_toList]; omega)
        have HNN : Hid (numB s.data.toList = true) := by
          have := HD.out
          rw [hall] at this
          show numB s.data.toList = true
          rw [HN.out]; exact this
        have HYY : Hid (y = capV s.data.toList) := by
          have := HY.out
          rw [hall] at this
          exact this
        clear hall
        by_cases hbig : 4294967296 ≤ y
        · go_wp2
          go_ret2
          have hd : ¬ decV s.data.toList < 4294967296 := fun q => by
            have := HYY.out
            unfold capV at this
            rw [if_pos q] at this
            omega
          exact ⟨ret2_eqR (by simp [parseV, hd]) (by have := HNN.out; simp [parseE, this]; omega), rfl⟩
        · go_wp2
          go_ret2
          have hd : decV s.data.toList < 4294967296 := by
            have := HYY.out
            unfold capV at this
            split at this <;> omega
          have hy : y = (decV s.data.toList : Int) := by
            have := HYY.out
            unfold capV at this
            rw [if_pos hd] at this
            exact this
          have hn := HNN.out
          exact ⟨ret2_eqR (by rw [hy]; simp [parseV, hn, hd]) (by simp [parseE, hn]; omega), rfl⟩

theorem refParse_any (s : ByteArray) (w : World) (hs : s.size ≤ 1000000) :
    Calls Tryd.prog 22 #[.string s] w fun e w' => e = .returned (.tuple #[.int .u32 (parseV s.data.toList), .int .i64 (parseE s.data.toList)]) ∧ w = w' := by
  by_cases h : s.size = 0
  · have e0 := numB_none s h
    have e1 : parseV s.data.toList = 0 := by simp [parseV, e0]
    have e2 : parseE s.data.toList = 3 := by simp [parseE, e0]
    rw [e1, e2]
    have hz : ((s.size : Int) == 0) = true := by simp [h]
    clear e0 e1 e2
    go_enter Tryd.func22, Tryd.ntmps22
    go_wp2
    go_ret2
    exact ⟨rfl, rfl⟩
  · have h1 : 0 < s.size := by omega
    by_cases hc : s[0].toNat ≠ 48 ∨ s.size = 1
    · exact refParse_rest s w hs h1 hc
    · have h48 : s[0].toNat = 48 := by omega
      have h2 : 1 < s.size := by omega
      have e0 := numB_zero s h2 h48
      have e1 : parseV s.data.toList = 0 := by simp [parseV, e0]
      have e2 : parseE s.data.toList = 3 := by simp [parseE, e0]
      rw [e1, e2]
      have hz : ((s[0].toNat : Int) == 48) = true := by simp [h48]
      have hl0 : ((s.size : Int) == 0) = false := by simp; intro q; rw [q] at h1; exact absurd h1 (by decide)
      clear hc h48 h e0 e1 e2
      go_enter Tryd.func22, Tryd.ntmps22
      go_wp2
      go_ret2
      exact ⟨rfl, rfl⟩
end Go.Proofs.YtefgaboalbaapaaDoor
