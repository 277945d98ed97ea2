/-
  The contract of the document's own Turn (as in layer 1).
-/
import Derived.Test.YtepcpjppogcjbaaDoorRHexA
import Derived.Test.YtepcpjppogcjbaaDoorRot
import Derived.Outline
namespace Go.Proofs.YtepcpjppogcjbaaDoor
open Go.RowKit

theorem ret_int {k : IntKind} {a b : Int} (h : a = b) : Ending.returned (.int k a) = .returned (.int k b) := by rw [h]
theorem rotI_congr (a n m : Int) (h : n % 32 = m % 32) : rotI a n = rotI a m := by unfold rotI; rw [h]
theorem rotI_add (a n m : Int) (ha : 0 ≤ a) (ha' : a < 4294967296) : rotI (rotI a n) m = rotI a (n + m) := by
  obtain ⟨x, rfl⟩ := Int.eq_ofNat_of_zero_le ha
  have hx : x < 4294967296 := by omega
  show ((rotN ((rotN ((x : Int)).toNat (n % 32).toNat : Nat) : Int).toNat (m % 32).toNat : Nat) : Int) = (rotN ((x : Int)).toNat ((n + m) % 32).toNat : Nat)
  rw [Int.toNat_natCast, Int.toNat_natCast, rotN_add, rotN_mod x _ hx]
  have : ((n % 32).toNat + (m % 32).toNat) % 32 = ((n + m) % 32).toNat := by omega
  rw [this]
theorem rotI_zero (a n : Int) (ha : 0 ≤ a) (h : n % 32 = 0) : rotI a n = a := by
  obtain ⟨x, rfl⟩ := Int.eq_ofNat_of_zero_le ha
  unfold rotI
  rw [h]; rfl
theorem tmod_facts (n : Int) : -32 < n.tmod 32 ∧ n.tmod 32 < 32 ∧ n.tmod 32 % 32 = n % 32 ∧ (n < 0 → n.tmod 32 ≤ 0) := by
  have h1 := Int.mul_tdiv_add_tmod n 32
  have h2 := Int.tmod_lt_of_pos n (show (0 : Int) < 32 by decide)
  have h3 := Int.lt_tmod_of_pos n (show (0 : Int) < 32 by decide)
  refine ⟨h3, h2, by omega, fun h => ?_⟩
  have h4 : (-n).tmod 32 = -(n.tmod 32) := Int.neg_tmod n 32
  have h5 := Int.tmod_nonneg 32 (show (0 : Int) ≤ -n by omega)
  omega
theorem st_cast (x : Nat) : ((st x : Nat) : Int) = 2 * (x : Int) % 4294967296 + (x : Int) / 2147483648 := by
  unfold st; omega

set_option maxHeartbeats 400000 in
theorem refTurn_pos (a n k : Int) (w : World) (ha : 0 ≤ a) (ha' : a < 4294967296) (hk0 : 0 ≤ k) (_hk1 : k < 32) (hn : 0 ≤ n) (hkn : n % 32 = k) (HK : Hid (rotI a n = (rotN a.toNat k.toNat : Nat))) :
    Calls Tryd.prog 27 #[.int .u32 a, .int .i64 n] w fun e w' => e = .returned (.int .u32 (rotI a n)) ∧ w = w' := by
  go_enter Tryd.func27, Tryd.ntmps27
  go_wp2
  go_loop [6, 7] (fun v i => ∃ (j : Nat) (y : Int), (j : Int) ≤ k ∧ i = .int .i64 j ∧ v = .int .u64 y ∧ 0 ≤ y ∧ y < 4294967296 ∧ Hid (y = (rotN a.toNat j : Nat))) (fun _ i => 32 - (intOf i).toNat)
  case atStart => exact ⟨0, a, by omega, rfl, rfl, ha, ha', by show a = (a.toNat : Int); omega⟩
  case round =>
    obtain ⟨j, y, hj, rfl, rfl, hy0, hy1, HY⟩ := hrel
    by_cases hlt : (j : Int) < k
    · go_wp2
      go_round
      case rel => exact ⟨j + 1, 2 * y % 4294967296 + y / 2147483648, by omega, by go_num, rfl, by omega, by omega, by rw [HY.out]; exact (st_cast _).symm⟩
      case measure => simp [intOf]; omega
    · have hjk : (j : Int) = k := by omega
      have HJ := Lib.hid hjk
      clear hjk
      go_wp2
      go_ret
      refine ⟨ret_int ?_, rfl⟩
      rw [HY.out, HK.out]
      have := HJ.out
      rw [show j = k.toNat by omega]
set_option maxHeartbeats 400000 in
theorem refTurn_neg (a n k : Int) (w : World) (ha : 0 ≤ a) (ha' : a < 4294967296) (hk0 : 0 ≤ k) (_hk1 : k < 32) (r : Int) (hr : n.tmod 32 = r) (hr0 : r < 0) (hr1 : -32 < r) (hkr : r + 32 = k) (HK : Hid (rotI a n = (rotN a.toNat k.toNat : Nat))) :
    Calls Tryd.prog 27 #[.int .u32 a, .int .i64 n] w fun e w' => e = .returned (.int .u32 (rotI a n)) ∧ w = w' := by
  go_enter Tryd.func27, Tryd.ntmps27
  go_wp2
  go_loop [6, 7] (fun v i => ∃ (j : Nat) (y : Int), (j : Int) ≤ k ∧ i = .int .i64 j ∧ v = .int .u64 y ∧ 0 ≤ y ∧ y < 4294967296 ∧ Hid (y = (rotN a.toNat j : Nat))) (fun _ i => 32 - (intOf i).toNat)
  case atStart => exact ⟨0, a, by omega, rfl, rfl, ha, ha', by show a = (a.toNat : Int); omega⟩
  case round =>
    obtain ⟨j, y, hj, rfl, rfl, hy0, hy1, HY⟩ := hrel
    by_cases hlt : (j : Int) < k
    · go_wp2
      go_round
      case rel => exact ⟨j + 1, 2 * y % 4294967296 + y / 2147483648, by omega, by go_num, rfl, by omega, by omega, by rw [HY.out]; exact (st_cast _).symm⟩
      case measure => simp [intOf]; omega
    · have hjk : (j : Int) = k := by omega
      have HJ := Lib.hid hjk
      clear hjk
      go_wp2
      go_ret
      refine ⟨ret_int ?_, rfl⟩
      rw [HY.out, HK.out]
      have := HJ.out
      rw [show j = k.toNat by omega]
set_option maxHeartbeats 400000 in
theorem refTurn_nil (a n k : Int) (w : World) (ha : 0 ≤ a) (ha' : a < 4294967296) (hk0 : 0 ≤ k) (_hk1 : k < 32) (_hn : n < 0) (hr : n.tmod 32 = k) (HK : Hid (rotI a n = (rotN a.toNat k.toNat : Nat))) :
    Calls Tryd.prog 27 #[.int .u32 a, .int .i64 n] w fun e w' => e = .returned (.int .u32 (rotI a n)) ∧ w = w' := by
  go_enter Tryd.func27, Tryd.ntmps27
  go_wp2
  go_loop [6, 7] (fun v i => ∃ (j : Nat) (y : Int), (j : Int) ≤ k ∧ i = .int .i64 j ∧ v = .int .u64 y ∧ 0 ≤ y ∧ y < 4294967296 ∧ Hid (y = (rotN a.toNat j : Nat))) (fun _ i => 32 - (intOf i).toNat)
  case atStart => exact ⟨0, a, by omega, rfl, rfl, ha, ha', by show a = (a.toNat : Int); omega⟩
  case round =>
    obtain ⟨j, y, hj, rfl, rfl, hy0, hy1, HY⟩ := hrel
    by_cases hlt : (j : Int) < k
    · go_wp2
      go_round
      case rel => exact ⟨j + 1, 2 * y % 4294967296 + y / 2147483648, by omega, by go_num, rfl, by omega, by omega, by rw [HY.out]; exact (st_cast _).symm⟩
      case measure => simp [intOf]; omega
    · have hjk : (j : Int) = k := by omega
      have HJ := Lib.hid hjk
      clear hjk
      go_wp2
      go_ret
      refine ⟨ret_int ?_, rfl⟩
      rw [HY.out, HK.out]
      have := HJ.out
      rw [show j = k.toNat by omega]
theorem refTurn_any (a n : Int) (w : World) (ha : 0 ≤ a) (ha' : a < 4294967296) :
    Calls Tryd.prog 27 #[.int .u32 a, .int .i64 n] w fun e w' => e = .returned (.int .u32 (rotI a n)) ∧ w = w' := by
  by_cases hn : 0 ≤ n
  · exact refTurn_pos a n (n % 32) w ha ha' (by omega) (by omega) hn rfl rfl
  · obtain ⟨h1, h2, h3, h4⟩ := tmod_facts n
    have h5 := h4 (by omega)
    by_cases hz : n.tmod 32 = 0
    · exact refTurn_nil a n 0 w ha ha' (by omega) (by omega) (by omega) hz (by show rotI a n = _; unfold rotI; rw [show n % 32 = 0 by omega])
    · exact refTurn_neg a n (n % 32) w ha ha' (by omega) (by omega) (n.tmod 32) rfl (by omega) h1 (by omega) rfl

end Go.Proofs.YtepcpjppogcjbaaDoor
