/-
  The walk of WordTurns: it answers true, for any word and any two numbers.
-/
import Derived.Test.YtefgaboalbaapaaDoorAlive
import Derived.Outline
namespace Go.Proofs.YtefgaboalbaapaaDoor
open Go.RowKit

theorem rotI_congr (a n m : Int) (h : n % 32 = m % 32) : rotI a n = rotI a m := by unfold rotI; rw [h]
theorem rotI_add (a n m : Int) (ha : 0 ≤ a) (ha' : a < 4294967296) : rotI (rotI a n) m = rotI a (n + m) := by
  obtain ⟨x, rfl⟩ := Int.eq_ofNat_of_zero_le ha
  have hx : x < 4294967296 := by omega
  show ((rotN ((rotN ((x : Int)).toNat (n % 32).toNat : Nat) : Int).toNat (m % 32).toNat : Nat) : Int) = (rotN ((x : Int)).toNat ((n + m) % 32).toNat : Nat)
  rw [Int.toNat_natCast, Int.toNat_natCast, rotN_add, rotN_mod x _ hx]
  have : ((n % 32).toNat + (m % 32).toNat) % 32 = ((n + m) % 32).toNat := by omega
  rw [this]
theorem rotI_zero (a n : Int) (ha : 0 ≤ a) (h : n % 32 = 0) : rotI a n = a := by
  obtain ⟨x, rfl⟩ := Int.eq_ofNat_of_zero_le ha
  unfold rotI
  rw [h]; rfl
theorem tmod_facts (n : Int) : -32 < n.tmod 32 ∧ n.tmod 32 < 32 ∧ n.tmod 32 % 32 = n % 32 ∧ (n < 0 → n.tmod 32 ≤ 0) := by
  have h1 := Int.mul_tdiv_add_tmod n 32
  have h2 := Int.tmod_lt_of_pos n (show (0 : Int) < 32 by decide)
  have h3 := Int.lt_tmod_of_pos n (show (0 : Int) < 32 by decide)
  refine ⟨h3, h2, by omega, fun h => ?_⟩
  have h4 : (-n).tmod 32 = -(n.tmod 32) := Int.neg_tmod n 32
  have h5 := Int.tmod_nonneg 32 (show (0 : Int) ≤ -n by omega)
  omega
theorem st_cast (x : Nat) : ((st x : Nat) : Int) = 2 * (x : Int) % 4294967296 + (x : Int) / 2147483648 := by
  unfold st; omega

set_option maxHeartbeats 400000 in
theorem refTurn_pos (a n k : Int) (w : World) (ha : 0 ≤ a) (ha' : a < 4294967296) (hk0 : 0 ≤ k) (_hk1 : k < 32) (hn : 0 ≤ n) (hkn : n % 32 = k) (HK : Hid (rotI a n = (rotN a.toNat k.toNat : Nat))) :
    Calls Tryd.prog 15 #[.int .u32 a, .int .i64 n] w fun e w' => e = .returned (.int .u32 (rotI a n)) ∧ w = w' := by
  go_enter Tryd.func15, Tryd.ntmps15
  go_wp2
  go_loop [6, 7] (fun v i => ∃ (j : Nat) (y : Int), (j : Int) ≤ k ∧ i = .int .i64 j ∧ v = .int .u64 y ∧ 0 ≤ y ∧ y < 4294967296 ∧ Hid (y = (rotN a.toNat j : Nat))) (fun _ i => 32 - (intOf i).toNat)
  case atStart => exact ⟨0, a, by omega, rfl, rfl, ha, ha', by show a = (a.toNat : Int); omega⟩
  case round =>
    obtain ⟨j, y, hj, rfl, rfl, hy0, hy1, HY⟩ := hrel
    by_cases hlt : (j : Int) < k
    · go_wp2
      go_round
      case rel => exact ⟨j + 1, 2 * y % 4294967296 + y / 2147483648, by omega, by go_num, rfl, by omega, by omega, by rw [HY.out]; exact (st_cast _).symm⟩
      case measure => simp [intOf]; omega
    · have hjk : (j : Int) = k := by omega
      have HJ := Lib.hid hjk
      clear hjk
      go_wp2
      go_ret
      refine ⟨ret_int ?_, rfl⟩
      rw [HY.out, HK.out]
      have := HJ.out
      rw [show j = k.toNat by omega]
set_option maxHeartbeats 400000 in
theorem refTurn_neg (a n k : Int) (w : World) (ha : 0 ≤ a) (ha' : a < 4294967296) (hk0 : 0 ≤ k) (_hk1 : k < 32) (r : Int) (hr : n.tmod 32 = r) (hr0 : r < 0) (hr1 : -32 < r) (hkr : r + 32 = k) (HK : Hid (rotI a n = (rotN a.toNat k.toNat : Nat))) :
    Calls Tryd.prog 15 #[.int .u32 a, .int .i64 n] w fun e w' => e = .returned (.int .u32 (rotI a n)) ∧ w = w' := by
  go_enter Tryd.func15, Tryd.ntmps15
  go_wp2
  go_loop [6, 7] (fun v i => ∃ (j : Nat) (y : Int), (j : Int) ≤ k ∧ i = .int .i64 j ∧ v = .int .u64 y ∧ 0 ≤ y ∧ y < 4294967296 ∧ Hid (y = (rotN a.toNat j : Nat))) (fun _ i => 32 - (intOf i).toNat)
  case atStart => exact ⟨0, a, by omega, rfl, rfl, ha, ha', by show a = (a.toNat : Int); omega⟩
  case round =>
    obtain ⟨j, y, hj, rfl, rfl, hy0, hy1, HY⟩ := hrel
    by_cases hlt : (j : Int) < k
    · go_wp2
      go_round
      case rel => exact ⟨j + 1, 2 * y % 4294967296 + y / 2147483648, by omega, by go_num, rfl, by omega, by omega, by rw [HY.out]; exact (st_cast _).symm⟩
      case measure => simp [intOf]; omega
    · have hjk : (j : Int) = k := by omega
      have HJ := Lib.hid hjk
      clear hjk
      go_wp2
      go_ret
      refine ⟨ret_int ?_, rfl⟩
      rw [HY.out, HK.out]
      have := HJ.out
      rw [show j = k.toNat by omega]
set_option maxHeartbeats 400000 in
theorem refTurn_nil (a n k : Int) (w : World) (ha : 0 ≤ a) (ha' : a < 4294967296) (hk0 : 0 ≤ k) (_hk1 : k < 32) (_hn : n < 0) (hr : n.tmod 32 = k) (HK : Hid (rotI a n = (rotN a.toNat k.toNat : Nat))) :
    Calls Tryd.prog 15 #[.int .u32 a, .int .i64 n] w fun e w' => e = .returned (.int .u32 (rotI a n)) ∧ w = w' := by
  go_enter Tryd.func15, Tryd.ntmps15
  go_wp2
  go_loop [6, 7] (fun v i => ∃ (j : Nat) (y : Int), (j : Int) ≤ k ∧ i = .int .i64 j ∧ v = .int .u64 y ∧ 0 ≤ y ∧ y < 4294967296 ∧ Hid (y = (rotN a.toNat j : Nat))) (fun _ i => 32 - (intOf i).toNat)
  case atStart => exact ⟨0, a, by omega, rfl, rfl, ha, ha', by show a = (a.toNat : Int); omega⟩
  case round =>
    obtain ⟨j, y, hj, rfl, rfl, hy0, hy1, HY⟩ := hrel
    by_cases hlt : (j : Int) < k
    · go_wp2
      go_round
      case rel => exact ⟨j + 1, 2 * y % 4294967296 + y / 2147483648, by omega, by go_num, rfl, by omega, by omega, by rw [HY.out]; exact (st_cast _).symm⟩
      case measure => simp [intOf]; omega
    · have hjk : (j : Int) = k := by omega
      have HJ := Lib.hid hjk
      clear hjk
      go_wp2
      go_ret
      refine ⟨ret_int ?_, rfl⟩
      rw [HY.out, HK.out]
      have := HJ.out
      rw [show j = k.toNat by omega]
theorem refTurn_any (a n : Int) (w : World) (ha : 0 ≤ a) (ha' : a < 4294967296) :
    Calls Tryd.prog 15 #[.int .u32 a, .int .i64 n] w fun e w' => e = .returned (.int .u32 (rotI a n)) ∧ w = w' := by
  by_cases hn : 0 ≤ n
  · exact refTurn_pos a n (n % 32) w ha ha' (by omega) (by omega) hn rfl rfl
  · obtain ⟨h1, h2, h3, h4⟩ := tmod_facts n
    have h5 := h4 (by omega)
    by_cases hz : n.tmod 32 = 0
    · exact refTurn_nil a n 0 w ha ha' (by omega) (by omega) (by omega) hz (by show rotI a n = _; unfold rotI; rw [show n % 32 = 0 by omega])
    · exact refTurn_neg a n (n % 32) w ha ha' (by omega) (by omega) (n.tmod 32) rfl (by omega) h1 (by omega) rfl

set_option maxHeartbeats 400000 in
theorem turns_walk (a n m r q x y z : Int) (w : World) (ha : 0 ≤ a) (ha' : a < 4294967296) (hn : n.tmod 32 = r) (hm : m.tmod 32 = q) (hr0 : -32 < r) (hr1 : r < 32) (hq0 : -32 < q) (hq1 : q < 32)
    (hx0 : 0 ≤ x) (hx1 : x < 4294967296) (hz0 : 0 ≤ z) (hz1 : z < 4294967296)
    (HX : Hid (rotI a n = x)) (HY : Hid (rotI x m = y)) (HY' : Hid (rotI a (r + q) = y)) (HZ : Hid (rotI a q = z)) (HZ' : Hid (rotI z (-q) = a)) :
    Calls Tryd.prog 4 #[.int .u32 a, .int .i64 n, .int .i64 m] w fun e w' => e = .returned (.bool true) ∧ Below w.heap.size w w' := by
  go_enter Tryd.func4, Tryd.ntmps4
  go_wp2_with fail
  refine (alive_any _).mono ?_
  rintro e w1 ⟨rfl, hB⟩
  go_wp2_with fail
  refine (turn_any a n _ ha ha').mono ?_
  rw [HX.out]
  rintro e w2 ⟨rfl, rfl⟩
  go_wp2_with fail
  refine (refTurn_any a n _ ha ha').mono ?_
  rw [HX.out]
  rintro e w2 ⟨rfl, rfl⟩
  go_wp2_with fail
  refine (turn_any x m _ hx0 hx1).mono ?_
  rw [HY.out]
  rintro e w2 ⟨rfl, rfl⟩
  go_wp2_with fail
  refine (turn_any a (r + q) _ ha ha').mono ?_
  rw [HY'.out]
  rintro e w2 ⟨rfl, rfl⟩
  go_wp2_with fail
  refine (turn_any a q _ ha ha').mono ?_
  rw [HZ.out]
  rintro e w2 ⟨rfl, rfl⟩
  go_wp2_with fail
  refine (turn_any z (-q) _ hz0 hz1).mono ?_
  rw [HZ'.out]
  rintro e w2 ⟨rfl, rfl⟩
  go_wp2_with fail
  go_ret
  exact ⟨rfl, hB⟩
theorem turns_any (a n m : Int) (w : World) (ha : 0 ≤ a) (ha' : a < 4294967296) (_hn : -9223372036854775808 ≤ n) (_hn' : n ≤ 9223372036854775807) (_hm : -9223372036854775808 ≤ m) (_hm' : m ≤ 9223372036854775807) :
    Calls Tryd.prog 4 #[.int .u32 a, .int .i64 n, .int .i64 m] w fun e w' => e = .returned (.bool true) ∧ Below w.heap.size w w' := by
  obtain ⟨n1, n2, n3, _⟩ := tmod_facts n
  obtain ⟨m1, m2, m3, _⟩ := tmod_facts m
  have b1 := rotI_bd a n ha'
  have b2 := rotI_bd a (m.tmod 32) ha'
  refine turns_walk a n m (n.tmod 32) (m.tmod 32) (rotI a n) (rotI (rotI a n) m) (rotI a (m.tmod 32)) w ha ha' rfl rfl n1 n2 m1 m2 b1.1 b1.2 b2.1 b2.2 rfl rfl ?_ rfl ?_
  · show rotI a (n.tmod 32 + m.tmod 32) = rotI (rotI a n) m
    rw [rotI_add a n m ha ha']
    exact rotI_congr _ _ _ (by omega)
  · show rotI (rotI a (m.tmod 32)) (-(m.tmod 32)) = a
    rw [rotI_add a _ _ ha ha']
    exact rotI_zero a _ ha (by omega)
end Go.Proofs.YtefgaboalbaapaaDoor
