/-
  The contracts of math/bits.ReverseBytes32, and of the code's swap.
-/
import Derived.Test.YtepcpjppogcjbaaDoorDgX
import Derived.Test.YtepcpjppogcjbaaDoorFour
import Derived.Laws.BitsAllLaws
namespace Go.Proofs.YtepcpjppogcjbaaDoor
open Go.RowKit

/-- A word whose four bytes stand the other way round. -/
def revW (x : Int) : Int := fw (byteN x.toNat 3) (byteN x.toNat 2) (byteN x.toNat 1) (byteN x.toNat 0)
theorem revW_bd (x : Int) : isW (revW x) := fw_bd _ _ _ _
/-- Every other byte. -/
theorem mask_nat (y : Nat) : y &&& 16711935 = y % 256 + 65536 * (y / 65536 % 256) := by
  obtain ⟨z, hz⟩ : ∃ z, y &&& 16711935 = z := ⟨_, rfl⟩
  have e1 : z % 256 = y % 256 := by
    rw [← hz, show (256 : Nat) = 2 ^ 8 from rfl, Nat.and_mod_two_pow, show 16711935 % 2 ^ 8 = 2 ^ 8 - 1 from rfl, Nat.and_two_pow_sub_one_eq_mod, Nat.mod_mod]
  have e2 : z / 256 % 256 = 0 := by
    rw [← hz, show (256 : Nat) = 2 ^ 8 from rfl, Nat.and_div_two_pow, Nat.and_mod_two_pow, show 16711935 / 2 ^ 8 % 2 ^ 8 = 0 from rfl, Nat.and_zero]
  have e3 : z / 65536 = y / 65536 % 256 := by
    rw [← hz, show (65536 : Nat) = 2 ^ 16 from rfl, Nat.and_div_two_pow, show 16711935 / 2 ^ 16 = 2 ^ 8 - 1 from rfl, Nat.and_two_pow_sub_one_eq_mod]
  rw [hz]
  omega
/-- Bytes put between bytes. -/
theorem weave_nat (a b c d : Nat) (ha : a < 256) (hb : b < 256) (hd : d < 256) : (b + 65536 * d) ||| (256 * a + 16777216 * c) = b + 256 * a + 65536 * d + 16777216 * c := by
  obtain ⟨z, hz⟩ : ∃ z, (b + 65536 * d) ||| (256 * a + 16777216 * c) = z := ⟨_, rfl⟩
  have e0 : z % 256 = b := by
    rw [← hz, show (256 : Nat) = 2 ^ 8 from rfl, Nat.or_mod_two_pow, show (2 ^ 8 * a + 16777216 * c) % 2 ^ 8 = 0 by omega, Nat.or_zero]; omega
  have e1 : z / 256 % 256 = a := by
    rw [← hz, show (256 : Nat) = 2 ^ 8 from rfl, Nat.or_div_two_pow, Nat.or_mod_two_pow, show (b + 65536 * d) / 2 ^ 8 % 2 ^ 8 = 0 by omega, Nat.zero_or]; omega
  have e2 : z / 65536 % 256 = d := by
    rw [← hz, show (65536 : Nat) = 2 ^ 16 from rfl, show (256 : Nat) = 2 ^ 8 from rfl, Nat.or_div_two_pow, Nat.or_mod_two_pow, show (2 ^ 8 * a + 16777216 * c) / 2 ^ 16 % 2 ^ 8 = 0 by omega, Nat.or_zero]; omega
  have e3 : z / 16777216 = c := by
    rw [← hz, show (16777216 : Nat) = 2 ^ 24 from rfl, Nat.or_div_two_pow, show (b + 65536 * d) / 2 ^ 24 = 0 by omega, Nat.zero_or]; omega
  rw [hz]
  omega

theorem rev_expr (x : Int) (h0 : 0 ≤ x) (h1 : x < 4294967296) :
    bits .or .u32 (bits .or .u32 (bits .and .u32 (x / 256) 16711935) (bits .and .u32 x 16711935 * 256 % 4294967296) / 65536) (bits .or .u32 (bits .and .u32 (x / 256) 16711935) (bits .and .u32 x 16711935 * 256 % 4294967296) * 65536 % 4294967296) = revW x := by
  obtain ⟨n, rfl⟩ := Int.eq_ofNat_of_zero_le h0
  have hn : n < 4294967296 := by omega
  obtain ⟨a, ha⟩ : ∃ a, n % 256 = a := ⟨_, rfl⟩
  obtain ⟨b, hb⟩ : ∃ b, n / 256 % 256 = b := ⟨_, rfl⟩
  obtain ⟨c, hc⟩ : ∃ c, n / 65536 % 256 = c := ⟨_, rfl⟩
  obtain ⟨d, hd⟩ : ∃ d, n / 16777216 % 256 = d := ⟨_, rfl⟩
  have e1 : bits .and .u32 ((n : Int) / 256) 16711935 = ((b + 65536 * d : Nat) : Int) := by
    rw [show (n : Int) / 256 = ((n / 256 : Nat) : Int) by omega, show (16711935 : Int) = ((16711935 : Nat) : Int) from rfl, u32_and_nat _ _ (by omega) (by omega), mask_nat]
    omega
  have e2 : bits .and .u32 (n : Int) 16711935 * 256 % 4294967296 = ((256 * a + 16777216 * c : Nat) : Int) := by
    rw [show (16711935 : Int) = ((16711935 : Nat) : Int) from rfl, u32_and_nat _ _ (by omega) (by omega), mask_nat]
    omega
  have e3 : bits .or .u32 ((b + 65536 * d : Nat) : Int) ((256 * a + 16777216 * c : Nat) : Int) = ((b + 256 * a + 65536 * d + 16777216 * c : Nat) : Int) := by
    rw [u32_or_nat _ _ (by omega) (by omega), weave_nat a b c d (by omega) (by omega) (by omega)]
  rw [e1, e2, e3, show ((b + 256 * a + 65536 * d + 16777216 * c : Nat) : Int) / 65536 = ((d + 256 * c : Nat) : Int) by omega, show ((b + 256 * a + 65536 * d + 16777216 * c : Nat) : Int) * 65536 % 4294967296 = ((65536 * b + 16777216 * a : Nat) : Int) by omega, join_lo 16 _ _ (by omega) (by omega) (by omega) (by omega)]
  unfold revW fw
  rw [Int.toNat_natCast, byteN_nat, byteN_nat, byteN_nat, byteN_nat, show (256 : Nat) ^ 3 = 16777216 from rfl, show (256 : Nat) ^ 2 = 65536 from rfl, show (256 : Nat) ^ 1 = 256 from rfl, show (256 : Nat) ^ 0 = 1 from rfl, Nat.div_one, ha, hb, hc, hd]
  clear e1 e2 e3
  omega

set_option maxHeartbeats 1000000 in
theorem rev_any (x : Int) (w : World) (hx : isW x) : Calls Tryd.prog 46 #[.int .u32 x] w fun e w' => e = .returned (.int .u32 (revW x)) ∧ w' = w := by
  have h0 : 0 ≤ x := hx.1
  have h1 : x < 4294967296 := hx.2
  clear hx
  go_enter Tryd.func46, Tryd.ntmps46
  go_wp2
  go_ret
  exact ⟨congrArg (fun n => Ending.returned (.int .u32 n)) (rev_expr x h0 h1), rfl⟩

/-- A digest's words, each the other way round. -/
def swapD (d : D4) : D4 := ⟨revW d.d0, revW d.d1, revW d.d2, revW d.d3⟩
theorem swapD_ok (d : D4) : (swapD d).ok := ⟨revW_bd _, revW_bd _, revW_bd _, revW_bd _⟩
def revP (D : List Int) : Nat → List Int
  | 0 => D
  | n + 1 => (revP D n).set n (revW (D.getD n 0))
theorem revP_len (D : List Int) (n : Nat) : (revP D n).length = D.length := by
  induction n with
  | zero => rfl
  | succ n ih => rw [revP, List.length_set, ih]
theorem revP_list (d : D4) : revP d.toL 4 = (swapD d).toL := rfl
theorem start44 (d : D4) (w w0 : World) (h : (w.alloc (.cells #[.int .u32 d.d0, .int .u32 d.d1, .int .u32 d.d2, .int .u32 d.d3] 29)).alloc (.cells #[.int .u32 0, .int .u32 0, .int .u32 0, .int .u32 0] 29) = w0) :
    Arr .u32 29 w.heap.size d.toL w0 ∧ Arr .u32 29 (w.heap.size + 1) [0, 0, 0, 0] w0 ∧ Below w.heap.size w w0 := by
  subst h
  obtain ⟨w1, h1⟩ : ∃ w1, w.alloc (.cells #[.int .u32 d.d0, .int .u32 d.d1, .int .u32 d.d2, .int .u32 d.d3] 29) = w1 := ⟨_, rfl⟩
  have hA1 : Arr .u32 29 w.heap.size d.toL w1 := by rw [← h1]; exact heap_alloc_new w _
  have a1 : w1.heap.size = w.heap.size + 1 := by rw [← h1]; simp
  have B1 : Below w.heap.size w w1 := by rw [← h1]; exact (Below.refl _ _).alloc (Nat.le_refl _) _
  rw [h1]
  refine ⟨hA1.al _, ?_, B1.alloc (by omega) _⟩
  rw [← a1]
  exact heap_alloc_new w1 _

set_option maxHeartbeats 3000000 in
theorem swap_any (d : D4) (w : World) (hd : d.ok) : Calls Tryd.prog 34 #[d.val] w fun e w' => e = .returned (swapD d).val ∧ Below w.heap.size w w' := by
  obtain ⟨w0, hw0⟩ : ∃ w0, (w.alloc (.cells #[.int .u32 d.d0, .int .u32 d.d1, .int .u32 d.d2, .int .u32 d.d3] 29)).alloc (.cells #[.int .u32 0, .int .u32 0, .int .u32 0, .int .u32 0] 29) = w0 := ⟨_, rfl⟩
  obtain ⟨hA0, hR0, hB0⟩ := start44 d w w0 hw0
  obtain ⟨c0, c1, c2, c3⟩ := hA0.c4
  go_enter Tryd.func34, Tryd.ntmps34
  simp only [D4.val]
  go_wp2_with fail
  clear hw0 c0 c1 c2 c3
  go_loopw [6] (fun i wr => ∃ k : Nat, k ≤ 4 ∧ i = .int .i64 k ∧ Arr .u32 29 w.heap.size (revP d.toL k) wr ∧ Arr .u32 29 (w.heap.size + 1) [0, 0, 0, 0] wr ∧ Below w.heap.size w wr) (fun i _ => 4 - (intOf i).toNat)
  case atStart => exact ⟨0, by omega, rfl, hA0, hR0, hB0⟩
  case round =>
    clear hA0 hR0 hB0
    obtain ⟨k, hk, rfl, hA, hR, hB⟩ := hrel
    by_cases hlt : k < 4
    · have hkd : decide ((k : Int) < 4) = true := by simp; omega
      have hMn : (revP d.toL k).length = 4 := by rw [revP_len]; rfl
      have hix := index_dig d hlt wr
      obtain ⟨b, hb⟩ : ∃ b, d.toL.getD k 0 = b := ⟨_, rfl⟩
      have hbw : isW b := by rw [← hb]; exact (D4.toL_ok hd).get k
      have HP : Hid (revP d.toL (k + 1) = (revP d.toL k).set k (revW b)) := by
        show _ = _
        rw [revP, hb]
      rw [hb] at hix
      clear hb
      generalize revP d.toL k = M at *
      have hc1 : wr.cell? ⟨w.heap.size, k, none⟩ = some (.int .u32 (M.getD k 0)) := hA.cell (by omega)
      have hf1 := hA.fz k
      have hA1 := hA.set k (revW b)
      have hR1 := hR.far (a := ⟨w.heap.size, k, none⟩) (by simp) (.int .u32 (revW b))
      have hB1 := hB.setCell (p := ⟨w.heap.size, k, none⟩) (Nat.le_refl _) (.int .u32 (revW b))
      rw [← HP.out] at hA1
      have HBW := Lib.hid hbw
      clear hA hR hB hbw
      go_wp2_with fail
      refine (rev_any b _ HBW.out).mono ?_
      rintro e w1 ⟨rfl, rfl⟩
      go_wp2_with fail
      go_roundw
      case rel => exact ⟨k + 1, by omega, by go_num, hA1, hR1, hB1⟩
      case measure => simp [intOf]; omega
    · have hk4 : k = 4 := by omega
      subst hk4
      rw [revP_list] at hA
      obtain ⟨z, hz⟩ : ∃ z, swapD d = z := ⟨_, rfl⟩
      rw [hz] at hA
      have HZ := Lib.hid hz
      clear hz
      obtain ⟨t0, t1, t2, t3⟩ := hA.c4
      obtain ⟨b0, b1, b2, b3⟩ := Arr.c4 (d := zeroD) hR
      obtain ⟨f0, f1, f2, f3⟩ := hR.f4
      have hRf := put4 (d := z) hR rfl
      have hBf := below_put4 hB (by omega : w.heap.size ≤ w.heap.size + 1) z
      clear hA hR hB
      go_wp2_with fail
      generalize (((wr.setCell ⟨w.heap.size + 1, 0, none⟩ (.int .u32 z.d0)).setCell ⟨w.heap.size + 1, 1, none⟩ (.int .u32 z.d1)).setCell ⟨w.heap.size + 1, 2, none⟩ (.int .u32 z.d2)).setCell ⟨w.heap.size + 1, 3, none⟩ (.int .u32 z.d3) = wf at *
      obtain ⟨r0, r1, r2, r3⟩ := hRf.c4
      refine bodyPost_ret (v := z.val) (by simp [results, Tryd.results34, go_sem, D4.val, r0, r1, r2, r3]) rfl ⟨by rw [HZ.out]; rfl, hBf⟩
end Go.Proofs.YtepcpjppogcjbaaDoor
