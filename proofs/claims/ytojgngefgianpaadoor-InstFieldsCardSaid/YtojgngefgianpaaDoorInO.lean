/-
  Mathematics of a word with a bit turned: whether it is an instruction's.
-/
import Derived.Test.YtojgngefgianpaaDoorInJ
namespace Go.Proofs.YtojgngefgianpaaDoor
open Go.RowKit

/-- Does a part of that letter hold the bit d? -/
def thF (d : Nat) (c : Int) : Bool := if c = 97 then decide (20 ≤ d) else if c = 98 then decide (16 ≤ d) && decide (d < 20) else if c = 99 then decide (d < 16) else decide (d < 4)
/-- Does one of the first k parts? -/
def thB (p : ByteArray) (d k : Nat) : Bool := (p.data.toList.take k).any fun x => thF d (x.toNat : Int)
theorem thB_next (p : ByteArray) (d k : Nat) (h : k < p.size) : thB p d (k + 1) = (thB p d k || thF d (p[k].toNat : Int)) := by
  have hl : k < p.data.toList.length := by rw [Array.length_toList]; exact h
  unfold thB
  rw [List.take_add_one, List.any_append, List.getElem?_eq_getElem hl]
  simp only [Option.toList_some, List.any_cons, List.any_nil, Bool.or_false]
  rfl
theorem thB_full (p : ByteArray) (d : Nat) : thB p d p.size = p.data.toList.any fun x => thF d (x.toNat : Int) := by
  unfold thB
  rw [List.take_of_length_le (by rw [Array.length_toList]; exact Nat.le_refl _)]
theorem bit_tab : ∀ d : Fin 24, (2 ^ d.val / 16777216 = 0) ∧ (d.val < 20 → 2 ^ d.val / 1048576 % 16 = 0) ∧ (20 ≤ d.val → 1 ≤ 2 ^ d.val / 1048576 % 16) ∧ (d.val < 16 → 2 ^ d.val / 65536 % 16 = 0) ∧ (20 ≤ d.val → 2 ^ d.val / 65536 % 16 = 0) ∧ (16 ≤ d.val → d.val < 20 → 1 ≤ 2 ^ d.val / 65536 % 16) ∧ (16 ≤ d.val → 2 ^ d.val % 65536 = 0) ∧ (d.val < 16 → 1 ≤ 2 ^ d.val % 65536) ∧ (d.val < 4 → 2 ^ d.val % 65536 < 16) ∧ (4 ≤ d.val → d.val < 16 → 16 ≤ 2 ^ d.val % 65536) := by decide
theorem xor_div (x y k : Nat) : (x ^^^ y) / 2 ^ k = x / 2 ^ k ^^^ y / 2 ^ k := by
  rw [← Nat.shiftRight_eq_div_pow, ← Nat.shiftRight_eq_div_pow, ← Nat.shiftRight_eq_div_pow, Nat.shiftRight_xor_distrib]
theorem xor_mod (x y k : Nat) : (x ^^^ y) % 2 ^ k = x % 2 ^ k ^^^ y % 2 ^ k := Nat.xor_mod_two_pow
theorem xor_low {x y n : Nat} (hx : x < 2 ^ n) (hy : y < 2 ^ n) : x ^^^ y < 2 ^ n := Nat.xor_lt_two_pow hx hy
theorem th_a (p : ByteArray) (d : Nat) (h : 20 ≤ d) : thB p d p.size = hasB p 97 := by
  rw [thB_full]; unfold hasB
  congr 1; funext x
  unfold thF
  by_cases h1 : (x.toNat : Int) = 97
  · rw [if_pos h1, h1]; simpa using h
  · rw [if_neg h1, beq_eq_false_iff_ne.2 h1]
    split
    · rw [decide_eq_false (show ¬ d < 20 by omega), Bool.and_false]
    · split
      · exact decide_eq_false (by omega)
      · exact decide_eq_false (by omega)
theorem th_b (p : ByteArray) (d : Nat) (h : 16 ≤ d) (h' : d < 20) : thB p d p.size = hasB p 98 := by
  rw [thB_full]; unfold hasB
  congr 1; funext x
  unfold thF
  by_cases h1 : (x.toNat : Int) = 98
  · rw [h1]; simp [h, h']
  · rw [beq_eq_false_iff_ne.2 h1, if_neg h1]
    split
    · exact decide_eq_false (by omega)
    · split
      · exact decide_eq_false (by omega)
      · exact decide_eq_false (by omega)
theorem th_c (o : Int) (h1 : 1 ≤ o) (h2 : o ≤ 27) (d : Nat) (h : d < 16) : thB (partsB o) d (partsB o).size = (hasB (partsB o) 99 || (hasB (partsB o) 114 && decide (d < 4))) := by
  rw [thB_full]
  have e1 : decide (20 ≤ d) = false := decide_eq_false (by omega)
  have e2 : decide (16 ≤ d) = false := decide_eq_false (by omega)
  have e3 : decide (d < 16) = true := decide_eq_true h
  rcases parts_shapes o h1 h2 with q | q | q | q | q | q | q
  all_goals
    simp only [hasB, q]
    simp [thF, e1, e2, e3]
theorem turned_core (o : Int) (xa xb xc ea eb ec d : Nat) (h : rightI o (xa : Int) (xb : Int) (xc : Int) = true) (l1 : xa ^^^ ea < 16) (l2 : xb ^^^ eb < 16) (l3 : xc ^^^ ec < 65536)
    (t1 : d < 20 → ea = 0) (t2 : 20 ≤ d → 1 ≤ ea) (t3 : d < 16 → eb = 0) (t4 : 20 ≤ d → eb = 0) (t5 : 16 ≤ d → d < 20 → 1 ≤ eb) (t6 : 16 ≤ d → ec = 0) (t7 : d < 16 → 1 ≤ ec) (t8 : d < 4 → ec < 16) (t9 : 4 ≤ d → d < 16 → 16 ≤ ec) :
    rightI o ((xa ^^^ ea : Nat) : Int) ((xb ^^^ eb : Nat) : Int) ((xc ^^^ ec : Nat) : Int) = thB (partsB o) d (partsB o).size := by
  have hb := right_bd h
  have hn := not_both o
  unfold rightI at h ⊢
  rw [Bool.and_eq_true, Bool.and_eq_true, Bool.and_eq_true] at h
  obtain ⟨h0, h1, h2, h3⟩ := h
  rw [h0, Bool.true_and]
  by_cases c1 : 20 ≤ d
  · rw [th_a _ d c1, t4 c1, Nat.xor_zero, t6 (by omega), Nat.xor_zero, h2, h3, Bool.and_true, Bool.and_true]
    cases ha : hasB (partsB o) 97
    · rw [ha] at h1
      have hz : xa = 0 := by simp [withinB] at h1; omega
      subst hz
      rw [Nat.zero_xor]
      have := t2 c1
      simp [withinB]; omega
    · simp [withinB]; omega
  · by_cases c2 : 16 ≤ d
    · rw [th_b _ d c2 (by omega), t1 (by omega), Nat.xor_zero, t6 (by omega), Nat.xor_zero, h1, h3, Bool.and_true, Bool.true_and]
      cases ha : hasB (partsB o) 98
      · rw [ha] at h2
        have hz : xb = 0 := by simp [withinB] at h2; omega
        subst hz
        rw [Nat.zero_xor]
        have := t5 c2 (by omega)
        simp [withinB]; omega
      · simp [withinB]; omega
    · rw [th_c o hb.1 hb.2.1 d (by omega), t1 (by omega), Nat.xor_zero, t3 (by omega), Nat.xor_zero, h1, h2, Bool.true_and, Bool.true_and]
      have h7 := t7 (by omega)
      cases hc : hasB (partsB o) 99 <;> cases hr : hasB (partsB o) 114
      · rw [hc, hr] at h3
        have hz : xc = 0 := by simp [withinB] at h3; omega
        subst hz
        rw [Nat.zero_xor]
        simp [withinB]; omega
      · rw [hc, hr] at h3
        have hz : xc < 2 ^ 4 := by simp [withinB] at h3; omega
        by_cases c4 : d < 4
        · have hl := xor_low (n := 4) hz (t8 c4)
          simp [withinB, c4]; omega
        · have h9 := t9 (by omega) (by omega)
          have hl : ¬ xc ^^^ ec < 2 ^ 4 := fun q => by
            have q2 := xor_low hz q
            rw [← Nat.xor_assoc, Nat.xor_self, Nat.zero_xor] at q2
            omega
          simp [withinB, c4]; omega
      · simp [withinB]; omega
      · exact absurd ⟨hc, hr⟩ hn
/-- A word with a bit turned. -/
theorem turned_right (x d : Nat) (hd : d < 24) (h : rightI ((x : Int) / 16777216) ((x : Int) / 1048576 % 16) ((x : Int) / 65536 % 16) ((x : Int) % 65536) = true) :
    rightI (((x ^^^ 2 ^ d : Nat) : Int) / 16777216) (((x ^^^ 2 ^ d : Nat) : Int) / 1048576 % 16) (((x ^^^ 2 ^ d : Nat) : Int) / 65536 % 16) (((x ^^^ 2 ^ d : Nat) : Int) % 65536) = thB (partsB ((x : Int) / 16777216)) d (partsB ((x : Int) / 16777216)).size := by
  have hb := right_bd h
  obtain ⟨t0, t1, t2, t3, t4, t5, t6, t7, t8, t9⟩ := bit_tab ⟨d, hd⟩
  simp only at t0 t1 t2 t3 t4 t5 t6 t7 t8 t9
  have f0 : (x ^^^ 2 ^ d) / 16777216 = x / 16777216 := by
    have := xor_div x (2 ^ d) 24
    rw [show 2 ^ 24 = 16777216 from rfl, t0, Nat.xor_zero] at this
    exact this
  have f1 : (x ^^^ 2 ^ d) / 1048576 % 16 = (x / 1048576 % 16) ^^^ (2 ^ d / 1048576 % 16) := by
    have h1 := xor_div x (2 ^ d) 20
    have h2 := xor_mod (x / 1048576) (2 ^ d / 1048576) 4
    rw [show 2 ^ 20 = 1048576 from rfl] at h1
    rw [h1]; exact h2
  have f2 : (x ^^^ 2 ^ d) / 65536 % 16 = (x / 65536 % 16) ^^^ (2 ^ d / 65536 % 16) := by
    have h1 := xor_div x (2 ^ d) 16
    have h2 := xor_mod (x / 65536) (2 ^ d / 65536) 4
    rw [show 2 ^ 16 = 65536 from rfl] at h1
    rw [h1]; exact h2
  have f3 : (x ^^^ 2 ^ d) % 65536 = (x % 65536) ^^^ (2 ^ d % 65536) := xor_mod x (2 ^ d) 16
  have l1 := xor_low (n := 4) (show x / 1048576 % 16 < 2 ^ 4 by omega) (show 2 ^ d / 1048576 % 16 < 2 ^ 4 by omega)
  have l2 := xor_low (n := 4) (show x / 65536 % 16 < 2 ^ 4 by omega) (show 2 ^ d / 65536 % 16 < 2 ^ 4 by omega)
  have l3 := xor_low (n := 16) (show x % 65536 < 2 ^ 16 by omega) (show 2 ^ d % 65536 < 2 ^ 16 by omega)
  have hk := turned_core ((x : Int) / 16777216) (x / 1048576 % 16) (x / 65536 % 16) (x % 65536) (2 ^ d / 1048576 % 16) (2 ^ d / 65536 % 16) (2 ^ d % 65536) d (by rw [show ((x / 1048576 % 16 : Nat) : Int) = (x : Int) / 1048576 % 16 by omega, show ((x / 65536 % 16 : Nat) : Int) = (x : Int) / 65536 % 16 by omega, show ((x % 65536 : Nat) : Int) = (x : Int) % 65536 by omega]; exact h) l1 l2 l3 t1 t2 t3 t4 t5 t6 t7 t8 t9
  rw [← f1, ← f2, ← f3] at hk
  rw [← hk]
  generalize hv : x ^^^ 2 ^ d = v at *
  rw [show (v : Int) / 16777216 = (x : Int) / 16777216 by omega, show (v : Int) / 1048576 % 16 = ((v / 1048576 % 16 : Nat) : Int) by omega, show (v : Int) / 65536 % 16 = ((v / 65536 % 16 : Nat) : Int) by omega, show (v : Int) % 65536 = ((v % 65536 : Nat) : Int) by omega]
end Go.Proofs.YtojgngefgianpaaDoor
