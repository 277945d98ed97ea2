/-
  Plain mathematics of turned words: the bits, one place on at a time; turned so often; what adds up. No program is named here.
-/
import Derived.Test.YtepcpjppogcjbaaDoorPlain
import Derived.Laws.BitsAllLaws
namespace Go.Proofs.YtepcpjppogcjbaaDoor

/-- One place on towards the high end. -/
def st (x : Nat) : Nat := 2 * x % 4294967296 + x / 2147483648
/-- So many places on. -/
def rotN (a : Nat) : Nat → Nat
  | 0 => a
  | k + 1 => st (rotN a k)
theorem st_lt (x : Nat) (h : x < 4294967296) : st x < 4294967296 := by unfold st; omega
theorem rotN_lt (a k : Nat) (h : a < 4294967296) : rotN a k < 4294967296 := by
  induction k with
  | zero => exact h
  | succ k ih => exact st_lt _ ih
theorem rotN_step (h t r p q : Nat) (hpq : p * q = 2147483648) (hh : h < q) (ht : t < 2) (hr : r < p) :
    st ((p * t + r) * q + h) = r * (2 * q) + (2 * h + t) := by
  have e : (p * t + r) * q + h = 2147483648 * t + (r * q + h) := by
    rw [Nat.add_mul, Nat.mul_right_comm, hpq]; omega
  have hm : r * q + h < 2147483648 := by
    have h1 : (r + 1) * q ≤ p * q := Nat.mul_le_mul_right q hr
    rw [Nat.add_mul, Nat.one_mul, hpq] at h1
    omega
  have e2 : r * (2 * q) = 2 * (r * q) := Nat.mul_left_comm r 2 q
  rw [e, e2]
  generalize r * q = z at *
  unfold st
  have : t = 0 ∨ t = 1 := by omega
  rcases this with rfl | rfl <;> omega
theorem rotN_eq (a k : Nat) (ha : a < 4294967296) (hk : k ≤ 32) : rotN a k = (a % 2 ^ (32 - k)) * 2 ^ k + a / 2 ^ (32 - k) := by
  induction k with
  | zero =>
    have e1 : a % 4294967296 = a := Nat.mod_eq_of_lt ha
    have e2 : a / 4294967296 = 0 := Nat.div_eq_of_lt ha
    simp [rotN, e1, e2]
  | succ k ih =>
    have hk' : k ≤ 31 := by omega
    show st (rotN a k) = _
    rw [ih (by omega)]
    have e1 : 32 - k = (31 - k) + 1 := by omega
    have e2 : 32 - (k + 1) = 31 - k := by omega
    have hpq : 2 ^ (31 - k) * 2 ^ k = 2147483648 := by rw [← Nat.pow_add, show 31 - k + k = 31 by omega]
    rw [e1, e2, Nat.pow_succ 2 (31 - k), Nat.pow_succ 2 k]
    have hp : 0 < 2 ^ (31 - k) := Nat.two_pow_pos _
    have hq : 0 < 2 ^ k := Nat.two_pow_pos _
    generalize 2 ^ (31 - k) = p at *
    generalize 2 ^ k = q at *
    have hq2 : p * 2 * q = 4294967296 := by rw [Nat.mul_right_comm, hpq]
    have hh : a / (p * 2) < q := by
      rw [Nat.div_lt_iff_lt_mul (by omega), Nat.mul_comm q, hq2]; exact ha
    have ht : a % (p * 2) / p < 2 := by
      rw [Nat.div_lt_iff_lt_mul hp, Nat.mul_comm 2]; exact Nat.mod_lt _ (by omega)
    have hr : a % (p * 2) % p < p := Nat.mod_lt _ hp
    have key := rotN_step (a / (p * 2)) (a % (p * 2) / p) (a % (p * 2) % p) p q hpq hh ht hr
    rw [Nat.div_add_mod] at key
    rw [key]
    have f1 : a % (p * 2) % p = a % p := Nat.mod_mul_right_mod a p 2
    have f2 : a / p = 2 * (a / (p * 2)) + a % (p * 2) / p := by
      have g1 : a = p * (2 * (a / (p * 2)) + a % (p * 2) / p) + a % (p * 2) % p := by
        rw [Nat.mul_add, Nat.add_assoc, Nat.div_add_mod (a % (p * 2)) p, ← Nat.mul_assoc, Nat.div_add_mod]
      have g2 : a / p = (p * (2 * (a / (p * 2)) + a % (p * 2) / p) + a % (p * 2) % p) / p := congrArg (· / p) g1
      rw [Nat.mul_add_div hp, Nat.div_eq_of_lt hr, Nat.add_zero] at g2
      exact g2
    rw [f1, f2, Nat.mul_comm q 2]
theorem rotN_add (a i j : Nat) : rotN (rotN a i) j = rotN a (i + j) := by
  induction j with
  | zero => rfl
  | succ j ih => show st (rotN (rotN a i) j) = st (rotN a (i + j)); rw [ih]
theorem rotN_32 (a : Nat) (ha : a < 4294967296) : rotN a 32 = a := by
  rw [rotN_eq a 32 ha (Nat.le_refl _)]; simp [Nat.mod_one]
theorem rotN_mul (a k m : Nat) (ha : a < 4294967296) : rotN a (32 * m + k) = rotN a k := by
  induction m with
  | zero => simp
  | succ m ih =>
    rw [show 32 * (m + 1) + k = 32 + (32 * m + k) by omega, ← rotN_add, rotN_32 a ha, ih]
theorem rotN_mod (a k : Nat) (ha : a < 4294967296) : rotN a k = rotN a (k % 32) := by
  have := rotN_mul a (k % 32) (k / 32) ha
  rw [Nat.div_add_mod] at this
  exact this

/-- A word turned n places on. -/
def rotI (a n : Int) : Int := (rotN a.toNat (n % 32).toNat : Nat)
theorem rotI_bd (a n : Int) (ha' : a < 4294967296) : 0 ≤ rotI a n ∧ rotI a n < 4294967296 := by
  unfold rotI
  have := rotN_lt a.toNat (n % 32).toNat (by omega)
  omega
theorem mask31 (n : Int) : bits .and .u64 (IntKind.u64.wrap n) 31 = n % 32 := by
  have e : IntKind.u64.wrap n = n % 18446744073709551616 := by simp [IntKind.wrap, IntKind.bits, IntKind.signed]
  rw [e]
  have h := bits_mask .u64 64 (by decide) (fun m h₀ h₁ => by simp [IntKind.wrap, IntKind.bits, IntKind.signed]; omega) 5 (by decide) (n % 18446744073709551616) (by omega) (by omega)
  have h' : bits .and .u64 (n % 18446744073709551616) 31 = n % 18446744073709551616 % 32 := h
  rw [h']; omega
theorem join_rot (a k : Int) (ha : 0 ≤ a) (ha' : a < 4294967296) (hk : 0 ≤ k) (hk' : k ≤ 31) :
    bits .or .u32 (a * 2 ^ min k.toNat 32 % 4294967296) (a / 2 ^ min (32 - k).toNat 32) = (rotN a.toNat k.toNat : Nat) := by
  obtain ⟨x, rfl⟩ := Int.eq_ofNat_of_zero_le ha
  obtain ⟨m, rfl⟩ := Int.eq_ofNat_of_zero_le hk
  have hm : m ≤ 31 := by omega
  have e1 : min ((m : Int)).toNat 32 = m := by omega
  have e2 : min (32 - (m : Int)).toNat 32 = 32 - m := by omega
  rw [e1, e2]
  have hx : x < 4294967296 := by omega
  have c1 : ((x : Int) * 2 ^ m % 4294967296) = ((x % 2 ^ (32 - m) * 2 ^ m : Nat) : Int) := by
    have q : 2 ^ (32 - m) * 2 ^ m = 4294967296 := by rw [← Nat.pow_add, show 32 - m + m = 32 by omega]
    have r : x * 2 ^ m % 4294967296 = x % 2 ^ (32 - m) * 2 ^ m := by rw [← q, Nat.mul_mod_mul_right]
    rw [← r]; simp
  have c2 : ((x : Int) / 2 ^ (32 - m)) = ((x / 2 ^ (32 - m) : Nat) : Int) := by simp
  have hp : 2 ^ (32 - m) * 2 ^ m = 4294967296 := by rw [← Nat.pow_add, show 32 - m + m = 32 by omega]
  have hlt : x / 2 ^ (32 - m) < 2 ^ m := by
    rw [Nat.div_lt_iff_lt_mul (Nat.two_pow_pos _), Nat.mul_comm, hp]; exact hx
  have hlo : x % 2 ^ (32 - m) * 2 ^ m < 4294967296 := by
    rw [← hp]; exact Nat.mul_lt_mul_of_pos_right (Nat.mod_lt _ (Nat.two_pow_pos _)) (Nat.two_pow_pos _)
  have hle : 2 ^ m ≤ 4294967296 := by
    have : 2 ^ m ≤ 2 ^ 32 := Nat.pow_le_pow_right (by decide) (by omega)
    exact this
  rw [c1, c2]
  have key := bits_join .u32 32 (by decide) wraps_u32 m ((x % 2 ^ (32 - m) * 2 ^ m : Nat) : Int) ((x / 2 ^ (32 - m) : Nat) : Int) (Int.natCast_nonneg _)
    (by
      have z : (x % 2 ^ (32 - m) * 2 ^ m) % 2 ^ m = 0 := Nat.mul_mod_left _ _
      have z' : (((x % 2 ^ (32 - m) * 2 ^ m) % 2 ^ m : Nat) : Int) = 0 := by rw [z]; rfl
      rw [Int.natCast_emod, Int.natCast_pow] at z'
      exact z')
    (by exact_mod_cast hlo) (Int.natCast_nonneg _) (by exact_mod_cast hlt) (by
      have : x / 2 ^ (32 - m) < 2 ^ 32 := by omega
      exact_mod_cast this)
  rw [key]
  have := rotN_eq x m hx (by omega)
  simp only [Int.toNat_natCast]
  rw [this]
  exact (Int.natCast_add _ _).symm
theorem join_rot' (a k : Int) (ha : 0 ≤ a) (ha' : a < 4294967296) (hk : 0 ≤ k) (hk' : k ≤ 31) :
    bits .or .u32 (a * 2 ^ k.toNat % 4294967296) (a / 2 ^ (32 - k).toNat) = (rotN a.toNat k.toNat : Nat) := by
  have h := join_rot a k ha ha' hk hk'
  rw [show min k.toNat 32 = k.toNat by omega, show min (32 - k).toNat 32 = (32 - k).toNat by omega] at h
  exact h
end Go.Proofs.YtepcpjppogcjbaaDoor
