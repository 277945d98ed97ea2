/-
  Plain mathematics of words as bytes: four bytes each, the lowest first. No program is named here.
-/
import Derived.Test.YtfaedjpfbaiojaaPlain
import Derived.Lib.UnsafeStr
namespace Go.Proofs.Ytfaedjpfbaiojaa

/-- A word's byte of a number. -/
def byteN (x j : Nat) : UInt8 := UInt8.ofNat (x / 256 ^ j % 256)
/-- A word's bytes, up to a number of them. -/
def w4n (x : Nat) : Nat → List UInt8
  | 0 => []
  | j + 1 => w4n x j ++ [byteN x j]
def w4 (x : Int) : List UInt8 := w4n x.toNat 4
/-- The bytes of all, one behind the other. -/
def wbytes (l : List Int) : List UInt8 := l.flatMap w4
theorem byteN_val (x j : Nat) : ((byteN x j).toNat : Int) = (x : Int) / 256 ^ j % 256 := by
  unfold byteN
  rw [UInt8.toNat_ofNat']
  have : x / 256 ^ j % 256 % 2 ^ 8 = x / 256 ^ j % 256 := Nat.mod_eq_of_lt (by omega)
  rw [this]; simp
theorem w4n_length (x j : Nat) : (w4n x j).length = j := by
  induction j with
  | zero => rfl
  | succ j ih => simp [w4n, ih]
theorem w4_length (x : Int) : (w4 x).length = 4 := w4n_length _ 4
theorem wbytes_nil : wbytes [] = [] := rfl
theorem wbytes_snoc (l : List Int) (x : Int) : wbytes (l ++ [x]) = wbytes l ++ w4 x := by
  simp [wbytes, List.flatMap_append]
theorem wbytes_cons (x : Int) (l : List Int) : wbytes (x :: l) = w4 x ++ wbytes l := by simp [wbytes]
theorem wbytes_length (l : List Int) : (wbytes l).length = 4 * l.length := by
  induction l with
  | nil => rfl
  | cons x l ih =>
    have e : wbytes (x :: l) = w4 x ++ wbytes l := by simp [wbytes]
    rw [e, List.length_append, w4_length, ih, List.length_cons]; omega
theorem take_snocI (l : List Int) (k : Nat) (h : k < l.length) : l.take (k + 1) = l.take k ++ [l[k]] := by
  rw [List.take_succ_eq_append_getElem h]
theorem div_step (x : Int) (j : Nat) (h : 0 ≤ x) : x / 256 ^ j / 256 = x / 256 ^ (j + 1) := by
  obtain ⟨m, rfl⟩ := Int.eq_ofNat_of_zero_le h
  have e : m / 256 ^ j / 256 = m / 256 ^ (j + 1) := by rw [Nat.div_div_eq_div_mul, Nat.pow_succ]
  have e' : ((m / 256 ^ j / 256 : Nat) : Int) = ((m / 256 ^ (j + 1) : Nat) : Int) := by rw [e]
  simpa using e'
theorem pack_step (L : List UInt8) (x y : Int) (j : Nat) (h : 0 ≤ x) (hy : y = x / 256 ^ j) :
    Lib.byteCells (L ++ w4n x.toNat j) ++ [.int .u8 (y % 256)] = Lib.byteCells (L ++ w4n x.toNat (j + 1)) := by
  obtain ⟨m, rfl⟩ := Int.eq_ofNat_of_zero_le h
  have e : y % 256 = ((byteN m j).toNat : Int) := by rw [byteN_val, hy]
  rw [e]
  simp [Lib.byteCells, w4n]
theorem cells_length (l : List UInt8) : (Lib.byteCells l).length = l.length := by simp [Lib.byteCells]
theorem pack_length (xs : List Int) (k x j : Nat) (hk : k ≤ xs.length) : (Lib.byteCells (wbytes (xs.take k) ++ w4n x j)).length = 4 * k + j := by
  rw [cells_length, List.length_append, wbytes_length, w4n_length, List.length_take]; omega
end Go.Proofs.Ytfaedjpfbaiojaa
