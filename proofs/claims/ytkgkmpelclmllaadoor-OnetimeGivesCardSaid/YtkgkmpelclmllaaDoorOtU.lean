/-
  Plain mathematics of the numbers of two unlike messages: each has one that is less than the other's. No program is named here.
-/
import Derived.Test.YtkgkmpelclmllaaDoorOtA
namespace Go.Proofs.YtkgkmpelclmllaaDoor
open Go.RowKit

theorem lack_mono : ∀ (l m : List Nat), l.length = m.length → (∀ i, m.getD i 0 ≤ l.getD i 0) → lackN l ≤ lackN m
  | [], [], _, _ => Nat.le_refl _
  | [], _ :: _, h, _ => by simp at h
  | _ :: _, [], h, _ => by simp at h
  | a :: l, b :: m, h, hi => by
    have h0 : b ≤ a := by simpa using hi 0
    have hr := lack_mono l m (by simpa using h) (fun i => by simpa using hi (i + 1))
    show (15 - a) + lackN l ≤ (15 - b) + lackN m
    omega
theorem lack_same : ∀ (l m : List Nat), l.length = m.length → (∀ i, m.getD i 0 ≤ l.getD i 0) → (∀ y ∈ l, y < 16) → lackN l = lackN m → l = m
  | [], [], _, _, _, _ => rfl
  | [], _ :: _, h, _, _, _ => by simp at h
  | _ :: _, [], h, _, _, _ => by simp at h
  | a :: l, b :: m, h, hi, hl, he => by
    have h0 : b ≤ a := by simpa using hi 0
    have ha : a < 16 := hl a (by simp)
    have hr := lack_mono l m (by simpa using h) (fun i => by simpa using hi (i + 1))
    have he' : (15 - a) + lackN l = (15 - b) + lackN m := he
    have e1 : a = b := by omega
    have e2 : lackN l = lackN m := by omega
    subst e1
    rw [lack_same l m (by simpa using h) (fun i => by simpa using hi (i + 1)) (fun y hy => hl y (by simp [hy])) e2]
def valR : List Nat → Nat
  | [] => 0
  | d :: r => 16 ^ r.length * d + valR r
theorem valR_nibs (a n : Nat) : valR (nibs a n) = a % 16 ^ n := by
  induction n with
  | zero => simp [nibs, valR, Nat.mod_one]
  | succ n ih =>
    show 16 ^ (nibs a n).length * nib a n + valR (nibs a n) = _
    rw [nibs_len, ih, Nat.mod_pow_succ, nib, Nat.add_comm]
theorem nibs8_inj {a b : Nat} (ha : a < 4294967296) (hb : b < 4294967296) (h : nibs a 8 = nibs b 8) : a = b := by
  have e : valR (nibs a 8) = valR (nibs b 8) := by rw [h]
  rw [valR_nibs, valR_nibs, show (16 : Nat) ^ 8 = 4294967296 from rfl, Nat.mod_eq_of_lt ha, Nat.mod_eq_of_lt hb] at e
  exact e
theorem word_inj {x y : Int} (hx : isW x) (hy : isW y) (h : nibs x.toNat 8 = nibs y.toNat 8) : x = y := by
  have := nibs8_inj (a := x.toNat) (b := y.toNat) (by have := hx.1; have := hx.2; omega) (by have := hy.1; have := hy.2; omega) h
  have := hx.1
  have := hy.1
  omega
theorem digL_inj {x y : D4} (hx : x.ok) (hy : y.ok) (h : digL x = digL y) : x = y := by
  obtain ⟨x0, x1, x2, x3⟩ := hx
  obtain ⟨y0, y1, y2, y3⟩ := hy
  unfold digL at h
  obtain ⟨h0, h⟩ := List.append_inj h (by rw [nibs_len, nibs_len])
  obtain ⟨h1, h⟩ := List.append_inj h (by rw [nibs_len, nibs_len])
  obtain ⟨h2, h3⟩ := List.append_inj h (by rw [nibs_len, nibs_len])
  have e0 := word_inj x0 y0 h0
  have e1 := word_inj x1 y1 h1
  have e2 := word_inj x2 y2 h2
  have e3 := word_inj x3 y3 h3
  cases x; cases y
  simp only at e0 e1 e2 e3
  rw [e0, e1, e2, e3]
theorem num_dig (d : D4) (i : Nat) (h : i < 32) : num d i = (digL d).getD i 0 := by
  unfold num numL
  rw [List.getD_eq_getElem?_getD, List.getD_eq_getElem?_getD, List.getElem?_append_left (by rw [digL_len]; exact h)]
theorem num_sum (d : D4) (j : Nat) : num d (32 + j) = (nibs (lackN (digL d)) 3).getD j 0 := by
  unfold num numL
  rw [List.getD_eq_getElem?_getD, List.getD_eq_getElem?_getD, List.getElem?_append_right (by rw [digL_len]; omega), digL_len, Nat.add_sub_cancel_left]
theorem unlike_less {x y : D4} (hx : x.ok) (hy : y.ok) (h : x ≠ y) : ∃ i, i < 35 ∧ num x i < num y i := by
  rcases Classical.em (∃ i, i < 35 ∧ num x i < num y i) with q | q
  · exact q
  · exfalso
    have hle : ∀ i, i < 35 → num y i ≤ num x i := fun i hi => by
      rcases Nat.lt_or_ge (num x i) (num y i) with k | k
      · exact absurd ⟨i, hi, k⟩ q
      · exact k
    have hd : ∀ i, (digL y).getD i 0 ≤ (digL x).getD i 0 := fun i => by
      rcases Nat.lt_or_ge i 32 with k | k
      · have := hle i (by omega)
        rw [num_dig _ _ k, num_dig _ _ k] at this
        exact this
      · rw [List.getD_eq_getElem?_getD, List.getElem?_eq_none (by rw [digL_len]; exact k)]
        exact Nat.zero_le _
    have hl : (digL x).length = (digL y).length := by rw [digL_len, digL_len]
    have hm := lack_mono _ _ hl hd
    have b1 := digL_lack x
    have b2 := digL_lack y
    have s0 := hle 32 (by omega)
    have s1 := hle 33 (by omega)
    have s2 := hle 34 (by omega)
    rw [show (32 : Nat) = 32 + 0 from rfl, num_sum, num_sum] at s0
    rw [show (33 : Nat) = 32 + 1 from rfl, num_sum, num_sum] at s1
    rw [show (34 : Nat) = 32 + 2 from rfl, num_sum, num_sum] at s2
    have e : lackN (digL x) = lackN (digL y) := by
      generalize lackN (digL x) = a at *
      generalize lackN (digL y) = b at *
      simp only [nibs, nib, List.getD_cons_zero, List.getD_cons_succ] at s0 s1 s2
      simp only [show (16 : Nat) ^ 2 = 256 from rfl, show (16 : Nat) ^ 1 = 16 from rfl, show (16 : Nat) ^ 0 = 1 from rfl] at s0 s1 s2
      omega
    exact h (digL_inj hx hy (lack_same _ _ hl hd (digL_lt x) e))
/-- Is a number of the one less than that of the other, among the first so many? -/
def anyL (a b : Nat → Nat) : Nat → Bool
  | 0 => false
  | k + 1 => anyL a b k || decide (a k < b k)
theorem anyL_yes (a b : Nat → Nat) (n i : Nat) (hi : i < n) (h : a i < b i) : anyL a b n = true := by
  induction n with
  | zero => omega
  | succ n ih =>
    rw [anyL]
    rcases Nat.lt_or_ge i n with q | q
    · rw [ih q]; rfl
    · have : i = n := by omega
      subst this
      rw [decide_eq_true h, Bool.or_true]
theorem anyL_no (a : Nat → Nat) (n : Nat) : anyL a a n = false := by
  induction n with
  | zero => rfl
  | succ n ih => rw [anyL, ih, decide_eq_false (Nat.lt_irrefl _)]; rfl
theorem any_unlike {x y : D4} (hx : x.ok) (hy : y.ok) : anyL (num x) (num y) 35 = !sameD x y := by
  by_cases h : x = y
  · subst h
    rw [anyL_no, (sameD_iff x x).mpr rfl]; rfl
  · obtain ⟨i, hi, hl⟩ := unlike_less hx hy h
    rw [anyL_yes _ _ 35 i hi hl]
    cases e : sameD x y
    · rfl
    · exact absurd ((sameD_iff x y).mp e) h
end Go.Proofs.YtkgkmpelclmllaaDoor
