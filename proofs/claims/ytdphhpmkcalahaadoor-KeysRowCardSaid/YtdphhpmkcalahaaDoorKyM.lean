/-
  Plain mathematics of trees of keys: a way up from its lowest step; what is signed holds; two that hold at one place. No program is named here but in the names of what they answer.
-/
import Derived.Test.YtdphhpmkcalahaaDoorKyD
namespace Go.Proofs.YtdphhpmkcalahaaDoor
open Go.RowKit

/-- The way up from a leaf, its lowest step first. -/
def climb (i : Nat) (a : D4) : List D4 → D4
  | [] => a
  | x :: p => climb (i / 2) (if i % 2 = 1 then pairS x a else pairS a x) p
theorem climb_snoc (x : D4) : ∀ (r : List D4) (i : Nat) (a : D4), climb i a (r ++ [x]) = if i / 2 ^ r.length % 2 = 1 then pairS x (climb i a r) else pairS (climb i a r) x
  | [], i, a => by simp [climb]
  | y :: r, i, a => by
    show climb (i / 2) _ (r ++ [x]) = _
    rw [climb_snoc x r (i / 2)]
    show (if i / 2 / 2 ^ r.length % 2 = 1 then _ else _) = (if i / 2 ^ (r.length + 1) % 2 = 1 then _ else _)
    rw [Nat.div_div_eq_div_mul, Nat.pow_succ, Nat.mul_comm 2]
    rfl
/-- Only the low bits of the place play a part. -/
theorem climb_low : ∀ (r : List D4) (i k : Nat) (a : D4), i % 2 ^ r.length = k % 2 ^ r.length → climb i a r = climb k a r
  | [], _, _, _, _ => rfl
  | y :: r, i, k, a, h => by
    have h' : i % (2 * 2 ^ r.length) = k % (2 * 2 ^ r.length) := by
      rw [show (y :: r).length = r.length + 1 from rfl, Nat.pow_succ, Nat.mul_comm] at h
      exact h
    have h2 : i % 2 = k % 2 := by
      have a1 := Nat.mod_mul_right_mod i 2 (2 ^ r.length)
      have a2 := Nat.mod_mul_right_mod k 2 (2 ^ r.length)
      rw [← a1, ← a2, h']
    have h3 : i / 2 % 2 ^ r.length = k / 2 % 2 ^ r.length := by
      have a1 := Nat.mod_mul_right_div_self i 2 (2 ^ r.length)
      have a2 := Nat.mod_mul_right_div_self k 2 (2 ^ r.length)
      rw [← a1, ← a2, h']
    show climb (i / 2) _ r = climb (k / 2) _ r
    rw [h2, climb_low r (i / 2) (k / 2) _ h3]
theorem half_pow (a : Nat) : half (2 ^ (a + 1)) = 2 ^ a := half_of (by rw [Nat.pow_succ]; have := Nat.two_pow_pos a; omega) (Nat.le_refl _)
theorem up_climb : ∀ (m : Nat) (p : List D4) (i : Nat) (a : D4), p.length = m → i < 2 ^ m → up pairS (2 ^ m) i a p = (climb i a p, true)
  | 0, p, i, a, hp, hi => by
    have : p = [] := List.length_eq_zero_iff.mp hp
    subst this
    rw [up_one pairS a [] (by simp)]
    rfl
  | m + 1, p, i, a, hp, hi => by
    rcases List.eq_nil_or_concat p with rfl | ⟨r, x, rfl⟩
    · simp at hp
    · rw [List.concat_eq_append] at *
      have hr : r.length = m := by simpa using hp
      have h1 : ¬ (2 : Nat) ^ (m + 1) ≤ 1 := by rw [Nat.pow_succ]; have := Nat.two_pow_pos m; omega
      have hpow : (2 : Nat) ^ (m + 1) = 2 ^ m + 2 ^ m := by rw [Nat.pow_succ]; omega
      rw [climb_snoc, hr]
      by_cases q : i < 2 ^ m
      · rw [up_left pairS a r x h1 (by rw [half_pow]; exact q), half_pow, up_climb m r i a hr q, if_neg (by rw [Nat.div_eq_of_lt q]; decide)]
      · have hi2 : i - 2 ^ m < 2 ^ m := by omega
        rw [up_right pairS a r x h1 (by rw [half_pow]; exact q), half_pow, show 2 ^ (m + 1) - 2 ^ m = 2 ^ m by omega, up_climb m r (i - 2 ^ m) a hr hi2]
        have e : i / 2 ^ m = 1 := by
          rw [Nat.div_eq_of_lt_le (k := 1) (by omega) (by omega)]
        rw [e, if_pos rfl, climb_low r (i - 2 ^ m) i a (by rw [hr]; rw [show i = (i - 2 ^ m) + 2 ^ m by omega, Nat.add_mod_right, Nat.add_sub_cancel])]
theorem way_len_pow : ∀ (h : Nat) (l : List D4) (i : Nat), l.length = 2 ^ h → (way pairS noneD l i).length = h
  | 0, l, i, hl => by rw [way_few pairS noneD l i (by rw [hl]; decide)]; rfl
  | h + 1, l, i, hl => by
    have hpow : (2 : Nat) ^ (h + 1) = 2 ^ h + 2 ^ h := by rw [Nat.pow_succ]; omega
    have hp := Nat.two_pow_pos h
    have h2 : 2 ≤ l.length := by omega
    have hh : half l.length = 2 ^ h := by rw [hl, half_pow]
    by_cases q : i < half l.length
    · rw [way_left pairS noneD l i h2 q, List.length_append, way_len_pow h _ i (by rw [List.length_take, hh]; omega)]; rfl
    · rw [way_right pairS noneD l i h2 q, List.length_append, way_len_pow h _ _ (by rw [List.length_drop, hh]; omega)]; rfl
theorem pathK_len_eq (s : D4) (h i : Nat) : (pathK s h i).length = h := way_len_pow h _ i (keysL_len s h)
theorem keysL_at (s : D4) (h i : Nat) (hi : i < 2 ^ h) : (keysL s h)[i]? = some (keyK s i) := by
  have := mapR_at (keyK s) (2 ^ h) i hi
  rw [List.getD_eq_getElem?_getD] at this
  have hl : i < (keysL s h).length := by rw [keysL_len]; exact hi
  rw [show mapR (keyK s) (2 ^ h) = keysL s h from rfl, List.getElem?_eq_getElem hl] at this
  rw [List.getElem?_eq_getElem hl]
  simpa using this
/-- The way up from a key is to the public key. -/
theorem climb_key (s : D4) (h i : Nat) (hi : i < 2 ^ h) : climb i (keyK s i) (pathK s h i) = pubK s h := by
  have h1 := up_way pairS noneD (keysL s h).length (keysL s h) i rfl (keyK s i) (keysL_at s h i hi)
  have h2 := up_climb h (pathK s h i) i (keyK s i) (pathK_len_eq s h i) hi
  rw [keysL_len] at h1
  have h3 : up pairS (2 ^ h) i (keyK s i) (pathK s h i) = (pubK s h, true) := h1
  rw [h2] at h3
  exact congrArg Prod.fst h3
/-- What holding says. -/
theorem check6_iff (pub msg : D4) (i : Int) (S Q : List D4) : check6 pub msg i S Q = true ↔ Q.length ≤ 4 ∧ S.length = 35 ∧ 0 ≤ i ∧ i < ((2 ^ Q.length : Nat) : Int) ∧ climb i.toNat (reachV msg S) Q = pub := by
  unfold check6
  rw [Bool.and_eq_true, Bool.and_eq_true, decide_eq_true_iff]
  constructor
  · rintro ⟨h1, h2, h3⟩
    unfold checkD at h3
    split at h3
    · cases h3
    · rename_i hq
      have hi : i.toNat < 2 ^ Q.length := by omega
      rw [Bool.and_eq_true, Int.toNat_natCast, upD, up_climb Q.length Q i.toNat _ rfl hi] at h3
      exact ⟨h1, of_decide_eq_true h2, by omega, by omega, (sameD_iff _ _).mp h3.2⟩
  · rintro ⟨h1, h2, h3, h4, h5⟩
    have hi : i.toNat < 2 ^ Q.length := by omega
    have h16 := pow_le16 (Nat.le_refl Q.length) h1
    refine ⟨h1, decide_eq_true h2, ?_⟩
    unfold checkD
    rw [if_neg (by omega), Int.toNat_natCast, upD, up_climb Q.length Q i.toNat _ rfl hi, h5]
    show (true && sameD pub pub) = true
    rw [(sameD_iff _ _).mpr rfl]; rfl
/-- What is signed holds. -/
theorem check6_sign (s msg : D4) (h i : Nat) (hh : h ≤ 4) (hi : i < 2 ^ h) : check6 (pubK s h) msg (i : Int) (signL (seedK s i) msg) (pathK s h i) = true := by
  rw [check6_iff, pathK_len_eq]
  refine ⟨hh, signL_len _ _, by omega, by omega, ?_⟩
  rw [Int.toNat_natCast, reachV, if_pos (signL_len _ _), reach_sign]
  exact climb_key s h i hi
/-- Do the ways up from two unlike digests meet in two unlike pairs with one digest? -/
def pairAt (i : Nat) (a x : D4) : D4 × D4 := if i % 2 = 1 then (x, a) else (a, x)
def clash6 (i : Nat) (a : D4) (p : List D4) (b : D4) (q : List D4) : Bool :=
  match p, q with
  | x :: p, y :: q =>
    (!(sameD (pairAt i a x).1 (pairAt i b y).1 && sameD (pairAt i a x).2 (pairAt i b y).2) && sameD (pairS (pairAt i a x).1 (pairAt i a x).2) (pairS (pairAt i b y).1 (pairAt i b y).2)) || clash6 (i / 2) (pairS (pairAt i a x).1 (pairAt i a x).2) p (pairS (pairAt i b y).1 (pairAt i b y).2) q
  | _, _ => false
theorem climb_pair (i : Nat) (a x : D4) (p : List D4) : climb i a (x :: p) = climb (i / 2) (pairS (pairAt i a x).1 (pairAt i a x).2) p := by
  show climb (i / 2) _ p = _
  unfold pairAt
  split <;> rfl
/-- Two that hold at one place are of one key, or a clash is shown. -/
theorem clash6_shown : ∀ (p q : List D4) (i : Nat) (a b : D4), p.length = q.length → climb i a p = climb i b q → a ≠ b → clash6 i a p b q = true
  | [], [], _, a, b, _, h, hne => absurd h hne
  | [], _ :: _, _, _, _, h, _, _ => by simp at h
  | _ :: _, [], _, _, _, h, _, _ => by simp at h
  | x :: p, y :: q, i, a, b, hl, h, hne => by
    rw [climb_pair, climb_pair] at h
    rw [clash6]
    have hpair : (sameD (pairAt i a x).1 (pairAt i b y).1 && sameD (pairAt i a x).2 (pairAt i b y).2) = false := by
      rw [Bool.and_eq_false_iff]
      unfold pairAt
      split
      · right
        cases e : sameD a b
        · rfl
        · exact absurd ((sameD_iff a b).mp e) hne
      · left
        cases e : sameD a b
        · rfl
        · exact absurd ((sameD_iff a b).mp e) hne
    rw [hpair]
    by_cases e : pairS (pairAt i a x).1 (pairAt i a x).2 = pairS (pairAt i b y).1 (pairAt i b y).2
    · rw [(sameD_iff _ _).mpr e]; rfl
    · rw [clash6_shown p q (i / 2) _ _ (by simpa using hl) h e, Bool.or_true]
end Go.Proofs.YtdphhpmkcalahaaDoor
