/-
  Plain mathematics of decimal texts: the number that digits spell; it is read as it was written, and written as it was read. No program is named here.
-/
import Derived.Test.YtojgngefgianpaaDoorPlain
import Derived.Lib.ItoaNum
import Derived.Lib.ParseIntB
namespace Go.Proofs.YtojgngefgianpaaDoor
open Go.Lib

/-- What digits spell, behind a number that stands ahead of them. -/
def decF (acc : Nat) (l : List UInt8) : Nat := l.foldl (fun a c => a * 10 + (c.toNat - 48)) acc
def decV (l : List UInt8) : Nat := decF 0 l
/-- How a text is read: the error, and the word. -/
def parseE (l : List UInt8) : Int := if numB l = false then 3 else if 4294967296 ≤ decV l then 2 else 0
def parseV (l : List UInt8) : Int := if numB l = true ∧ decV l < 4294967296 then (decV l : Int) else 0
theorem decF_cons (acc : Nat) (c : UInt8) (l : List UInt8) : decF acc (c :: l) = decF (acc * 10 + (c.toNat - 48)) l := by
  unfold decF
  rw [List.foldl_cons]
theorem decV_snoc (l : List UInt8) (c : UInt8) : decV (l ++ [c]) = decV l * 10 + (c.toNat - 48) := by
  unfold decV decF
  rw [List.foldl_append]; rfl
theorem decF_ge (l : List UInt8) : ∀ acc, acc ≤ decF acc l := by
  induction l with
  | nil => intro acc; exact Nat.le_refl _
  | cons c l ih => intro acc; rw [decF_cons]; exact Nat.le_trans (by omega) (ih _)
theorem parseM_eq (M : Nat) (hM : M < 1844674407370955162) (l : List UInt8) : ∀ acc, acc ≤ M → l.all digB = true → parseUintM M acc l = if decF acc l ≤ M then .ok (decF acc l) else .range := by
  induction l with
  | nil => intro acc h _; simp [parseUintM, decF, h]
  | cons c l ih =>
    intro acc h hd
    rw [List.all_cons, Bool.and_eq_true] at hd
    obtain ⟨h1, h2⟩ := hd
    have hc := digB_iff.mp h1
    rw [parseUintM, if_pos hc, if_neg (by omega), decF_cons]
    by_cases hb : M < acc * 10 + (c.toNat - 48)
    · rw [if_pos hb]
      have := decF_ge l (acc * 10 + (c.toNat - 48))
      rw [if_neg (by omega)]
    · rw [if_neg hb]
      exact ih _ (by omega) h2
theorem numB_parts {l : List UInt8} (h : numB l = true) : l ≠ [] ∧ l.all digB = true ∧ (l.head? = some 48 → l.length ≤ 1) := by
  unfold numB allD at h
  simp only [Bool.and_eq_true, Bool.not_eq_true', List.isEmpty_eq_false_iff] at h
  obtain ⟨⟨h1, h2⟩, h3⟩ := h
  refine ⟨h1, h3, fun q => ?_⟩
  rw [q] at h2
  simp at h2
  omega
theorem numB_of {l : List UInt8} (h1 : l ≠ []) (h2 : l.all digB = true) (h3 : l.head? = some 48 → l.length ≤ 1) : numB l = true := by
  unfold numB allD
  simp only [Bool.and_eq_true, Bool.not_eq_true', List.isEmpty_eq_false_iff]
  refine ⟨⟨h1, ?_⟩, h2⟩
  by_cases hq : l.head? = some 48
  · have := h3 hq
    simp [hq]; omega
  · simp [hq]
theorem parseB_ok {l : List UInt8} (h : numB l = true) (hv : decV l < 4294967296) : parseUintB 32 l = .ok (decV l) := by
  obtain ⟨h1, h2, _⟩ := numB_parts h
  unfold parseUintB
  rw [if_neg h1, parseM_eq (2 ^ 32 - 1) (by decide) l 0 (by omega) h2, if_pos (by unfold decV at hv; omega)]
  rfl
theorem parseB_range {l : List UInt8} (h : numB l = true) (hv : 4294967296 ≤ decV l) : parseUintB 32 l = .range := by
  obtain ⟨h1, h2, _⟩ := numB_parts h
  unfold parseUintB
  rw [if_neg h1, parseM_eq (2 ^ 32 - 1) (by decide) l 0 (by omega) h2, if_neg (by unfold decV at hv; omega)]

/-! Read as it was written. -/
theorem digit_val (d : Nat) (h : d < 10) : (UInt8.ofNat (48 + d)).toNat = 48 + d := by
  rw [UInt8.toNat_ofNat']; exact Nat.mod_eq_of_lt (by omega)
theorem decV_digits (u : Nat) : decV (decDigits u) = u := by
  induction u using Nat.strongRecOn with
  | _ u ih =>
    by_cases h : u < 10
    · rw [decDigits, dif_pos h]
      show 0 * 10 + ((UInt8.ofNat (48 + u)).toNat - 48) = u
      rw [digit_val u h]; omega
    · rw [decDigits, dif_neg h, decV_snoc, ih (u / 10) (by omega), digit_val _ (by omega)]; omega
theorem digits_ne (u : Nat) : decDigits u ≠ [] := by
  by_cases h : u < 10
  · rw [decDigits, dif_pos h]; simp
  · rw [decDigits, dif_neg h]; simp
theorem digits_all (u : Nat) : (decDigits u).all digB = true := by
  induction u using Nat.strongRecOn with
  | _ u ih =>
    by_cases h : u < 10
    · rw [decDigits, dif_pos h]
      simp only [List.all_cons, List.all_nil, Bool.and_true]
      rw [digB_iff, digit_val u h]; omega
    · rw [decDigits, dif_neg h, List.all_append, ih (u / 10) (by omega)]
      simp only [List.all_cons, List.all_nil, Bool.and_true, Bool.true_and]
      rw [digB_iff, digit_val _ (by omega)]; omega
theorem digits_head (u : Nat) (hu : 1 ≤ u) : (decDigits u).head? ≠ some 48 := by
  induction u using Nat.strongRecOn with
  | _ u ih =>
    by_cases h : u < 10
    · rw [decDigits, dif_pos h]
      intro q
      simp only [List.head?_cons, Option.some.injEq] at q
      have := congrArg UInt8.toNat q
      rw [digit_val u h] at this
      have e : (48 : UInt8).toNat = 48 := rfl
      omega
    · rw [decDigits, dif_neg h]
      have := ih (u / 10) (by omega) (by omega)
      have hne := digits_ne (u / 10)
      cases hd : decDigits (u / 10) with
      | nil => exact absurd hd hne
      | cons c r => rw [hd] at this; simpa using this
theorem digits_num (u : Nat) : numB (decDigits u) = true := by
  refine numB_of (digits_ne u) (digits_all u) fun q => ?_
  by_cases h : u = 0
  · subst h
    rw [decDigits, dif_pos (by decide)]; exact Nat.le_refl _
  · exact absurd q (digits_head u (by omega))

/-! Written as it was read. -/
theorem digits_back (n : Nat) : ∀ l : List UInt8, l.length = n → l ≠ [] → l.all digB = true → l.head? ≠ some 48 → decDigits (decV l) = l ∧ 1 ≤ decV l := by
  induction n with
  | zero =>
    intro l hl hne
    exact absurd (List.length_eq_zero_iff.mp hl) hne
  | succ n ih =>
    intro l hl hne hall hh
    rcases List.eq_nil_or_concat l with e | ⟨L, c, e⟩
    · exact absurd e hne
    · rw [List.concat_eq_append] at e
      subst e
      rw [List.all_append, Bool.and_eq_true] at hall
      obtain ⟨hL, hc⟩ := hall
      simp only [List.all_cons, List.all_nil, Bool.and_true] at hc
      have hd := digB_iff.mp hc
      have hcc : UInt8.ofNat (48 + (c.toNat - 48)) = c := by
        rw [show 48 + (c.toNat - 48) = c.toNat by omega]; exact UInt8.ofNat_toNat
      rw [decV_snoc]
      by_cases hn : L = []
      · subst hn
        have h48 : c.toNat ≠ 48 := fun q => hh (by
          have : c = 48 := UInt8.toNat_inj.mp q
          rw [this]; rfl)
        have e0 : decV [] = 0 := rfl
        rw [e0, Nat.zero_mul, Nat.zero_add, decDigits, dif_pos (by omega), hcc]
        exact ⟨rfl, by omega⟩
      · have hh' : L.head? ≠ some 48 := by
          cases L with
          | nil => exact absurd rfl hn
          | cons a r => simpa using hh
        obtain ⟨h1, h2⟩ := ih L (by simp at hl; exact hl) hn hL hh'
        rw [decDigits, dif_neg (by omega), show (decV L * 10 + (c.toNat - 48)) / 10 = decV L by omega, show (decV L * 10 + (c.toNat - 48)) % 10 = c.toNat - 48 by omega, h1, hcc]
        exact ⟨rfl, by omega⟩
theorem digits_read {l : List UInt8} (h : numB l = true) : decDigits (decV l) = l := by
  obtain ⟨h1, h2, h3⟩ := numB_parts h
  by_cases hq : l.head? = some 48
  · have hl := h3 hq
    cases l with
    | nil => exact absurd rfl h1
    | cons c r =>
      have : r = [] := by simp at hl; exact hl
      subst this
      simp only [List.head?_cons, Option.some.injEq] at hq
      subst hq
      show decDigits 0 = [48]
      rw [decDigits, dif_pos (by decide)]; rfl
  · exact (digits_back l.length l rfl h1 h2 hq).1
end Go.Proofs.YtojgngefgianpaaDoor
