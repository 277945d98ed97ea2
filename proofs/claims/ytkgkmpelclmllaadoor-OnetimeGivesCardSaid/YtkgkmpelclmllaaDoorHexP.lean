/-
  Plain mathematics of hexadecimal texts: digits, texts, the lenient reading, dumps; what is loaded of texts and dumps; comments. No program is named here.
-/
import Derived.Lib.ItoaNum
namespace Go.Proofs.YtkgkmpelclmllaaDoor
open Go.Lib

/-- What a byte is as a digit; 16: it is none. -/
def dgt (c : UInt8) : Nat :=
  if 48 ≤ c.toNat ∧ c.toNat ≤ 57 then c.toNat - 48
  else if 97 ≤ c.toNat ∧ c.toNat ≤ 102 then c.toNat - 87
  else if 65 ≤ c.toNat ∧ c.toNat ≤ 70 then c.toNat - 55
  else 16
/-- A digit's sign, small. -/
def sgn (n : Nat) : UInt8 := UInt8.ofNat (if n < 10 then 48 + n else 87 + n)
/-- Two digits for each byte. -/
def textL : List UInt8 → List UInt8
  | [] => []
  | c :: r => sgn (c.toNat / 16) :: sgn (c.toNat % 16) :: textL r
/-- Is one inside a comment behind this byte? -/
def noteB (note : Bool) (c : UInt8) : Bool := if c.toNat = 35 then true else if c.toNat = 10 then false else note
/-- The lenient reading, from a state on: inside a comment or not; the higher digit, if there is one. -/
def ldF (note : Bool) (h : Nat) : List UInt8 → List UInt8
  | [] => []
  | c :: r =>
    if noteB note c = true ∨ dgt c = 16 then ldF (noteB note c) h r
    else if h = 16 then ldF (noteB note c) (dgt c) r
    else UInt8.ofNat (16 * h + dgt c) :: ldF (noteB note c) 16 r
def loadL (l : List UInt8) : List UInt8 := ldF false 16 l
/-- The place of the first byte that is no digit; how many there are, if all are. -/
def badP : List UInt8 → Nat
  | [] => 0
  | c :: r => if dgt c = 16 then 0 else badP r + 1
/-- A dump, from a place on. -/
def dpF (i : Nat) : List UInt8 → List UInt8
  | [] => []
  | c :: r => (if i % 16 = 0 then [] else [32]) ++ sgn (c.toNat / 16) :: sgn (c.toNat % 16) :: ((if i % 16 = 15 ∨ r = [] then [32, 32, 35, 32] ++ decDigits (i - i % 16) ++ [10] else []) ++ dpF (i + 1) r)
def dumpL (l : List UInt8) : List UInt8 := dpF 0 l

theorem sgn_val (n : Nat) (h : n < 16) : (sgn n).toNat = if n < 10 then 48 + n else 87 + n := by
  unfold sgn
  rw [UInt8.toNat_ofNat']
  split <;> exact Nat.mod_eq_of_lt (by omega)
theorem dgt_sgn (n : Nat) (h : n < 16) : dgt (sgn n) = n := by
  unfold dgt
  rw [sgn_val n h]
  by_cases q : n < 10
  · rw [if_pos q, if_pos (by omega)]; omega
  · rw [if_neg q, if_neg (by omega), if_pos (by omega)]; omega
theorem note_sgn (b : Bool) (n : Nat) (h : n < 16) : noteB b (sgn n) = b := by
  unfold noteB
  rw [sgn_val n h]
  by_cases q : n < 10
  · rw [if_pos q, if_neg (by omega), if_neg (by omega)]
  · rw [if_neg q, if_neg (by omega), if_neg (by omega)]
theorem byte_two (c : UInt8) : UInt8.ofNat (16 * (c.toNat / 16) + c.toNat % 16) = c := by
  rw [Nat.div_add_mod]; exact UInt8.ofNat_toNat
theorem ld_two (c : UInt8) (r : List UInt8) : ldF false 16 (sgn (c.toNat / 16) :: sgn (c.toNat % 16) :: r) = c :: ldF false 16 r := by
  have hc := c.toNat_lt
  have h1 : c.toNat / 16 < 16 := by omega
  have h2 : c.toNat % 16 < 16 := by omega
  rw [ldF, note_sgn _ _ h1, dgt_sgn _ h1, if_neg (by simp; omega), if_pos rfl, ldF, note_sgn _ _ h2, dgt_sgn _ h2, if_neg (by simp; omega), if_neg (by omega), byte_two]
theorem ld_text (s r : List UInt8) : ldF false 16 (textL s ++ r) = s ++ ldF false 16 r := by
  induction s with
  | nil => rfl
  | cons c s ih =>
    show ldF false 16 (sgn (c.toNat / 16) :: sgn (c.toNat % 16) :: (textL s ++ r)) = _
    rw [ld_two, ih]; rfl
theorem load_text (s : List UInt8) : loadL (textL s) = s := by
  have := ld_text s []
  simpa [loadL, ldF] using this
theorem ld_note (h : Nat) (ds r : List UInt8) (hd : ∀ c ∈ ds, c.toNat ≠ 10) : ldF true h (ds ++ 10 :: r) = ldF false h r := by
  induction ds with
  | nil =>
    show ldF true h (10 :: r) = _
    have e1 : noteB true 10 = false := rfl
    have e2 : dgt 10 = 16 := rfl
    rw [ldF, e1, e2, if_pos (Or.inr rfl)]
  | cons c ds ih =>
    have hc := hd c (by simp)
    have e1 : noteB true c = true := by
      unfold noteB
      by_cases q : c.toNat = 35
      · rw [if_pos q]
      · rw [if_neg q, if_neg hc]
    show ldF true h (c :: (ds ++ 10 :: r)) = _
    rw [ldF, e1, if_pos (Or.inl rfl)]
    exact ih (fun x hx => hd x (by simp [hx]))
theorem ld_skip (h : Nat) (c : UInt8) (r : List UInt8) (h1 : c.toNat ≠ 35) (h2 : dgt c = 16) : ldF false h (c :: r) = ldF false h r := by
  have e1 : noteB false c = false := by
    unfold noteB
    rw [if_neg h1]
    split <;> rfl
  rw [ldF, e1, if_pos (Or.inr h2)]
theorem ld_hash (h : Nat) (r : List UInt8) : ldF false h (35 :: r) = ldF true h r := by
  have e1 : noteB false 35 = true := rfl
  rw [ldF, e1, if_pos (Or.inl rfl)]
theorem digits_noten (u : Nat) : ∀ c ∈ decDigits u, c.toNat ≠ 10 := by
  induction u using Nat.strongRecOn with
  | _ u ih =>
    intro c hc
    by_cases h : u < 10
    · rw [decDigits, dif_pos h] at hc
      simp only [List.mem_singleton] at hc
      rw [hc, UInt8.toNat_ofNat', Nat.mod_eq_of_lt (by omega)]; omega
    · rw [decDigits, dif_neg h, List.mem_append] at hc
      rcases hc with hc | hc
      · exact ih (u / 10) (by omega) c hc
      · simp only [List.mem_singleton] at hc
        rw [hc, UInt8.toNat_ofNat', Nat.mod_eq_of_lt (by omega)]; omega
theorem ld_line (n : Nat) (r : List UInt8) : ldF false 16 ([32, 32, 35, 32] ++ decDigits n ++ [10] ++ r) = ldF false 16 r := by
  have e : [32, 32, 35, 32] ++ decDigits n ++ [10] ++ r = 32 :: 32 :: 35 :: ((32 :: decDigits n) ++ 10 :: r) := by simp
  rw [e, ld_skip 16 32 _ (by decide) (by decide), ld_skip 16 32 _ (by decide) (by decide), ld_hash, ld_note]
  intro c hc
  rw [List.mem_cons] at hc
  rcases hc with rfl | hc
  · decide
  · exact digits_noten n c hc
theorem ld_dump (s : List UInt8) : ∀ (i : Nat) (r : List UInt8), ldF false 16 (dpF i s ++ r) = s ++ ldF false 16 r := by
  induction s with
  | nil => intro i r; rfl
  | cons c s ih =>
    intro i r
    have hb : ∀ x : List UInt8, ldF false 16 ((if i % 16 = 0 then [] else [32]) ++ x) = ldF false 16 x := fun x => by
      by_cases q : i % 16 = 0
      · rw [if_pos q]; rfl
      · rw [if_neg q]; exact ld_skip 16 32 x (by decide) (by decide)
    have hl : ∀ x : List UInt8, ldF false 16 ((if i % 16 = 15 ∨ s = [] then [32, 32, 35, 32] ++ decDigits (i - i % 16) ++ [10] else []) ++ x) = ldF false 16 x := fun x => by
      by_cases q : i % 16 = 15 ∨ s = []
      · rw [if_pos q]; exact ld_line _ x
      · rw [if_neg q]; rfl
    rw [dpF, List.append_assoc, hb, List.cons_append, List.cons_append, ld_two, List.append_assoc, hl, ih]
    rfl
theorem load_dump (s : List UInt8) : loadL (dumpL s) = s := by
  have := ld_dump s 0 []
  simpa [loadL, dumpL, ldF] using this
theorem load_dump_text (s t : List UInt8) : loadL (dumpL s ++ textL t) = s ++ t := by
  unfold loadL dumpL
  rw [ld_dump]
  exact congrArg (s ++ ·) (load_text t)
theorem load_text_dump (s t : List UInt8) : loadL (textL t ++ dumpL s) = t ++ s := by
  unfold loadL
  rw [ld_text]
  exact congrArg (t ++ ·) (load_dump s)

/-! Comments play no part. -/
theorem ld_front (a : List UInt8) (ha : ∀ c ∈ a, c.toNat ≠ 35) (r₁ r₂ : List UInt8) (hr : ∀ h, ldF false h r₁ = ldF false h r₂) : ∀ h, ldF false h (a ++ r₁) = ldF false h (a ++ r₂) := by
  induction a with
  | nil => exact hr
  | cons c a ih =>
    intro h
    have hc := ha c (by simp)
    have ih' := ih (fun x hx => ha x (by simp [hx]))
    have e1 : noteB false c = false := by
      unfold noteB
      rw [if_neg hc]
      split <;> rfl
    show ldF false h (c :: (a ++ r₁)) = ldF false h (c :: (a ++ r₂))
    rw [ldF, ldF, e1]
    simp only [ih']
theorem load_note (a b n : List UInt8) (ha : ∀ c ∈ a, c.toNat ≠ 35) (hn : ∀ c ∈ n, c.toNat ≠ 10) : loadL (a ++ 35 :: (n ++ 10 :: b)) = loadL (a ++ b) :=
  ld_front a ha _ _ (fun h => by rw [ld_hash, ld_note h n b hn]) 16
theorem load_line (a b : List UInt8) (ha : ∀ c ∈ a, c.toNat ≠ 35) : loadL (a ++ 10 :: b) = loadL (a ++ b) :=
  ld_front a ha _ _ (fun h => ld_skip h 10 b (by decide) (by decide)) 16
theorem load_odd (a b : List UInt8) (ha : ∀ c ∈ a, c.toNat ≠ 35) : loadL (a ++ 122 :: 71 :: 45 :: 0 :: b) = loadL (a ++ b) :=
  ld_front a ha _ _ (fun h => by
    rw [ld_skip h 122 _ (by decide) (by decide), ld_skip h 71 _ (by decide) (by decide), ld_skip h 45 _ (by decide) (by decide), ld_skip h 0 _ (by decide) (by decide)]) 16

/-! How many bytes. -/
theorem ld_len (l : List UInt8) : ∀ (note : Bool) (h : Nat), 2 * (ldF note h l).length ≤ l.length + (if h = 16 then 0 else 1) := by
  induction l with
  | nil => intro note h; simp [ldF]
  | cons c l ih =>
    intro note h
    rw [ldF]
    by_cases q : noteB note c = true ∨ dgt c = 16
    · rw [if_pos q]
      have := ih (noteB note c) h
      rw [List.length_cons]; omega
    · rw [if_neg q]
      by_cases r : h = 16
      · rw [if_pos r]
        have := ih (noteB note c) (dgt c)
        have hd : dgt c ≠ 16 := fun e => q (Or.inr e)
        rw [if_neg hd] at this
        rw [if_pos r, List.length_cons]; omega
      · rw [if_neg r]
        have := ih (noteB note c) 16
        rw [if_pos rfl] at this
        rw [if_neg r, List.length_cons, List.length_cons]; omega
theorem load_len (l : List UInt8) : (loadL l).length ≤ l.length / 2 := by
  have := ld_len l false 16
  rw [if_pos rfl] at this
  show (ldF false 16 l).length ≤ _
  omega
theorem note_digit (c : UInt8) (h : dgt c ≠ 16) : noteB false c = false := by
  unfold noteB
  have h1 : c.toNat ≠ 35 := fun q => h (by unfold dgt; rw [q]; decide)
  rw [if_neg h1]
  split <;> rfl
theorem ld_all (l : List UInt8) (hl : ∀ c ∈ l, dgt c ≠ 16) : ∀ h, 2 * (ldF false h l).length + (if h = 16 then 0 else if l.length % 2 = 0 then 1 else 0) + (if h = 16 then l.length % 2 else 0) = l.length + (if h = 16 then 0 else if l.length % 2 = 0 then 1 else 1) := by
  induction l with
  | nil => intro h; simp [ldF]
  | cons c l ih =>
    intro h
    have hc := hl c (by simp)
    have ih' := ih (fun x hx => hl x (by simp [hx]))
    rw [ldF, note_digit c hc, if_neg (by simp [hc])]
    by_cases r : h = 16
    · have := ih' (dgt c)
      simp only [r, hc, if_true, if_false, List.length_cons] at this ⊢
      split at this <;> omega
    · have := ih' 16
      simp only [r, if_true, if_false, List.length_cons] at this ⊢
      split <;> omega
theorem load_all_len (l : List UInt8) (hl : ∀ c ∈ l, dgt c ≠ 16) (he : l.length % 2 = 0) : (loadL l).length = l.length / 2 := by
  have := ld_all l hl 16
  simp only [if_true, he] at this
  show (ldF false 16 l).length = _
  omega
theorem badP_le (l : List UInt8) : badP l ≤ l.length := by
  induction l with
  | nil => exact Nat.le_refl _
  | cons c l ih =>
    rw [badP, List.length_cons]
    split <;> omega
theorem badP_all (l : List UInt8) : badP l = l.length ↔ ∀ c ∈ l, dgt c ≠ 16 := by
  induction l with
  | nil => simp [badP]
  | cons c l ih =>
    rw [badP, List.length_cons]
    by_cases q : dgt c = 16
    · rw [if_pos q]
      constructor
      · intro e; omega
      · intro h; exact absurd q (h c (by simp))
    · rw [if_neg q]
      constructor
      · intro e x hx
        rw [List.mem_cons] at hx
        rcases hx with rfl | hx
        · exact q
        · exact ih.mp (by omega) x hx
      · intro h
        have := ih.mpr (fun x hx => h x (by simp [hx]))
        omega
theorem textL_len (s : List UInt8) : (textL s).length = 2 * s.length := by
  induction s with
  | nil => rfl
  | cons c s ih => rw [textL, List.length_cons, List.length_cons, List.length_cons, ih]; omega
theorem textL_digits (s : List UInt8) : ∀ c ∈ textL s, dgt c ≠ 16 := by
  induction s with
  | nil => intro c hc; cases hc
  | cons x s ih =>
    have hx := x.toNat_lt
    intro c hc
    rw [textL, List.mem_cons, List.mem_cons] at hc
    rcases hc with rfl | rfl | hc
    · rw [dgt_sgn _ (by omega)]; omega
    · rw [dgt_sgn _ (by omega)]; omega
    · exact ih c hc

/-! Great digits. -/
def greatC (c : UInt8) : UInt8 := if 97 ≤ c.toNat ∧ c.toNat ≤ 122 then UInt8.ofNat (c.toNat - 32) else c
theorem dgt_great (c : UInt8) (h : dgt c ≠ 16) : dgt (greatC c) = dgt c := by
  unfold greatC
  by_cases q : 97 ≤ c.toNat ∧ c.toNat ≤ 122
  · rw [if_pos q]
    have e : (UInt8.ofNat (c.toNat - 32)).toNat = c.toNat - 32 := by rw [UInt8.toNat_ofNat']; exact Nat.mod_eq_of_lt (by omega)
    have h102 : c.toNat ≤ 102 := by
      rcases Nat.lt_or_ge 102 c.toNat with r | r
      · exact absurd (by unfold dgt; rw [if_neg (by omega), if_neg (by omega), if_neg (by omega)]) h
      · exact r
    unfold dgt
    rw [e, if_neg (by omega), if_neg (by omega), if_pos (by omega), if_neg (by omega), if_pos (by omega)]
    omega
  · rw [if_neg q]
theorem ld_great (l : List UInt8) (hl : ∀ c ∈ l, dgt c ≠ 16) : ∀ h, ldF false h (l.map greatC) = ldF false h l := by
  induction l with
  | nil => intro h; rfl
  | cons c l ih =>
    intro h
    have hc := hl c (by simp)
    have hg := dgt_great c hc
    have ih' := ih (fun x hx => hl x (by simp [hx]))
    rw [List.map_cons, ldF, ldF, note_digit c hc, note_digit (greatC c) (by rw [hg]; exact hc), hg]
    simp only [ih']
theorem great_digits (l : List UInt8) (hl : ∀ c ∈ l, dgt c ≠ 16) : ∀ c ∈ l.map greatC, dgt c ≠ 16 := by
  intro c hc
  obtain ⟨x, hx, rfl⟩ := List.mem_map.mp hc
  rw [dgt_great x (hl x hx)]
  exact hl x hx
end Go.Proofs.YtkgkmpelclmllaaDoor
