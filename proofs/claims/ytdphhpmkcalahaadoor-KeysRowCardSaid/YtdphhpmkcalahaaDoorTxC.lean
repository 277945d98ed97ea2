/-
  The document's Text of bytes and of a digest, as later layers want them.
-/
import Derived.Lib.ItoaNum
import Derived.Test.YtdphhpmkcalahaaDoorProg
import Derived.WalkKit
import Derived.BigQuiet
import Derived.Deep.QuietTactic
import Derived.Lib.Hide
import Derived.OwnWalk
import Derived.WalkSmall
import Derived.Laws.IdiomStrings
import Derived.Outline
import Derived.Deep.RegionHeld3
import Derived.Deep.AppendLies
import Derived.Test.YtdphhpmkcalahaaDoorDgC2
import Derived.Lib.ConvBytes
import Derived.BigRegion
import Derived.Lib.ItoaMem
namespace Go.Proofs.YtdphhpmkcalahaaDoor

section
/-! Plain mathematics of hexadecimal texts: digits, texts, the lenient reading, dumps; what is loaded of texts and dumps; comments. No program is named here. -/
open Go.Lib

/-- What a byte is as a digit; 16: it is none. -/
def dgt (c : UInt8) : Nat :=
  if 48 ≤ c.toNat ∧ c.toNat ≤ 57 then c.toNat - 48
  else if 97 ≤ c.toNat ∧ c.toNat ≤ 102 then c.toNat - 87
  else if 65 ≤ c.toNat ∧ c.toNat ≤ 70 then c.toNat - 55
  else 16
/-- A digit's sign, small. -/
def sgn (n : Nat) : UInt8 := UInt8.ofNat (if n < 10 then 48 + n else 87 + n)
/-- Two digits for each byte. -/
def textL : List UInt8 → List UInt8
  | [] => []
  | c :: r => sgn (c.toNat / 16) :: sgn (c.toNat % 16) :: textL r
/-- Is one inside a comment behind this byte? -/
def noteB (note : Bool) (c : UInt8) : Bool := if c.toNat = 35 then true else if c.toNat = 10 then false else note
/-- The lenient reading, from a state on: inside a comment or not; the higher digit, if there is one. -/
def ldF (note : Bool) (h : Nat) : List UInt8 → List UInt8
  | [] => []
  | c :: r =>
    if noteB note c = true ∨ dgt c = 16 then ldF (noteB note c) h r
    else if h = 16 then ldF (noteB note c) (dgt c) r
    else UInt8.ofNat (16 * h + dgt c) :: ldF (noteB note c) 16 r
def loadL (l : List UInt8) : List UInt8 := ldF false 16 l
/-- The place of the first byte that is no digit; how many there are, if all are. -/
def badP : List UInt8 → Nat
  | [] => 0
  | c :: r => if dgt c = 16 then 0 else badP r + 1
/-- A dump, from a place on. -/
def dpF (i : Nat) : List UInt8 → List UInt8
  | [] => []
  | c :: r => (if i % 16 = 0 then [] else [32]) ++ sgn (c.toNat / 16) :: sgn (c.toNat % 16) :: ((if i % 16 = 15 ∨ r = [] then [32, 32, 35, 32] ++ decDigits (i - i % 16) ++ [10] else []) ++ dpF (i + 1) r)
def dumpL (l : List UInt8) : List UInt8 := dpF 0 l

theorem sgn_val (n : Nat) (h : n < 16) : (sgn n).toNat = if n < 10 then 48 + n else 87 + n := by
  unfold sgn
  rw [UInt8.toNat_ofNat']
  split <;> exact Nat.mod_eq_of_lt (by omega)
theorem dgt_sgn (n : Nat) (h : n < 16) : dgt (sgn n) = n := by
  unfold dgt
  rw [sgn_val n h]
  by_cases q : n < 10
  · rw [if_pos q, if_pos (by omega)]; omega
  · rw [if_neg q, if_neg (by omega), if_pos (by omega)]; omega
theorem note_sgn (b : Bool) (n : Nat) (h : n < 16) : noteB b (sgn n) = b := by
  unfold noteB
  rw [sgn_val n h]
  by_cases q : n < 10
  · rw [if_pos q, if_neg (by omega), if_neg (by omega)]
  · rw [if_neg q, if_neg (by omega), if_neg (by omega)]
theorem byte_two (c : UInt8) : UInt8.ofNat (16 * (c.toNat / 16) + c.toNat % 16) = c := by
  rw [Nat.div_add_mod]; exact UInt8.ofNat_toNat
theorem ld_two (c : UInt8) (r : List UInt8) : ldF false 16 (sgn (c.toNat / 16) :: sgn (c.toNat % 16) :: r) = c :: ldF false 16 r := by
  have hc := c.toNat_lt
  have h1 : c.toNat / 16 < 16 := by omega
  have h2 : c.toNat % 16 < 16 := by omega
  rw [ldF, note_sgn _ _ h1, dgt_sgn _ h1, if_neg (by simp; omega), if_pos rfl, ldF, note_sgn _ _ h2, dgt_sgn _ h2, if_neg (by simp; omega), if_neg (by omega), byte_two]
theorem ld_text (s r : List UInt8) : ldF false 16 (textL s ++ r) = s ++ ldF false 16 r := by
  induction s with
  | nil => rfl
  | cons c s ih =>
    show ldF false 16 (sgn (c.toNat / 16) :: sgn (c.toNat % 16) :: (textL s ++ r)) = _
    rw [ld_two, ih]; rfl
theorem load_text (s : List UInt8) : loadL (textL s) = s := by
  have := ld_text s []
  simpa [loadL, ldF] using this
theorem ld_note (h : Nat) (ds r : List UInt8) (hd : ∀ c ∈ ds, c.toNat ≠ 10) : ldF true h (ds ++ 10 :: r) = ldF false h r := by
  induction ds with
  | nil =>
    show ldF true h (10 :: r) = _
    have e1 : noteB true 10 = false := rfl
    have e2 : dgt 10 = 16 := rfl
    rw [ldF, e1, e2, if_pos (Or.inr rfl)]
  | cons c ds ih =>
    have hc := hd c (by simp)
    have e1 : noteB true c = true := by
      unfold noteB
      by_cases q : c.toNat = 35
      · rw [if_pos q]
      · rw [if_neg q, if_neg hc]
    show ldF true h (c :: (ds ++ 10 :: r)) = _
    rw [ldF, e1, if_pos (Or.inl rfl)]
    exact ih (fun x hx => hd x (by simp [hx]))
theorem ld_skip (h : Nat) (c : UInt8) (r : List UInt8) (h1 : c.toNat ≠ 35) (h2 : dgt c = 16) : ldF false h (c :: r) = ldF false h r := by
  have e1 : noteB false c = false := by
    unfold noteB
    rw [if_neg h1]
    split <;> rfl
  rw [ldF, e1, if_pos (Or.inr h2)]
theorem ld_hash (h : Nat) (r : List UInt8) : ldF false h (35 :: r) = ldF true h r := by
  have e1 : noteB false 35 = true := rfl
  rw [ldF, e1, if_pos (Or.inl rfl)]
theorem digits_noten (u : Nat) : ∀ c ∈ decDigits u, c.toNat ≠ 10 := by
  induction u using Nat.strongRecOn with
  | _ u ih =>
    intro c hc
    by_cases h : u < 10
    · rw [decDigits, dif_pos h] at hc
      simp only [List.mem_singleton] at hc
      rw [hc, UInt8.toNat_ofNat', Nat.mod_eq_of_lt (by omega)]; omega
    · rw [decDigits, dif_neg h, List.mem_append] at hc
      rcases hc with hc | hc
      · exact ih (u / 10) (by omega) c hc
      · simp only [List.mem_singleton] at hc
        rw [hc, UInt8.toNat_ofNat', Nat.mod_eq_of_lt (by omega)]; omega
theorem ld_line (n : Nat) (r : List UInt8) : ldF false 16 ([32, 32, 35, 32] ++ decDigits n ++ [10] ++ r) = ldF false 16 r := by
  have e : [32, 32, 35, 32] ++ decDigits n ++ [10] ++ r = 32 :: 32 :: 35 :: ((32 :: decDigits n) ++ 10 :: r) := by simp
  rw [e, ld_skip 16 32 _ (by decide) (by decide), ld_skip 16 32 _ (by decide) (by decide), ld_hash, ld_note]
  intro c hc
  rw [List.mem_cons] at hc
  rcases hc with rfl | hc
  · decide
  · exact digits_noten n c hc
theorem ld_dump (s : List UInt8) : ∀ (i : Nat) (r : List UInt8), ldF false 16 (dpF i s ++ r) = s ++ ldF false 16 r := by
  induction s with
  | nil => intro i r; rfl
  | cons c s ih =>
    intro i r
    have hb : ∀ x : List UInt8, ldF false 16 ((if i % 16 = 0 then [] else [32]) ++ x) = ldF false 16 x := fun x => by
      by_cases q : i % 16 = 0
      · rw [if_pos q]; rfl
      · rw [if_neg q]; exact ld_skip 16 32 x (by decide) (by decide)
    have hl : ∀ x : List UInt8, ldF false 16 ((if i % 16 = 15 ∨ s = [] then [32, 32, 35, 32] ++ decDigits (i - i % 16) ++ [10] else []) ++ x) = ldF false 16 x := fun x => by
      by_cases q : i % 16 = 15 ∨ s = []
      · rw [if_pos q]; exact ld_line _ x
      · rw [if_neg q]; rfl
    rw [dpF, List.append_assoc, hb, List.cons_append, List.cons_append, ld_two, List.append_assoc, hl, ih]
    rfl
theorem load_dump (s : List UInt8) : loadL (dumpL s) = s := by
  have := ld_dump s 0 []
  simpa [loadL, dumpL, ldF] using this
theorem load_dump_text (s t : List UInt8) : loadL (dumpL s ++ textL t) = s ++ t := by
  unfold loadL dumpL
  rw [ld_dump]
  exact congrArg (s ++ ·) (load_text t)
theorem load_text_dump (s t : List UInt8) : loadL (textL t ++ dumpL s) = t ++ s := by
  unfold loadL
  rw [ld_text]
  exact congrArg (t ++ ·) (load_dump s)

/-! Comments play no part. -/
theorem ld_front (a : List UInt8) (ha : ∀ c ∈ a, c.toNat ≠ 35) (r₁ r₂ : List UInt8) (hr : ∀ h, ldF false h r₁ = ldF false h r₂) : ∀ h, ldF false h (a ++ r₁) = ldF false h (a ++ r₂) := by
  induction a with
  | nil => exact hr
  | cons c a ih =>
    intro h
    have hc := ha c (by simp)
    have ih' := ih (fun x hx => ha x (by simp [hx]))
    have e1 : noteB false c = false := by
      unfold noteB
      rw [if_neg hc]
      split <;> rfl
    show ldF false h (c :: (a ++ r₁)) = ldF false h (c :: (a ++ r₂))
    rw [ldF, ldF, e1]
    simp only [ih']
theorem load_note (a b n : List UInt8) (ha : ∀ c ∈ a, c.toNat ≠ 35) (hn : ∀ c ∈ n, c.toNat ≠ 10) : loadL (a ++ 35 :: (n ++ 10 :: b)) = loadL (a ++ b) :=
  ld_front a ha _ _ (fun h => by rw [ld_hash, ld_note h n b hn]) 16
theorem load_line (a b : List UInt8) (ha : ∀ c ∈ a, c.toNat ≠ 35) : loadL (a ++ 10 :: b) = loadL (a ++ b) :=
  ld_front a ha _ _ (fun h => ld_skip h 10 b (by decide) (by decide)) 16
theorem load_odd (a b : List UInt8) (ha : ∀ c ∈ a, c.toNat ≠ 35) : loadL (a ++ 122 :: 71 :: 45 :: 0 :: b) = loadL (a ++ b) :=
  ld_front a ha _ _ (fun h => by
    rw [ld_skip h 122 _ (by decide) (by decide), ld_skip h 71 _ (by decide) (by decide), ld_skip h 45 _ (by decide) (by decide), ld_skip h 0 _ (by decide) (by decide)]) 16

/-! How many bytes. -/
theorem ld_len (l : List UInt8) : ∀ (note : Bool) (h : Nat), 2 * (ldF note h l).length ≤ l.length + (if h = 16 then 0 else 1) := by
  induction l with
  | nil => intro note h; simp [ldF]
  | cons c l ih =>
    intro note h
    rw [ldF]
    by_cases q : noteB note c = true ∨ dgt c = 16
    · rw [if_pos q]
      have := ih (noteB note c) h
      rw [List.length_cons]; omega
    · rw [if_neg q]
      by_cases r : h = 16
      · rw [if_pos r]
        have := ih (noteB note c) (dgt c)
        have hd : dgt c ≠ 16 := fun e => q (Or.inr e)
        rw [if_neg hd] at this
        rw [if_pos r, List.length_cons]; omega
      · rw [if_neg r]
        have := ih (noteB note c) 16
        rw [if_pos rfl] at this
        rw [if_neg r, List.length_cons, List.length_cons]; omega
theorem load_len (l : List UInt8) : (loadL l).length ≤ l.length / 2 := by
  have := ld_len l false 16
  rw [if_pos rfl] at this
  show (ldF false 16 l).length ≤ _
  omega
theorem note_digit (c : UInt8) (h : dgt c ≠ 16) : noteB false c = false := by
  unfold noteB
  have h1 : c.toNat ≠ 35 := fun q => h (by unfold dgt; rw [q]; decide)
  rw [if_neg h1]
  split <;> rfl
theorem ld_all (l : List UInt8) (hl : ∀ c ∈ l, dgt c ≠ 16) : ∀ h, 2 * (ldF false h l).length + (if h = 16 then 0 else if l.length % 2 = 0 then 1 else 0) + (if h = 16 then l.length % 2 else 0) = l.length + (if h = 16 then 0 else if l.length % 2 = 0 then 1 else 1) := by
  induction l with
  | nil => intro h; simp [ldF]
  | cons c l ih =>
    intro h
    have hc := hl c (by simp)
    have ih' := ih (fun x hx => hl x (by simp [hx]))
    rw [ldF, note_digit c hc, if_neg (by simp [hc])]
    by_cases r : h = 16
    · have := ih' (dgt c)
      simp only [r, hc, if_true, if_false, List.length_cons] at this ⊢
      split at this <;> omega
    · have := ih' 16
      simp only [r, if_true, if_false, List.length_cons] at this ⊢
      split <;> omega
theorem load_all_len (l : List UInt8) (hl : ∀ c ∈ l, dgt c ≠ 16) (he : l.length % 2 = 0) : (loadL l).length = l.length / 2 := by
  have := ld_all l hl 16
  simp only [if_true, he] at this
  show (ldF false 16 l).length = _
  omega
theorem badP_le (l : List UInt8) : badP l ≤ l.length := by
  induction l with
  | nil => exact Nat.le_refl _
  | cons c l ih =>
    rw [badP, List.length_cons]
    split <;> omega
theorem badP_all (l : List UInt8) : badP l = l.length ↔ ∀ c ∈ l, dgt c ≠ 16 := by
  induction l with
  | nil => simp [badP]
  | cons c l ih =>
    rw [badP, List.length_cons]
    by_cases q : dgt c = 16
    · rw [if_pos q]
      constructor
      · intro e; omega
      · intro h; exact absurd q (h c (by simp))
    · rw [if_neg q]
      constructor
      · intro e x hx
        rw [List.mem_cons] at hx
        rcases hx with rfl | hx
        · exact q
        · exact ih.mp (by omega) x hx
      · intro h
        have := ih.mpr (fun x hx => h x (by simp [hx]))
        omega
theorem textL_len (s : List UInt8) : (textL s).length = 2 * s.length := by
  induction s with
  | nil => rfl
  | cons c s ih => rw [textL, List.length_cons, List.length_cons, List.length_cons, ih]; omega
theorem textL_digits (s : List UInt8) : ∀ c ∈ textL s, dgt c ≠ 16 := by
  induction s with
  | nil => intro c hc; cases hc
  | cons x s ih =>
    have hx := x.toNat_lt
    intro c hc
    rw [textL, List.mem_cons, List.mem_cons] at hc
    rcases hc with rfl | rfl | hc
    · rw [dgt_sgn _ (by omega)]; omega
    · rw [dgt_sgn _ (by omega)]; omega
    · exact ih c hc

/-! Great digits. -/
def greatC (c : UInt8) : UInt8 := if 97 ≤ c.toNat ∧ c.toNat ≤ 122 then UInt8.ofNat (c.toNat - 32) else c
theorem dgt_great (c : UInt8) (h : dgt c ≠ 16) : dgt (greatC c) = dgt c := by
  unfold greatC
  by_cases q : 97 ≤ c.toNat ∧ c.toNat ≤ 122
  · rw [if_pos q]
    have e : (UInt8.ofNat (c.toNat - 32)).toNat = c.toNat - 32 := by rw [UInt8.toNat_ofNat']; exact Nat.mod_eq_of_lt (by omega)
    have h102 : c.toNat ≤ 102 := by
      rcases Nat.lt_or_ge 102 c.toNat with r | r
      · exact absurd (by unfold dgt; rw [if_neg (by omega), if_neg (by omega), if_neg (by omega)]) h
      · exact r
    unfold dgt
    rw [e, if_neg (by omega), if_neg (by omega), if_pos (by omega), if_neg (by omega), if_pos (by omega)]
    omega
  · rw [if_neg q]
theorem ld_great (l : List UInt8) (hl : ∀ c ∈ l, dgt c ≠ 16) : ∀ h, ldF false h (l.map greatC) = ldF false h l := by
  induction l with
  | nil => intro h; rfl
  | cons c l ih =>
    intro h
    have hc := hl c (by simp)
    have hg := dgt_great c hc
    have ih' := ih (fun x hx => hl x (by simp [hx]))
    rw [List.map_cons, ldF, ldF, note_digit c hc, note_digit (greatC c) (by rw [hg]; exact hc), hg]
    simp only [ih']
theorem great_digits (l : List UInt8) (hl : ∀ c ∈ l, dgt c ≠ 16) : ∀ c ∈ l.map greatC, dgt c ≠ 16 := by
  intro c hc
  obtain ⟨x, hx, rfl⟩ := List.mem_map.mp hc
  rw [dgt_great x (hl x hx)]
  exact hl x hx
end

section
/-! The contracts of the document's own layer 2: a sign. -/
open Go.RowKit

theorem ret_intH {k : IntKind} {a b : Int} (h : a = b) : Ending.returned (.int k a) = .returned (.int k b) := by rw [h]

theorem sign_lo (n : Int) (w : World) (_h : 0 ≤ n) (_h' : n < 10) : Calls Tryd.prog 86 #[.int .i64 n] w fun e w' => e = .returned (.int .u8 (48 + n)) ∧ w = w' := by
  go_enter Tryd.func86, Tryd.ntmps86
  go_wp2
  go_ret
  exact ⟨ret_intH (by omega), rfl⟩
theorem sign_hi (n : Int) (w : World) (_h : 10 ≤ n) (_h' : n < 16) : Calls Tryd.prog 86 #[.int .i64 n] w fun e w' => e = .returned (.int .u8 (87 + n)) ∧ w = w' := by
  go_enter Tryd.func86, Tryd.ntmps86
  go_wp2
  go_ret
  exact ⟨ret_intH (by omega), rfl⟩
/-- A digit's sign. -/
theorem sign_any (n : Int) (w : World) (h : 0 ≤ n) (h' : n < 16) : Calls Tryd.prog 86 #[.int .i64 n] w fun e w' => e = .returned (.int .u8 ((sgn n.toNat).toNat : Int)) ∧ w = w' := by
  have e := sgn_val n.toNat (by omega)
  by_cases q : n < 10
  · rw [if_pos (by omega)] at e
    rw [e, show ((48 + n.toNat : Nat) : Int) = 48 + n by omega]
    exact sign_lo n w h q
  · rw [if_neg (by omega)] at e
    rw [e, show ((87 + n.toNat : Nat) : Int) = 87 + n by omega]
    exact sign_hi n w (by omega) h'
end

section
/-! The contract of the document's own Text of bytes: two digits each. -/
open Go.RowKit

theorem info_u8h : (Tryd.prog.info? 5).map (fun i => (i.zero, i.size, i.bytes)) = some (some (.int .u8 0), 1, 1) := by kernel_rfl
/-- A row of bytes that the call owns, nil or not. -/
def OwnsC (B : Nat) (v : Value) (l : List UInt8) (w : World) : Prop := w.ownsRow B 5 1 v l.length (Lib.byteCells l)
theorem OwnsC.nil (B : Nat) (w : World) : OwnsC B (.slice none 0 0) [] w := World.ownsRow_nil _ _ _ _
/-- What such a row reads as, as a string. -/
theorem ownsC_string {B : Nat} {v : Value} {l : List UInt8} {w : World} (h : OwnsC B v l w) : (convert 79 9 v).run Tryd.prog w = .ok (.string ⟨l.toArray⟩) w := by
  rcases h.2 with ⟨h', hn⟩ | ⟨g, cap, cur, rfl, _⟩
  · subst h'
    have e : l = [] := List.length_eq_zero_iff.mp hn
    subst e
    rw [run_convert_bytes_string (P := Tryd.prog) w 79 9 5 none 0 0 Tryd.underlying79 Tryd.underlying5 Tryd.underlying9]
    rfl
  · exact run_convert_bytes_back (P := Tryd.prog) w 79 9 5 ⟨g, 0, none⟩ cap l Tryd.underlying79 Tryd.underlying5 Tryd.underlying9 (fun j hj => by
      refine World.ownsRow.cells h rfl j _ ?_
      simp [Lib.byteCells, List.getElem?_eq_getElem hj])
theorem sign_up (c : UInt8) (w : World) : Calls Tryd.prog 86 #[.int .i64 ((c.toNat : Int) / 16)] w fun e w' => e = .returned (.int .u8 ((sgn (c.toNat / 16)).toNat : Int)) ∧ w = w' := by
  have hc := c.toNat_lt
  have h := sign_any ((c.toNat : Int) / 16) w (by omega) (by omega)
  rw [show ((c.toNat : Int) / 16).toNat = c.toNat / 16 by omega] at h
  exact h
theorem sign_low (c : UInt8) (w : World) : Calls Tryd.prog 86 #[.int .i64 ((c.toNat : Int) % 16)] w fun e w' => e = .returned (.int .u8 ((sgn (c.toNat % 16)).toNat : Int)) ∧ w = w' := by
  have hc := c.toNat_lt
  have h := sign_any ((c.toNat : Int) % 16) w (by omega) (by omega)
  rw [show ((c.toNat : Int) % 16).toNat = c.toNat % 16 by omega] at h
  exact h
/-- What a region that draws its order makes of a byte's two digits. -/
theorem byte_sums (c : UInt8) : IntKind.i64.wrap (c.toNat : Int) = (c.toNat : Int) ∧ (c.toNat : Int).tdiv 16 = (c.toNat : Int) / 16 ∧ IntKind.i64.wrap ((c.toNat : Int) / 16) = (c.toNat : Int) / 16 ∧ (c.toNat : Int).tmod 16 = (c.toNat : Int) % 16 ∧ IntKind.i64.wrap ((c.toNat : Int) % 16) = (c.toNat : Int) % 16 := by
  have hc := c.toNat_lt
  exact ⟨IntWalk.i64_in _ (by omega), Int.tdiv_eq_ediv_of_nonneg (by omega), IntWalk.i64_in _ (by omega), Int.tmod_eq_emod_of_nonneg (by omega), IntWalk.i64_in _ (by omega)⟩
theorem drop_one (s : ByteArray) (k : Nat) (h : k < s.size) : s.data.toList.drop k = s[k] :: s.data.toList.drop (k + 1) := by
  have h' : k < s.data.toList.length := by rw [Array.length_toList]; exact h
  rw [List.drop_eq_getElem_cons h']
  rfl

theorem text_step (s : ByteArray) (k : Nat) (L : List UInt8) (h : k < s.size) (hL : L.length = 2 * k ∧ textL s.data.toList = L ++ textL (s.data.toList.drop k)) :
    Hid ((L ++ [sgn (s[k].toNat / 16), sgn (s[k].toNat % 16)]).length = 2 * (k + 1) ∧ textL s.data.toList = (L ++ [sgn (s[k].toNat / 16), sgn (s[k].toNat % 16)]) ++ textL (s.data.toList.drop (k + 1))) := by
  refine ⟨by rw [List.length_append, hL.1]; simp; omega, ?_⟩
  rw [hL.2, drop_one s k h, textL]
  simp
theorem ownsC_two {B g cap : Nat} {L : List UInt8} {x y : UInt8} {w : World} (h : w.ownsRow B 5 1 (.slice (some ⟨g, 0, none⟩) (L.length + 2) cap) (L.length + 2) (Lib.byteCells L ++ [.int .u8 (x.toNat : Int), .int .u8 (y.toNat : Int)])) :
    OwnsC B (.slice (some ⟨g, 0, none⟩) (L.length + 2) cap) (L ++ [x, y]) w := by
  unfold OwnsC
  rw [show (L ++ [x, y]).length = L.length + 2 by simp, show Lib.byteCells (L ++ [x, y]) = Lib.byteCells L ++ [.int .u8 (x.toNat : Int), .int .u8 (y.toNat : Int)] by simp [Lib.byteCells]]
  exact h

set_option maxHeartbeats 2000000 in
set_option maxRecDepth 100000 in
theorem refText_hex (s : ByteArray) (w : World) (hs : s.size ≤ 1000000) :
    Calls Tryd.prog 77 #[.string s] w fun e w' => e = .returned (.string ⟨(textL s.data.toList).toArray⟩) ∧ Below w.heap.size w w' := by
  obtain ⟨i0, hi, hz0, hz1, hz2⟩ := info_parts info_u8h
  go_enter Tryd.func77, Tryd.ntmps77
  go_wp2
  go_loopw [3, 4] (fun v i wr => ∃ (k : Nat) (L : List UInt8), k ≤ s.size ∧ i = .int .i64 k ∧ OwnsC w.heap.size v L wr ∧ Hid (L.length = 2 * k ∧ textL s.data.toList = L ++ textL (s.data.toList.drop k)) ∧ Below w.heap.size w wr) (fun _ i _ => s.size - (intOf i).toNat)
  case atStart => exact ⟨0, [], Nat.zero_le _, rfl, OwnsC.nil _ _, ⟨rfl, rfl⟩, Below.refl _ _⟩
  case round =>
    obtain ⟨k, L, hk, rfl, hown, HL, hV⟩ := hrel
    by_cases hlt : k < s.size
    · have hown' : wr.ownsRow w.heap.size 5 1 u3 L.length (Lib.byteCells L) := hown
      have hc := (s[k]).toNat_lt
      have hk0 : (0 : Int) ≤ (k : Int) := by omega
      have hk1 : (k : Int) < (s.size : Int) := by omega
      have hlen : L.length ≤ 2000000 := by have := HL.out.1; omega
      have hbw := hV.size
      obtain ⟨e1, e2, e3, e4, e5⟩ := byte_sums s[k]
      go_wp2
      go_region_held3 (fun _ => True) (first | trivial | go_keep)
        ((first
          | (refine step_append_lies _ (by rfl) _ _ _ (by rfl) w.heap.size 5 i0 _ 1 1 Tryd.underlying79 hi hz0 hz1 hz2 rfl (by omega) u3 L.length (Lib.byteCells L) (by rfl) ((hown'.alloc _).drew) ⟨wr.heap.size, 0, none⟩ 2 2 [.int .u8 ((sgn (s[k].toNat / 16)).toNat : Int), .int .u8 ((sgn (s[k].toNat % 16)).toNat : Int)] (by rfl) (by rfl) (World.news_of_block (cs := #[.int .u8 ((sgn (s[k].toNat / 16)).toNat : Int), .int .u8 ((sgn (s[k].toNat % 16)).toNat : Int)]) (t := 5) (fr := (0, 0)) (heap_alloc_new wr _)) (by simp [Value.oneCell']) (by omega) (by unfold maxLen; omega) (by omega) (by simp; omega) (wr.heap.size + 1) (by simp) ?_; intro gg cap w1 hown1 hgrow hat hlt1)
          | (go_at_call 86; (with_reducible refine (sign_up s[k] _).mono ?_); rintro e w' ⟨rfl, rfl⟩)
          | (go_at_call 86; (with_reducible refine (sign_low s[k] _).mono ?_); rintro e w' ⟨rfl, rfl⟩)))
      all_goals
        clear e1 e2 e3 e4 e5
        have R := text_step s k L hlt HL.out
        have hV1 : Below w.heap.size w w1 := ((hV.alloc hV.size _).drew).grown hgrow (by have := hV.size; simp; omega) (fun k hk => (hown'.lt k hk).1)
        have hown2 : OwnsC w.heap.size (.slice (some ⟨gg, 0, none⟩) (L.length + 2) cap) (L ++ [sgn (s[k].toNat / 16), sgn (s[k].toNat % 16)]) w1 := ownsC_two hown1
        clear hown1 hgrow hat hown hown' hV
        go_wp2
        go_roundw
        case rel => exact ⟨k + 1, _, by omega, by go_num, hown2, R, hV1⟩
        case measure => simp [intOf]; omega
    · have : k = s.size := by omega
      subst this
      have HL' : Hid (textL s.data.toList = L) := by
        have h := HL.out.2
        rw [List.drop_eq_nil_of_le (by rw [Array.length_toList]; exact Nat.le_refl _)] at h
        show textL s.data.toList = L
        rw [h]; simp [textL]
      have hcv := ownsC_string hown
      go_wp2
      go_ret
      exact ⟨by rw [HL'.out]; rfl, hV⟩
end

section
/-! The contract of the document's Text of a digest. -/
open Go.RowKit

/-- A word's bytes, the highest one first. -/
def hi4 (x : Int) : List UInt8 := [byteN x.toNat 3, byteN x.toNat 2, byteN x.toNat 1, byteN x.toNat 0]
def dB (d : D4) : List UInt8 := hi4 d.d0 ++ hi4 d.d1 ++ hi4 d.d2 ++ hi4 d.d3
def dTextL (d : D4) : List UInt8 := textL (dB d)
def hiP (D : List Int) : Nat → List UInt8
  | 0 => []
  | n + 1 => hiP D n ++ hi4 (D.getD n 0)
theorem hiP_len (D : List Int) (n : Nat) : (hiP D n).length = 4 * n := by
  induction n with
  | zero => rfl
  | succ n ih => rw [hiP, List.length_append, ih]; show 4 * n + 4 = _; omega
theorem hiP_list (d : D4) : hiP d.toL 4 = dB d := by
  simp [hiP, D4.toL, dB]

/-- A literal of four bytes, as a string. -/
theorem conv4 (c3 c2 c1 c0 : UInt8) (wr : World) : Sem.run Tryd.prog (convert 79 9 (.slice (some ⟨wr.heap.size, 0, none⟩) 4 4)) (wr.alloc (.cells #[.int .u8 (c3.toNat : Int), .int .u8 (c2.toNat : Int), .int .u8 (c1.toNat : Int), .int .u8 (c0.toNat : Int)] 5)).drew = .ok (.string ⟨#[c3, c2, c1, c0]⟩) (wr.alloc (.cells #[.int .u8 (c3.toNat : Int), .int .u8 (c2.toNat : Int), .int .u8 (c1.toNat : Int), .int .u8 (c0.toNat : Int)] 5)).drew := by
  have hrow : ((wr.alloc (.cells #[.int .u8 (c3.toNat : Int), .int .u8 (c2.toNat : Int), .int .u8 (c1.toNat : Int), .int .u8 (c0.toNat : Int)] 5)).drew).heap[wr.heap.size]? = some (.cells #[.int .u8 (c3.toNat : Int), .int .u8 (c2.toNat : Int), .int .u8 (c1.toNat : Int), .int .u8 (c0.toNat : Int)] 5 (0, 0)) := heap_alloc_new wr _
  generalize (wr.alloc (.cells #[.int .u8 (c3.toNat : Int), .int .u8 (c2.toNat : Int), .int .u8 (c1.toNat : Int), .int .u8 (c0.toNat : Int)] 5)).drew = W at *
  exact run_convert_bytes_back (P := Tryd.prog) W 79 9 5 ⟨wr.heap.size, 0, none⟩ 4 [c3, c2, c1, c0] Tryd.underlying79 Tryd.underlying5 Tryd.underlying9 (fun j hj => by
    rw [Lib.add_plain, Nat.zero_add, cell_of_row W _ j _ _ (0, 0) hrow]
    match j, hj with
    | 0, _ => rfl
    | 1, _ => rfl
    | 2, _ => rfl
    | 3, _ => rfl)
set_option maxHeartbeats 3000000 in
set_option maxRecDepth 100000 in
theorem rtext_any (d : D4) (w : World) (hd : d.ok) : Calls Tryd.prog 62 #[d.val] w fun e w' => e = .returned (.string ⟨(dTextL d).toArray⟩) ∧ Below w.heap.size w w' := by
  obtain ⟨i0, hi, hz0, hz1, hz2⟩ := info_parts info_u8h
  obtain ⟨w0, hw0⟩ : ∃ w0, w.alloc (.cells #[.int .u32 d.d0, .int .u32 d.d1, .int .u32 d.d2, .int .u32 d.d3] 24) = w0 := ⟨_, rfl⟩
  have hA0 : Arr .u32 24 w.heap.size d.toL w0 := by rw [← hw0]; exact heap_alloc_new w _
  have hB0 : Below w.heap.size w w0 := by rw [← hw0]; exact (Below.refl _ _).alloc (Nat.le_refl _) _
  go_enter Tryd.func62, Tryd.ntmps62
  simp only [D4.val]
  go_wp2_with fail
  clear hw0
  go_loopw [3, 4] (fun v i wr => ∃ (k : Nat) (t : ByteArray), k ≤ 4 ∧ i = .int .i64 k ∧ v = .string t ∧ t.size = 4 * k ∧ Hid (t.data.toList = hiP d.toL k) ∧ Arr .u32 24 w.heap.size d.toL wr ∧ Below w.heap.size w wr) (fun _ i _ => 4 - (intOf i).toNat)
  case atStart => exact ⟨0, ⟨#[]⟩, by omega, rfl, rfl, rfl, rfl, hA0, hB0⟩
  case round =>
    clear hA0 hB0
    obtain ⟨k, t, hk, rfl, rfl, hts, HT, hA, hB⟩ := hrel
    by_cases hlt : k < 4
    · have hkd : decide ((k : Int) < 4) = true := by simp; omega
      obtain ⟨x, hx⟩ : ∃ x, d.toL.getD k 0 = x := ⟨_, rfl⟩
      have hxw : isW x := by rw [← hx]; exact (D4.toL_ok hd).get k
      have hx0 := hxw.1
      have hx1 := hxw.2
      have hcl : wr.cell? ⟨w.heap.size, k, none⟩ = some (.int .u32 x) := by rw [← hx]; exact hA.cell (by rw [D4.toL_len]; omega)
      have HX := Lib.hid hx
      clear hx
      have hk0 : (0 : Int) ≤ k := by omega
      have hk3 : (k : Int) < 4 := by omega
      clear hxw
      obtain ⟨c3, h3, hc3⟩ : ∃ c : UInt8, x / 16777216 = (c.toNat : Int) ∧ c = byteN x.toNat 3 := ⟨_, by rw [byteN_nat]; simp only [show (256 : Nat) ^ 3 = 16777216 from rfl]; omega, rfl⟩
      obtain ⟨c2, h2, hc2⟩ : ∃ c : UInt8, x / 65536 % 256 = (c.toNat : Int) ∧ c = byteN x.toNat 2 := ⟨_, by rw [byteN_nat]; simp only [show (256 : Nat) ^ 2 = 65536 from rfl]; omega, rfl⟩
      obtain ⟨c1, h1, hc1⟩ : ∃ c : UInt8, x / 256 % 256 = (c.toNat : Int) ∧ c = byteN x.toNat 1 := ⟨_, by rw [byteN_nat]; simp only [show (256 : Nat) ^ 1 = 256 from rfl]; omega, rfl⟩
      obtain ⟨c0, h0, hc0⟩ : ∃ c : UInt8, x % 256 = (c.toNat : Int) ∧ c = byteN x.toNat 0 := ⟨_, by rw [byteN_nat]; simp only [show (256 : Nat) ^ 0 = 1 from rfl]; omega, rfl⟩
      have HI : Hid (hiP d.toL (k + 1) = hiP d.toL k ++ [c3, c2, c1, c0]) := by
        show _ = _
        rw [hiP, HX.out, hi4, ← hc3, ← hc2, ← hc1, ← hc0]
      clear hc3 hc2 hc1 hc0
      have hcv := conv4 c3 c2 c1 c0 wr
      go_wp2_with fail
      go_region
      clear hcv h3 h2 h1 h0
      have hA1 : Arr .u32 24 w.heap.size d.toL (wr.alloc (.cells #[.int .u8 (c3.toNat : Int), .int .u8 (c2.toNat : Int), .int .u8 (c1.toNat : Int), .int .u8 (c0.toNat : Int)] 5)).drew := hA.al _
      have hB1 := (hB.alloc hB.size (.cells #[.int .u8 (c3.toNat : Int), .int .u8 (c2.toNat : Int), .int .u8 (c1.toNat : Int), .int .u8 (c0.toNat : Int)] 5)).drew
      clear hA hB
      go_wp2_with fail
      go_roundw
      case rel =>
        refine ⟨k + 1, _, by omega, by go_num, rfl, ?_, ?_, hA1, hB1⟩
        · rw [ByteArray.size_append, hts]; show 4 * k + 4 = 4 * (k + 1); omega
        · show (t ++ (⟨#[c3, c2, c1, c0]⟩ : ByteArray)).data.toList = _
          rw [ByteArray.data_append, Array.toList_append, HT.out, HI.out]
      case measure => simp [intOf]; omega
    · have hk4 : k = 4 := by omega
      subst hk4
      have HS := Lib.hid (show t.size ≤ 1000000 by omega)
      have HT2 : Hid (textL t.data.toList = dTextL d) := by
        show _ = _
        rw [HT.out, hiP_list]; rfl
      clear hts hA
      go_wp2_with fail
      refine (refText_hex t wr HS.out).mono ?_
      rw [HT2.out]
      rintro e w1 ⟨rfl, hB1⟩
      go_wp2_with fail
      go_ret
      exact ⟨rfl, hB.trans (hB1.mono hB.size)⟩
end

end Go.Proofs.YtdphhpmkcalahaaDoor
