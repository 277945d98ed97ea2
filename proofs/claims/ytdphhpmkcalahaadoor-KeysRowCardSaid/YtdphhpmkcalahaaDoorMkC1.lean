/-
  Trees of digests: their mathematics, and the document's Root, Prove, Check.
-/
import Derived.Lib.Strings
import Derived.Test.YtdphhpmkcalahaaDoorOtC1
import Derived.Deep.AppendLies
namespace Go.Proofs.YtdphhpmkcalahaaDoor

section
/-! Plain mathematics of trees over a list, whatever the pairing: the half, the root, the proof of a place, what a proof tells. No program is named here. -/
/-- The greatest power of two below n. -/
def half (n : Nat) : Nat := 2 ^ (n - 1).log2
theorem half_pos (n : Nat) : 0 < half n := Nat.two_pow_pos _
theorem half_lt {n : Nat} (h : 2 ≤ n) : half n < n := by
  have := Nat.log2_self_le (n := n - 1) (by omega)
  unfold half; omega
theorem half_ge {n : Nat} (h : 2 ≤ n) : n ≤ 2 * half n := by
  have := Nat.lt_log2_self (n := n - 1)
  unfold half
  rw [Nat.pow_succ] at this
  omega
theorem half_of {n a : Nat} (h1 : 2 ^ a < n) (h2 : n ≤ 2 ^ (a + 1)) : half n = 2 ^ a := by
  have e : (n - 1).log2 = a := by
    have hn : n - 1 ≠ 0 := by have := Nat.two_pow_pos a; omega
    have k1 : a ≤ (n - 1).log2 := (Nat.le_log2 hn).mpr (by omega)
    have k2 : (n - 1).log2 < a + 1 := (Nat.log2_lt hn).mpr (by omega)
    omega
  rw [half, e]
/-- What is left behind the half is at most as much. -/
theorem half_bound {n a : Nat} (h : 2 ≤ n) (hn : n ≤ 2 ^ (a + 1)) : half n ≤ 2 ^ a ∧ n - half n ≤ 2 ^ a := by
  have h1 := half_lt h
  have h2 := half_ge h
  have h3 : half n ≤ 2 ^ a := by
    rcases Nat.lt_or_ge (2 ^ a) (half n) with q | q
    · exfalso
      have k : 2 ^ (a + 1) ≤ half n := by
        unfold half at q ⊢
        have := (Nat.pow_lt_pow_iff_right (a := 2) (by decide)).mp q
        exact Nat.pow_le_pow_right (by decide) this
      omega
    · exact q
  exact ⟨h3, by omega⟩

section
variable {α : Type} (P : α → α → α) (z : α)
/-- The root of a list. -/
def root : List α → α
  | [] => z
  | [a] => a
  | a :: b :: r =>
    have : half (r.length + 2) < r.length + 2 := half_lt (by omega)
    have := half_pos (r.length + 2)
    P (root ((a :: b :: r).take (half (r.length + 2)))) (root ((a :: b :: r).drop (half (r.length + 2))))
termination_by l => l.length
decreasing_by
  · simp [List.length_take]; omega
  · simp [List.length_drop]; omega
theorem root_nil : root P z [] = z := by rw [root]
theorem root_one (a : α) : root P z [a] = a := by rw [root]
theorem root_more (l : List α) (h : 2 ≤ l.length) : root P z l = P (root P z (l.take (half l.length))) (root P z (l.drop (half l.length))) := by
  match l, h with
  | a :: b :: r, _ => rw [root]; rfl
/-- The proof of a place. -/
def way : List α → Nat → List α
  | [], _ => []
  | [_], _ => []
  | a :: b :: r, i =>
    have : half (r.length + 2) < r.length + 2 := half_lt (by omega)
    have := half_pos (r.length + 2)
    if i < half (r.length + 2) then way ((a :: b :: r).take (half (r.length + 2))) i ++ [root P z ((a :: b :: r).drop (half (r.length + 2)))]
    else way ((a :: b :: r).drop (half (r.length + 2))) (i - half (r.length + 2)) ++ [root P z ((a :: b :: r).take (half (r.length + 2)))]
termination_by l => l.length
decreasing_by
  · simp [List.length_take]; omega
  · simp [List.length_drop]; omega
theorem way_few (l : List α) (i : Nat) (h : l.length < 2) : way P z l i = [] := by
  match l, h with
  | [], _ => rw [way]
  | [_], _ => rw [way]
theorem way_left (l : List α) (i : Nat) (h : 2 ≤ l.length) (hi : i < half l.length) : way P z l i = way P z (l.take (half l.length)) i ++ [root P z (l.drop (half l.length))] := by
  match l, h with
  | a :: b :: r, _ => rw [way]; exact if_pos hi
theorem way_right (l : List α) (i : Nat) (h : 2 ≤ l.length) (hi : ¬ i < half l.length) : way P z l i = way P z (l.drop (half l.length)) (i - half l.length) ++ [root P z (l.take (half l.length))] := by
  match l, h with
  | a :: b :: r, _ => rw [way]; exact if_neg hi
/-- A proof is short. -/
theorem way_len : ∀ (a : Nat) (l : List α) (i : Nat), l.length ≤ 2 ^ a → (way P z l i).length ≤ a
  | 0, l, i, h => by rw [way_few P z l i (by simp at h; omega)]; exact Nat.le_refl _
  | a + 1, l, i, h => by
    by_cases q : l.length < 2
    · rw [way_few P z l i q]; exact Nat.zero_le _
    · obtain ⟨h1, h2⟩ := half_bound (by omega) h
      have hl := half_lt (show 2 ≤ l.length by omega)
      by_cases k : i < half l.length
      · rw [way_left P z l i (by omega) k, List.length_append]
        have := way_len a (l.take (half l.length)) i (by rw [List.length_take]; omega)
        show _ + 1 ≤ a + 1; omega
      · rw [way_right P z l i (by omega) k, List.length_append]
        have := way_len a (l.drop (half l.length)) (i - half l.length) (by rw [List.length_drop]; exact h2)
        show _ + 1 ≤ a + 1; omega
/-- What a proof tells of a leaf: the root, and whether it has the form; a proof read from its end. -/
def upR (n i : Nat) (leaf : α) : List α → α × Bool
  | [] => (leaf, decide (n ≤ 1))
  | last :: rest =>
    if n ≤ 1 then (leaf, false)
    else if i < half n then
      have r := upR (half n) i leaf rest
      (P r.1 last, r.2)
    else
      have r := upR (n - half n) (i - half n) leaf rest
      (P last r.1, r.2)
def up (n i : Nat) (leaf : α) (p : List α) : α × Bool := upR P n i leaf p.reverse
theorem up_one {n i : Nat} (leaf : α) (p : List α) (h : n ≤ 1) : up P n i leaf p = (leaf, decide (p = [])) := by
  unfold up
  cases hp : p.reverse with
  | nil =>
    have : p = [] := by simpa using hp
    subst this
    simp [upR, h]
  | cons a r =>
    have : p ≠ [] := by intro e; subst e; simp at hp
    simp [upR, h, this]
theorem up_none {n i : Nat} (leaf : α) (h : ¬ n ≤ 1) : up P n i leaf [] = (leaf, false) := by
  simp [up, upR, h]
theorem up_left {n i : Nat} (leaf : α) (p : List α) (a : α) (h : ¬ n ≤ 1) (hi : i < half n) : up P n i leaf (p ++ [a]) = (P (up P (half n) i leaf p).1 a, (up P (half n) i leaf p).2) := by
  simp [up, upR, h, hi]
theorem up_right {n i : Nat} (leaf : α) (p : List α) (a : α) (h : ¬ n ≤ 1) (hi : ¬ i < half n) : up P n i leaf (p ++ [a]) = (P a (up P (n - half n) (i - half n) leaf p).1, (up P (n - half n) (i - half n) leaf p).2) := by
  simp [up, upR, h, hi]
/-- A proof that was made is one. -/
theorem up_way : ∀ (n : Nat) (l : List α) (i : Nat), l.length = n → ∀ x, l[i]? = some x → up P n i x (way P z l i) = (root P z l, true) := by
  intro n
  induction n using Nat.strongRecOn with
  | _ n ih =>
    intro l i hn x hx
    have hi := (List.getElem?_eq_some_iff.mp hx).1
    by_cases q : n < 2
    · have h1 : l.length = 1 := by omega
      match l, h1 with
      | [a], _ =>
        have hi0 : i = 0 := by simp at hi; exact hi
        subst hi0
        simp at hx
        subst hx
        rw [way_few P z [a] 0 (by simp), up_one P a [] (by omega), root_one]; rfl
    · have hl := half_lt (show 2 ≤ n by omega)
      have hp := half_pos n
      by_cases k : i < half n
      · rw [way_left P z l i (by omega) (by rw [hn]; exact k), up_left P x _ _ (by omega) k, hn, ih (half n) hl (l.take (half n)) i (by rw [List.length_take]; omega) x (by rw [List.getElem?_take, if_pos k]; exact hx), root_more P z l (by omega), hn]
      · rw [way_right P z l i (by omega) (by rw [hn]; exact k), up_right P x _ _ (by omega) k, hn, ih (n - half n) (by omega) (l.drop (half n)) (i - half n) (by rw [List.length_drop, hn]) x (by rw [List.getElem?_drop, show half n + (i - half n) = i by omega]; exact hx), root_more P z l (by omega), hn]
/-- A proof has just one length. -/
theorem up_len : ∀ (n i : Nat) (x y : α) (p q : List α), (up P n i x p).2 = true → (up P n i y q).2 = true → p.length = q.length := by
  have go : ∀ (p q : List α) (n i : Nat) (x y : α), (upR P n i x p).2 = true → (upR P n i y q).2 = true → p.length = q.length := by
    intro p
    induction p with
    | nil =>
      intro q n i x y h1 h2
      cases q with
      | nil => rfl
      | cons b s =>
        simp [upR] at h1
        simp [upR, h1] at h2
    | cons a r ih =>
      intro q n i x y h1 h2
      have hn : ¬ n ≤ 1 := by
        intro e
        simp [upR, e] at h1
      cases q with
      | nil =>
        simp [upR] at h2
        exact absurd h2 hn
      | cons b s =>
        by_cases k : i < half n
        · simp [upR, hn, k] at h1 h2
          simp [ih s _ _ _ _ h1 h2]
        · simp [upR, hn, k] at h1 h2
          simp [ih s _ _ _ _ h1 h2]
  intro n i x y p q h1 h2
  have := go p.reverse q.reverse n i x y h1 h2
  simpa using this
/-- The proof that a list goes on its first m: of the whole list, or of a cut one. -/
def goes (l : List α) (m : Nat) (whole : Bool) : List α :=
  if h : m = l.length ∨ l.length < 2 then (if whole then [] else [root P z l])
  else
    have : half l.length < l.length := half_lt (by omega)
    have := half_pos l.length
    if m ≤ half l.length then goes (l.take (half l.length)) m whole ++ [root P z (l.drop (half l.length))]
    else goes (l.drop (half l.length)) (m - half l.length) false ++ [root P z (l.take (half l.length))]
termination_by l.length
decreasing_by
  · simp [List.length_take]; omega
  · simp [List.length_drop]; omega
theorem goes_all (l : List α) (m : Nat) (whole : Bool) (h : m = l.length) : goes P z l m whole = if whole then [] else [root P z l] := by
  rw [goes, dif_pos (Or.inl h)]
theorem goes_left (l : List α) (m : Nat) (whole : Bool) (h : m ≠ l.length) (h2 : 2 ≤ l.length) (hm : m ≤ half l.length) : goes P z l m whole = goes P z (l.take (half l.length)) m whole ++ [root P z (l.drop (half l.length))] := by
  rw [goes, dif_neg (by omega)]
  exact if_pos hm
theorem goes_right (l : List α) (m : Nat) (whole : Bool) (h : m ≠ l.length) (h2 : 2 ≤ l.length) (hm : ¬ m ≤ half l.length) : goes P z l m whole = goes P z (l.drop (half l.length)) (m - half l.length) false ++ [root P z (l.take (half l.length))] := by
  rw [goes, dif_neg (by omega)]
  exact if_neg hm
theorem goes_len : ∀ (a : Nat) (l : List α) (m : Nat) (whole : Bool), l.length ≤ 2 ^ a → 1 ≤ m → m ≤ l.length → (goes P z l m whole).length ≤ a + 1
  | 0, l, m, whole, h, h1, h2 => by
    rw [goes_all P z l m whole (by simp at h; omega)]
    cases whole <;> simp
  | a + 1, l, m, whole, h, h1, h2 => by
    by_cases q : m = l.length
    · rw [goes_all P z l m whole q]
      cases whole <;> simp
    · obtain ⟨k1, k2⟩ := half_bound (show 2 ≤ l.length by omega) h
      have hl := half_lt (show 2 ≤ l.length by omega)
      by_cases k : m ≤ half l.length
      · rw [goes_left P z l m whole q (by omega) k, List.length_append]
        have := goes_len a (l.take (half l.length)) m whole (by rw [List.length_take]; omega) h1 (by rw [List.length_take]; omega)
        show _ + 1 ≤ a + 1 + 1; omega
      · rw [goes_right P z l m whole q (by omega) k, List.length_append]
        have := goes_len a (l.drop (half l.length)) (m - half l.length) false (by rw [List.length_drop]; exact k2) (by omega) (by rw [List.length_drop]; omega)
        show _ + 1 ≤ a + 1 + 1; omega
/-- Both roots that such a proof tells; a proof read from its end. -/
def onR (old : α) (m n : Nat) (whole : Bool) : List α → α × α × Bool
  | [] => (old, old, decide (m = n) && whole)
  | last :: rest =>
    if m = n then (if whole = false ∧ rest = [] then (last, last, true) else (old, old, false))
    else if m ≤ half n then
      have r := onR old m (half n) whole rest
      (r.1, P r.2.1 last, r.2.2)
    else
      have r := onR old (m - half n) (n - half n) false rest
      (P last r.1, P last r.2.1, r.2.2)
def on (old : α) (m n : Nat) (whole : Bool) (p : List α) : α × α × Bool := onR P old m n whole p.reverse
theorem on_left {old : α} {m n : Nat} {whole : Bool} (p : List α) (a : α) (h : m ≠ n) (hm : m ≤ half n) : on P old m n whole (p ++ [a]) = ((on P old m (half n) whole p).1, P (on P old m (half n) whole p).2.1 a, (on P old m (half n) whole p).2.2) := by
  simp [on, onR, h, hm]
theorem on_right {old : α} {m n : Nat} {whole : Bool} (p : List α) (a : α) (h : m ≠ n) (hm : ¬ m ≤ half n) : on P old m n whole (p ++ [a]) = (P a (on P old (m - half n) (n - half n) false p).1, P a (on P old (m - half n) (n - half n) false p).2.1, (on P old (m - half n) (n - half n) false p).2.2) := by
  simp [on, onR, h, hm]
theorem half_same {m n : Nat} (h : 2 ≤ n) (h1 : half n < m) (h2 : m ≤ n) : half m = half n := by
  have := half_ge h
  have e : half n = 2 ^ (n - 1).log2 := rfl
  rw [e]
  exact half_of (by rw [← e]; exact h1) (by rw [Nat.pow_succ, ← e]; omega)
/-- Such a proof that was made is one. -/
theorem on_goes : ∀ (n : Nat) (l : List α) (m : Nat) (whole : Bool) (old : α), l.length = n → 1 ≤ m → m ≤ n → (whole = true → old = root P z (l.take m)) → on P old m n whole (goes P z l m whole) = (root P z (l.take m), root P z l, true) := by
  intro n
  induction n using Nat.strongRecOn with
  | _ n ih =>
    intro l m whole old hn h1 h2 ho
    by_cases q : m = n
    · subst q
      rw [goes_all P z l m whole hn.symm]
      have ht : l.take m = l := List.take_of_length_le (by omega)
      cases whole with
      | true => rw [ht] at ho ⊢; simp [on, onR, ho rfl]
      | false => rw [ht]; simp [on, onR]
    · have h2n : 2 ≤ n := by omega
      have hl := half_lt h2n
      have hp := half_pos n
      by_cases k : m ≤ half n
      · rw [goes_left P z l m whole (by omega) (by omega) (by rw [hn]; exact k), on_left P _ _ q k, hn, ih (half n) hl (l.take (half n)) m whole old (by rw [List.length_take]; omega) h1 k (by
          intro hw
          rw [List.take_take, Nat.min_eq_left k]
          exact ho hw), root_more P z l (by omega), hn, List.take_take, Nat.min_eq_left k]
      · rw [goes_right P z l m whole (by omega) (by omega) (by rw [hn]; exact k), on_right P _ _ q k, hn, ih (n - half n) (by omega) (l.drop (half n)) (m - half n) false old (by rw [List.length_drop, hn]) (by omega) (by omega) (by intro hw; cases hw), root_more P z l (by omega), hn, root_more P z (l.take m) (by rw [List.length_take]; omega), List.length_take, Nat.min_eq_left (by omega), half_same h2n (by omega) h2, List.take_take, Nat.min_eq_left (by omega), List.drop_take]
theorem clash_two {a b : List α} (h1 : a.length = b.length) (h2 : a ≠ b) (h3 : root P z a = root P z b) : 2 ≤ a.length := by
  rcases Nat.lt_or_ge a.length 2 with q | q
  · exfalso
    match a, b, h1, q with
    | [], [], _, _ => exact h2 rfl
    | [x], [y], _, _ =>
      rw [root_one, root_one] at h3
      exact h2 (by rw [h3])
  · exact q
end
section
variable {α : Type} [DecidableEq α] (P : α → α → α) (z : α)
/-- Two unlike pairs with one pair, where two lists have one root. -/
def clash (a b : List α) : Option ((α × α) × (α × α)) :=
  if h : a.length ≠ b.length ∨ a = b ∨ root P z a ≠ root P z b ∨ a.length < 2 then none
  else
    have : half a.length < a.length := half_lt (by omega)
    have := half_pos a.length
    if (root P z (a.take (half a.length)), root P z (a.drop (half a.length))) ≠ (root P z (b.take (half a.length)), root P z (b.drop (half a.length))) then
      some ((root P z (a.take (half a.length)), root P z (a.drop (half a.length))), (root P z (b.take (half a.length)), root P z (b.drop (half a.length))))
    else if a.take (half a.length) ≠ b.take (half a.length) then clash (a.take (half a.length)) (b.take (half a.length))
    else clash (a.drop (half a.length)) (b.drop (half a.length))
termination_by a.length
decreasing_by
  · simp [List.length_take]; omega
  · simp [List.length_drop]; omega
theorem clash_none {a b : List α} (h : a.length ≠ b.length ∨ a = b ∨ root P z a ≠ root P z b) : clash P z a b = none := by
  rw [clash, dif_pos (by rcases h with h | h | h <;> simp [h])]
theorem clash_here {a b : List α} (h1 : a.length = b.length) (h2 : a ≠ b) (h3 : root P z a = root P z b) (h4 : (root P z (a.take (half a.length)), root P z (a.drop (half a.length))) ≠ (root P z (b.take (half a.length)), root P z (b.drop (half a.length)))) :
    clash P z a b = some ((root P z (a.take (half a.length)), root P z (a.drop (half a.length))), (root P z (b.take (half a.length)), root P z (b.drop (half a.length)))) := by
  have := clash_two P z h1 h2 h3
  rw [clash, dif_neg (by simp [h1, h2, h3]; omega)]
  exact if_pos h4
theorem clash_first {a b : List α} (h1 : a.length = b.length) (h2 : a ≠ b) (h3 : root P z a = root P z b) (h4 : ¬ (root P z (a.take (half a.length)), root P z (a.drop (half a.length))) ≠ (root P z (b.take (half a.length)), root P z (b.drop (half a.length)))) (h5 : a.take (half a.length) ≠ b.take (half a.length)) :
    clash P z a b = clash P z (a.take (half a.length)) (b.take (half a.length)) := by
  have := clash_two P z h1 h2 h3
  rw [clash, dif_neg (by simp [h1, h2, h3]; omega)]
  exact (if_neg h4).trans (if_pos h5)
theorem clash_second {a b : List α} (h1 : a.length = b.length) (h2 : a ≠ b) (h3 : root P z a = root P z b) (h4 : ¬ (root P z (a.take (half a.length)), root P z (a.drop (half a.length))) ≠ (root P z (b.take (half a.length)), root P z (b.drop (half a.length)))) (h5 : ¬ a.take (half a.length) ≠ b.take (half a.length)) :
    clash P z a b = clash P z (a.drop (half a.length)) (b.drop (half a.length)) := by
  have := clash_two P z h1 h2 h3
  rw [clash, dif_neg (by simp [h1, h2, h3]; omega)]
  exact (if_neg h4).trans (if_neg h5)
/-- Where two unlike lists, as long, have one root, there are two such pairs. -/
theorem clash_some : ∀ (n : Nat) (a b : List α), a.length = n → a.length = b.length → a ≠ b → root P z a = root P z b → ∃ x y, clash P z a b = some (x, y) ∧ x ≠ y ∧ P x.1 x.2 = P y.1 y.2 := by
  intro n
  induction n using Nat.strongRecOn with
  | _ n ih =>
    intro a b hn h1 h2 h3
    have h2l := clash_two P z h1 h2 h3
    have hl := half_lt h2l
    have hp := half_pos a.length
    by_cases h4 : (root P z (a.take (half a.length)), root P z (a.drop (half a.length))) ≠ (root P z (b.take (half a.length)), root P z (b.drop (half a.length)))
    · refine ⟨_, _, clash_here P z h1 h2 h3 h4, h4, ?_⟩
      have e1 := root_more P z a h2l
      have e2 := root_more P z b (by omega)
      rw [← h1] at e2
      rw [← e1, ← e2]; exact h3
    · have h4' : root P z (a.take (half a.length)) = root P z (b.take (half a.length)) ∧ root P z (a.drop (half a.length)) = root P z (b.drop (half a.length)) := by simpa using h4
      by_cases h5 : a.take (half a.length) ≠ b.take (half a.length)
      · rw [clash_first P z h1 h2 h3 h4 h5]
        exact ih (half a.length) (by omega) _ _ (by rw [List.length_take]; omega) (by rw [List.length_take, List.length_take, h1]) h5 h4'.1
      · rw [clash_second P z h1 h2 h3 h4 h5]
        refine ih (a.length - half a.length) (by omega) _ _ (by rw [List.length_drop]) (by rw [List.length_drop, List.length_drop, h1]) ?_ h4'.2
        intro e
        have e5 : a.take (half a.length) = b.take (half a.length) := by simpa using h5
        apply h2
        rw [← List.take_append_drop (half a.length) a, ← List.take_append_drop (half a.length) b, e5, e]
/-- Do two unlike pairs on the way have one pair? -/
def fooledR (l : List α) (i : Nat) (leaf : α) : List α → Bool
  | [] => false
  | last :: rest =>
    if l.length < 2 then false
    else
      have k := half l.length
      if i < k then
        (decide ((root P z (l.take k), root P z (l.drop k)) ≠ ((upR P k i leaf rest).1, last)) && decide (P (root P z (l.take k)) (root P z (l.drop k)) = P (upR P k i leaf rest).1 last)) || fooledR (l.take k) i leaf rest
      else
        (decide ((root P z (l.take k), root P z (l.drop k)) ≠ (last, (upR P (l.length - k) (i - k) leaf rest).1)) && decide (P (root P z (l.take k)) (root P z (l.drop k)) = P last (upR P (l.length - k) (i - k) leaf rest).1)) || fooledR (l.drop k) (i - k) leaf rest
def fooled (l : List α) (i : Nat) (leaf : α) (p : List α) : Bool := fooledR P z l i leaf p.reverse
/-- Another leaf that is shown fools. -/
theorem fooled_other : ∀ (p : List α) (l : List α) (i : Nat) (leaf x : α), l[i]? = some x → leaf ≠ x → upR P l.length i leaf p = (root P z l, true) → fooledR P z l i leaf p = true := by
  intro p
  induction p with
  | nil =>
    intro l i leaf x hx hne h
    simp [upR] at h
    have hi := (List.getElem?_eq_some_iff.mp hx).1
    have h1 : l.length = 1 := by omega
    match l, h1 with
    | [a], _ =>
      have hi0 : i = 0 := by simp at hi; exact hi
      subst hi0
      simp at hx
      rw [root_one] at h
      exact absurd (h.1.trans hx) hne
  | cons a r ih =>
    intro l i leaf x hx hne h
    have hn : ¬ l.length ≤ 1 := by
      intro e
      simp [upR, e] at h
    have hl := half_lt (show 2 ≤ l.length by omega)
    have hi := (List.getElem?_eq_some_iff.mp hx).1
    have hr := root_more P z l (by omega)
    unfold fooledR
    rw [if_neg (by omega)]
    by_cases k : i < half l.length
    · simp only [if_pos k]
      unfold upR at h
      rw [if_neg hn, if_pos k] at h
      simp only [Prod.mk.injEq] at h
      rw [hr] at h
      by_cases e : (root P z (l.take (half l.length)), root P z (l.drop (half l.length))) = ((upR P (half l.length) i leaf r).1, a)
      · simp only [Prod.mk.injEq] at e
        have := ih (l.take (half l.length)) i leaf x (by rw [List.getElem?_take, if_pos k]; exact hx) hne (by
          rw [List.length_take, Nat.min_eq_left (by omega)]
          exact Prod.ext e.1.symm h.2)
        rw [this, Bool.or_true]
      · have e2 := h.1.symm
        simp only [decide_eq_true (show _ ≠ _ from e), decide_eq_true e2, Bool.and_self, Bool.true_or]
    · simp only [if_neg k]
      unfold upR at h
      rw [if_neg hn, if_neg k] at h
      simp only [Prod.mk.injEq] at h
      rw [hr] at h
      by_cases e : (root P z (l.take (half l.length)), root P z (l.drop (half l.length))) = (a, (upR P (l.length - half l.length) (i - half l.length) leaf r).1)
      · simp only [Prod.mk.injEq] at e
        have := ih (l.drop (half l.length)) (i - half l.length) leaf x (by rw [List.getElem?_drop, show half l.length + (i - half l.length) = i by omega]; exact hx) hne (by
          rw [List.length_drop]
          exact Prod.ext e.2.symm h.2)
        rw [this, Bool.or_true]
      · have e2 := h.1.symm
        simp only [decide_eq_true (show _ ≠ _ from e), decide_eq_true e2, Bool.and_self, Bool.true_or]
end
end

section
/-! Lists of digests in memory; the document's Half and Root. -/
open Go.RowKit

/-- The root of a list of digests. -/
def noneD : D4 := ofD []
def rootD (l : List D4) : D4 := root pairS noneD l
theorem noneD_ok : noneD.ok := ofD_ok [] (by decide)
theorem rootD_ok : ∀ (n : Nat) (l : List D4), l.length = n → allD4 l → (rootD l).ok := by
  intro n
  induction n using Nat.strongRecOn with
  | _ n ih =>
    intro l hn h
    match l, hn, h with
    | [], _, _ => rw [rootD, root_nil]; exact noneD_ok
    | [a], _, h => rw [rootD, root_one]; exact h a (by simp)
    | a :: b :: r, hn, h =>
      have h2 : 2 ≤ (a :: b :: r).length := by simp
      have hl := half_lt h2
      have hp := half_pos (a :: b :: r).length
      rw [rootD, root_more pairS noneD _ h2]
      exact pairS_ok (ih _ (by rw [← hn]; exact hl) ((a :: b :: r).take (half (a :: b :: r).length)) (by rw [List.length_take]; omega) (h.take _)) (ih ((a :: b :: r).length - half (a :: b :: r).length) (by rw [← hn]; omega) ((a :: b :: r).drop (half (a :: b :: r).length)) (by rw [List.length_drop]) (h.drop _))

theorem half_small {n : Nat} (h : n ≤ 1) : half n = 1 := by
  unfold half
  rw [show n - 1 = 0 by omega]; rfl
set_option maxHeartbeats 1000000 in
set_option maxRecDepth 100000 in
theorem half_any (n : Nat) (w : World) (hn : n ≤ 1000000) : Calls Tryd.prog 50 #[.int .i64 (n : Int)] w fun e w' => e = .returned (.int .i64 (half n : Nat)) ∧ w = w' := by
  have hn1 : (n : Int) ≤ 1000000 := by omega
  go_enter Tryd.func50, Tryd.ntmps50
  go_wp2
  go_loop [3] (fun v => ∃ (a k : Nat), v = .int .i64 (k : Int) ∧ Hid (k = 2 ^ a) ∧ 1 ≤ k ∧ (k = 1 ∨ k < n)) (fun v => n + 1 - (intOf v).toNat)
  case atStart => exact ⟨0, 1, rfl, rfl, Nat.le_refl _, Or.inl rfl⟩
  case round =>
    obtain ⟨a, k, rfl, HK, hk1, hkn⟩ := hrel
    have hkb : (k : Int) ≤ 1000000 := by omega
    by_cases hlt : 2 * k < n
    · have hd : decide (2 * (k : Int) < (n : Int)) = true := by simp; omega
      clear hkn
      go_wp2
      go_round
      case rel => exact ⟨a + 1, 2 * k, by go_num, by show 2 * k = _; rw [Nat.pow_succ, HK.out, Nat.mul_comm], by omega, by omega⟩
      case measure => simp [intOf]; omega
    · have hd : decide (2 * (k : Int) < (n : Int)) = false := by simp; omega
      have hd2 : (n : Int) ≤ 2 * (k : Int) := by omega
      have HH : Hid (half n = k) := by
        show half n = k
        by_cases q : n ≤ 1
        · rw [half_small q]; omega
        · rw [HK.out]
          exact half_of (by rw [← HK.out]; omega) (by rw [Nat.pow_succ, ← HK.out]; omega)
      clear hkn
      go_wp2
      go_ret
      exact ⟨by rw [HH.out]; rfl, rfl⟩

theorem half_val (n k : Nat) (w : World) (hn : n ≤ 1000000) (hk : half n = k) : Calls Tryd.prog 50 #[.int .i64 (n : Int)] w fun e w' => e = .returned (.int .i64 (k : Int)) ∧ w = w' := by
  subst hk; exact half_any n w hn
theorem rof_none (y : D4) (w : World) (hy : noneD = y) : Calls Tryd.prog 44 #[.string ⟨#[]⟩] w fun e w' => e = .returned (.agg #[.int .u32 y.d0, .int .u32 y.d1, .int .u32 y.d2, .int .u32 y.d3]) ∧ Below w.heap.size w w' := by
  subst hy; exact rof_any ⟨#[]⟩ w (by decide)

/-- What the document's Root answers, of a list that lies in memory. -/
def RootC (l : List D4) : Prop := ∀ (p : Option Addr) (cap : Nat) (w : World), (l ≠ [] → ∃ b o, p = some ⟨b, o, none⟩ ∧ RdL w b o l) → l.length ≤ cap → cap ≤ maxLen →
  Calls Tryd.prog 29 #[.slice p l.length cap] w fun e w' => e = .returned (rootD l).val ∧ Below w.heap.size w w'
set_option maxHeartbeats 2000000 in
set_option maxRecDepth 100000 in
theorem root_c0 : RootC [] := by
  intro p cap w _ _ hm
  obtain ⟨y, hy⟩ : ∃ y, noneD = y := ⟨_, rfl⟩
  have HY := Lib.hid hy
  have HE : Hid (rootD [] = y) := by show _ = _; rw [rootD, root_nil, hy]
  clear hy
  unfold maxLen at hm
  obtain ⟨w0, hw0⟩ : ∃ w0, w.alloc (.cells #[.int .u32 0, .int .u32 0, .int .u32 0, .int .u32 0] 24) = w0 := ⟨_, rfl⟩
  obtain ⟨hR, hB⟩ := start4 w w0 hw0
  go_enter Tryd.func29, Tryd.ntmps29
  go_wp2_with fail
  clear hw0
  refine (rof_none y w0 HY.out).mono ?_
  rintro e w1 ⟨rfl, hC⟩
  have hR1 := hR.on hC
  have hB1 := hB.trans (hC.mono hB.size)
  clear hR hB hC
  obtain ⟨k0, k1, k2, k3⟩ := Arr.c4 (d := zeroD) hR1
  obtain ⟨f0, f1, f2, f3⟩ := hR1.f4
  have hRf := put4 (d := y) hR1 rfl
  have hBf := below_put4 hB1 (Nat.le_refl _) y
  clear hR1 hB1
  go_wp2_with fail
  generalize (((w1.setCell ⟨w.heap.size, 0, none⟩ (.int .u32 y.d0)).setCell ⟨w.heap.size, 1, none⟩ (.int .u32 y.d1)).setCell ⟨w.heap.size, 2, none⟩ (.int .u32 y.d2)).setCell ⟨w.heap.size, 3, none⟩ (.int .u32 y.d3) = wf at *
  obtain ⟨r0, r1, r2, r3⟩ := hRf.c4
  refine bodyPost_ret (v := y.val) (by simp [results, Tryd.results29, go_sem, D4.val, r0, r1, r2, r3]) rfl ⟨by rw [HE.out], hBf⟩
set_option maxHeartbeats 2000000 in
set_option maxRecDepth 100000 in
theorem root_c1 (a : D4) : RootC [a] := by
  intro p cap w hp _ hm
  obtain ⟨b, o, rfl, hr⟩ := hp (by simp)
  have HE : Hid (rootD [a] = a) := by show _ = _; rw [rootD, root_one]
  unfold maxLen at hm
  obtain ⟨w0, hw0⟩ : ∃ w0, w.alloc (.cells #[.int .u32 0, .int .u32 0, .int .u32 0, .int .u32 0] 24) = w0 := ⟨_, rfl⟩
  obtain ⟨hR, hB⟩ := start4 w w0 hw0
  have hr0 := hr.on hB
  obtain ⟨c0, c1, c2, c3⟩ := hr0.2 0 (by simp)
  simp only [Nat.zero_mul, Nat.add_zero, List.getD_cons_zero] at c0 c1 c2 c3
  obtain ⟨k0, k1, k2, k3⟩ := Arr.c4 (d := zeroD) hR
  obtain ⟨f0, f1, f2, f3⟩ := hR.f4
  have hRf := put4 (d := a) hR rfl
  have hBf := below_put4 hB (Nat.le_refl _) a
  clear hR hB hr hr0
  go_enter Tryd.func29, Tryd.ntmps29
  go_wp2_with fail
  clear hw0
  generalize (((w0.setCell ⟨w.heap.size, 0, none⟩ (.int .u32 a.d0)).setCell ⟨w.heap.size, 1, none⟩ (.int .u32 a.d1)).setCell ⟨w.heap.size, 2, none⟩ (.int .u32 a.d2)).setCell ⟨w.heap.size, 3, none⟩ (.int .u32 a.d3) = wf at *
  obtain ⟨r0, r1, r2, r3⟩ := hRf.c4
  refine bodyPost_ret (v := a.val) (by simp [results, Tryd.results29, go_sem, D4.val, r0, r1, r2, r3]) rfl ⟨by rw [HE.out], hBf⟩
end

section
/-! The document's Root of any list. -/
open Go.RowKit

theorem root_val (l : List D4) (H : RootC l) (y : D4) (b o n cap : Nat) (w : World) (hr : RdL w b o l) (hn : n = l.length) (hc : l.length ≤ cap) (hm : cap ≤ maxLen) (hy : rootD l = y) :
    Calls Tryd.prog 29 #[.slice (some ⟨b, o, none⟩) n cap] w fun e w' => e = .returned (.agg #[.int .u32 y.d0, .int .u32 y.d1, .int .u32 y.d2, .int .u32 y.d3]) ∧ Below w.heap.size w w' := by
  subst hy; subst hn
  exact H (some ⟨b, o, none⟩) cap w (fun _ => ⟨b, o, rfl, hr⟩) hc hm
set_option maxHeartbeats 2000000 in
set_option maxRecDepth 100000 in
theorem root_cN (l : List D4) (h2 : 2 ≤ l.length) (hle : l.length ≤ 1000000) (hok : allD4 l) (hT : RootC (l.take (half l.length))) (hD : RootC (l.drop (half l.length))) : RootC l := by
  intro p cap w hp hc hm
  obtain ⟨b, o, rfl, hr⟩ := hp (by intro e; subst e; simp at h2)
  obtain ⟨n, hn⟩ : ∃ n, l.length = n := ⟨_, rfl⟩
  have hk1 := half_lt h2
  have hk0 := half_pos l.length
  obtain ⟨k, hk⟩ : ∃ k, half l.length = k := ⟨_, rfl⟩
  obtain ⟨x, hx⟩ : ∃ x, rootD (l.take k) = x := ⟨_, rfl⟩
  obtain ⟨z, hz⟩ : ∃ z, rootD (l.drop k) = z := ⟨_, rfl⟩
  obtain ⟨y, hy⟩ : ∃ y, pairS x z = y := ⟨_, rfl⟩
  have hxo : x.ok := by rw [← hx]; exact rootD_ok _ _ rfl (hok.take k)
  have hzo : z.ok := by rw [← hz]; exact rootD_ok _ _ rfl (hok.drop k)
  have HE : Hid (rootD l = y) := by show _ = _; rw [rootD, root_more pairS noneD l h2, hk]; show pairS (rootD _) (rootD _) = y; rw [hx, hz, hy]
  rw [hk] at hk0 hk1 hT hD
  have hlt : (l.take k).length = k := by rw [List.length_take]; omega
  have hld : (l.drop k).length = n - k := by rw [List.length_drop, hn]
  rw [hn] at hk hk1 h2 hle hc
  have HX := Lib.hid hx
  have HZ := Lib.hid hz
  have HY := Lib.hid hy
  have HK := Lib.hid hk
  have HN := Lib.hid hn
  have HLT := Lib.hid hlt
  have HLD := Lib.hid hld
  clear hx hz hy hk hlt hld
  unfold maxLen at hm
  obtain ⟨w0, hw0⟩ : ∃ w0, w.alloc (.cells #[.int .u32 0, .int .u32 0, .int .u32 0, .int .u32 0] 24) = w0 := ⟨_, rfl⟩
  obtain ⟨hR, hB⟩ := start4 w w0 hw0
  have hr0 := hr.on hB
  clear hr
  rw [hn]
  clear hn
  go_enter Tryd.func29, Tryd.ntmps29
  go_wp2_with fail
  clear hw0
  refine (half_val n k w0 hle HK.out).mono ?_
  rintro e w1 ⟨rfl, rfl⟩
  go_wp2_with fail
  have hrd : RdL w0.drew b o l := hr0
  have hRd : Arr .u32 24 w.heap.size [0, 0, 0, 0] w0.drew := hR
  have hBd : Below w.heap.size w w0.drew := hB.drew
  clear hr0 hR hB
  have hki : (k : Int) ≤ (n : Int) := by omega
  have hkc : (k : Int) ≤ (cap : Int) := by omega
  have hk00 : (0 : Int) ≤ (k : Int) := by omega
  have hnc : (n : Int) ≤ (cap : Int) := by omega
  have hck : cap ≠ k := by omega
  have hcm : cap ≤ maxLen := hm
  have hcm2 : cap - k ≤ maxLen := by unfold maxLen; omega
  have hc1 : (l.take k).length ≤ cap := by rw [HLT.out]; omega
  have hc2 : (l.drop k).length ≤ cap - k := by rw [HLD.out]; omega
  have hr1 := hrd.take k
  go_region_held3 (fun _ => True)
    (trivial)
    (first
      | (go_at_call 29; (with_reducible refine (root_val _ hT x b o k cap _ hr1 HLT.out.symm hc1 hcm HX.out).mono ?_); rintro e w1 ⟨rfl, hA1⟩; have hR1 := hRd.on hA1; have hB1 := hBd.trans (hA1.mono hBd.size); have hr2 := (hrd.on hA1).drop k)
      | (go_at_call 29; (with_reducible refine (root_val _ hD z b (o + k * 4) (n - k) (cap - k) _ hr2 HLD.out.symm hc2 hcm2 HZ.out).mono ?_); rintro e w2 ⟨rfl, hA2⟩; have hR2 := hR1.on hA2; have hB2 := hB1.trans (hA2.mono hB1.size))
      | (go_at_call 42; (with_reducible refine (rpair_val x z y _ hxo hzo HY.out).mono ?_); rintro e w3 ⟨rfl, hA3⟩; have hR3 := hR2.on hA3; have hB3 := hB2.trans (hA3.mono hB2.size); obtain ⟨k0, k1, k2, k3⟩ := Arr.c4 (d := zeroD) hR3; obtain ⟨f0, f1, f2, f3⟩ := hR3.f4))
  have hRf := put4 (d := y) hR3 rfl
  have hBf := below_put4 hB3 (Nat.le_refl _) y
  go_wp2_with fail
  generalize (((w3.setCell ⟨w.heap.size, 0, none⟩ (.int .u32 y.d0)).setCell ⟨w.heap.size, 1, none⟩ (.int .u32 y.d1)).setCell ⟨w.heap.size, 2, none⟩ (.int .u32 y.d2)).setCell ⟨w.heap.size, 3, none⟩ (.int .u32 y.d3) = wf at *
  obtain ⟨r0, r1, r2, r3⟩ := hRf.c4
  refine bodyPost_ret (v := y.val) (by simp [results, Tryd.results29, go_sem, D4.val, r0, r1, r2, r3]) rfl ⟨by rw [HE.out], hBf⟩
theorem root_all : ∀ (n : Nat) (l : List D4), l.length = n → n ≤ 1000000 → allD4 l → RootC l := by
  intro n
  induction n using Nat.strongRecOn with
  | _ n ih =>
    intro l hn hle hok
    match l, hn, hok with
    | [], _, _ => exact root_c0
    | [a], _, _ => exact root_c1 a
    | a :: b :: r, hn, hok =>
      have h2 : 2 ≤ (a :: b :: r).length := by simp
      have hl := half_lt h2
      have hp := half_pos (a :: b :: r).length
      exact root_cN (a :: b :: r) h2 (by omega) hok
        (ih (half (a :: b :: r).length) (by omega) ((a :: b :: r).take (half (a :: b :: r).length)) (by rw [List.length_take]; omega) (by omega) (hok.take _))
        (ih ((a :: b :: r).length - half (a :: b :: r).length) (by omega) ((a :: b :: r).drop (half (a :: b :: r).length)) (by rw [List.length_drop]) (by omega) (hok.drop _))
theorem root_any (l : List D4) (hle : l.length ≤ 1000000) (hok : allD4 l) : RootC l := root_all l.length l rfl hle hok
end

section
/-! Lists of digests that a call made; the document's proof of a place. -/
open Go.RowKit
end

section
/-! The document's proof of a place. -/
open Go.RowKit

def wayD (l : List D4) (i : Nat) : List D4 := way pairS noneD l i
/-- What the document's way answers. -/
def WayC (l : List D4) (i : Nat) : Prop := ∀ (b o cap : Nat) (w : World), RdL w b o l → l.length ≤ cap → cap ≤ maxLen →
  Calls Tryd.prog 56 #[.slice (some ⟨b, o, none⟩) l.length cap, .int .i64 (i : Int)] w fun e w' => ∃ v, e = .returned v ∧ OwnsD w.heap.size v (wayD l i) w' ∧ Below w.heap.size w w'
theorem way_val (l : List D4) (i : Nat) (H : WayC l i) (q : List D4) (b o n cap : Nat) (m : Int) (w : World) (hr : RdL w b o l) (hn : n = l.length) (hi : (i : Int) = m) (hc : l.length ≤ cap) (hm : cap ≤ maxLen) (hq : wayD l i = q) :
    Calls Tryd.prog 56 #[.slice (some ⟨b, o, none⟩) n cap, .int .i64 m] w fun e w' => ∃ v, e = .returned v ∧ OwnsD w.heap.size v q w' ∧ Below w.heap.size w w' := by
  subst hq; subst hn; subst hi
  exact H b o cap w hr hc hm
set_option maxHeartbeats 2000000 in
set_option maxRecDepth 100000 in
theorem way_c1 (a : D4) : WayC [a] 0 := by
  intro b o cap w hr hc hm
  have HE : Hid (wayD [a] 0 = []) := by show _ = _; rw [wayD, way_few _ _ _ _ (by simp)]
  unfold maxLen at hm
  go_enter Tryd.func56, Tryd.ntmps56
  go_wp2
  go_ret
  exact ⟨_, rfl, by rw [HE.out]; exact OwnsD.nil _ _, Below.refl _ _⟩
set_option maxHeartbeats 4000000 in
set_option maxRecDepth 100000 in
theorem way_cL (l : List D4) (i : Nat) (h2 : 2 ≤ l.length) (hle : l.length ≤ 1000000) (hi : i < half l.length) (hT : WayC (l.take (half l.length)) i) (hD : RootC (l.drop (half l.length))) : WayC l i := by
  intro b o cap w hr hc hm
  obtain ⟨n, hn⟩ : ∃ n, l.length = n := ⟨_, rfl⟩
  have hk1 := half_lt h2
  have hk0 := half_pos l.length
  obtain ⟨k, hk⟩ : ∃ k, half l.length = k := ⟨_, rfl⟩
  obtain ⟨q, hq⟩ : ∃ q, wayD (l.take k) i = q := ⟨_, rfl⟩
  obtain ⟨z, hz⟩ : ∃ z, rootD (l.drop k) = z := ⟨_, rfl⟩
  have hqn : q.length ≤ 20 := by rw [← hq]; exact way_len _ _ 20 _ _ (by rw [List.length_take]; have : (2 : Nat) ^ 20 = 1048576 := (by decide); omega)
  have HE : Hid (wayD l i = q ++ [z]) := by show _ = _; rw [wayD, way_left pairS noneD l i h2 hi, hk]; show wayD _ _ ++ [rootD _] = _; rw [hq, hz]
  rw [hk] at hk0 hk1 hT hD hi
  have hlt : (l.take k).length = k := by rw [List.length_take]; omega
  have hld : (l.drop k).length = n - k := by rw [List.length_drop, hn]
  rw [hn] at hk hk1 h2 hle hc
  have HZ := Lib.hid hz
  have HQ := Lib.hid hq
  have HK := Lib.hid hk
  have HLT := Lib.hid hlt
  have HLD := Lib.hid hld
  clear hz hq hk hlt hld
  rw [hn]
  clear hn
  have hcm : cap ≤ maxLen := hm
  unfold maxLen at hm
  have hdi : decide ((i : Int) < (k : Int)) = true := by simp; omega
  have hn1 : ((n : Int) == 1) = false := by simp; omega
  go_enter Tryd.func56, Tryd.ntmps56
  go_wp2_with fail
  refine (half_val n k w hle HK.out).mono ?_
  rintro e w1 ⟨rfl, rfl⟩
  go_wp2_with fail
  have hrd : RdL w.drew b o l := hr
  have hBd : Below w.heap.size w w.drew := (Below.refl _ w).drew
  clear hr
  have hki : (k : Int) ≤ (n : Int) := by omega
  have hkc : (k : Int) ≤ (cap : Int) := by omega
  have hk00 : (0 : Int) ≤ (k : Int) := by omega
  have hnc : (n : Int) ≤ (cap : Int) := by omega
  have hck : cap ≠ k := by omega
  have hcm2 : cap - k ≤ maxLen := by unfold maxLen; omega
  have hc1 : (l.take k).length ≤ cap := by rw [HLT.out]; omega
  have hc2 : (l.drop k).length ≤ cap - k := by rw [HLD.out]; omega
  have hr1 := hrd.take k
  obtain ⟨i0, hin, hz0, hz1, hz2⟩ := info_parts info_dg
  go_region_held3 (fun _ => True)
    (trivial)
    (first
      | (go_at_call 56; (with_reducible refine (way_val _ _ hT q b o k cap _ _ hr1 HLT.out.symm rfl hc1 hcm HQ.out).mono ?_); rintro e w1 ⟨v1, rfl, hown1, hA1⟩; have hB1 := hBd.trans (hA1.mono hBd.size); have hr2 := (hrd.on hA1).drop k)
      | (go_at_call 29; (with_reducible refine (root_val _ hD z b (o + k * 4) (n - k) (cap - k) _ hr2 HLD.out.symm hc2 hcm2 HZ.out).mono ?_); rintro e w2 ⟨rfl, hA2⟩; have hown2 := hown1.on hA2; have hB2 := hB1.trans (hA2.mono hB1.size); have hbw := hB2.size)
      | (refine step_append_lies _ (by rfl) _ _ _ (by rfl) w.heap.size 24 i0 _ 4 16 Tryd.underlying35 hin hz0 hz1 hz2 rfl (by omega) v1 q.length (dCells q) (by rfl) (hown2.alloc _) ⟨w2.heap.size, 0, none⟩ 1 1 [.int .u32 z.d0, .int .u32 z.d1, .int .u32 z.d2, .int .u32 z.d3] (by rfl) (by rfl) (World.news_of_block (cs := #[.int .u32 z.d0, .int .u32 z.d1, .int .u32 z.d2, .int .u32 z.d3]) (t := 24) (fr := (0, 0)) (heap_alloc_new w2 _)) (by simp [Value.oneCell']) (by omega) (by unfold maxLen; omega) (by omega) (by simp; omega) (w2.heap.size + 1) (by simp) ?_; intro gg gcap w3 hown3 hgrow hat hlt3))
  all_goals
    have hB3 : Below w.heap.size w w3 := (hB2.alloc hB2.size _).grown hgrow (by simp; omega) (fun k hk => (World.ownsRow.lt hown2 k hk).1)
    have hO := OwnsD.snoc (d := z) hown3
    clear hown3 hgrow hat hown2 hown1 hA1 hA2
    go_wp2
    go_ret
    exact ⟨_, rfl, by rw [HE.out]; exact hO, hB3⟩
set_option maxHeartbeats 4000000 in
set_option maxRecDepth 100000 in
theorem way_cR (l : List D4) (i : Nat) (h2 : 2 ≤ l.length) (hle : l.length ≤ 1000000) (hin' : i < l.length) (hi : ¬ i < half l.length) (hT : WayC (l.drop (half l.length)) (i - half l.length)) (hD : RootC (l.take (half l.length))) : WayC l i := by
  intro b o cap w hr hc hm
  obtain ⟨n, hn⟩ : ∃ n, l.length = n := ⟨_, rfl⟩
  have hk1 := half_lt h2
  have hk0 := half_pos l.length
  obtain ⟨k, hk⟩ : ∃ k, half l.length = k := ⟨_, rfl⟩
  obtain ⟨q, hq⟩ : ∃ q, wayD (l.drop k) (i - k) = q := ⟨_, rfl⟩
  obtain ⟨z, hz⟩ : ∃ z, rootD (l.take k) = z := ⟨_, rfl⟩
  have hqn : q.length ≤ 20 := by rw [← hq]; exact way_len _ _ 20 _ _ (by rw [List.length_drop]; have : (2 : Nat) ^ 20 = 1048576 := (by decide); omega)
  have HE : Hid (wayD l i = q ++ [z]) := by show _ = _; rw [wayD, way_right pairS noneD l i h2 hi, hk]; show wayD _ _ ++ [rootD _] = _; rw [hq, hz]
  rw [hk] at hk0 hk1 hT hD hi
  have hlt : (l.take k).length = k := by rw [List.length_take]; omega
  have hld : (l.drop k).length = n - k := by rw [List.length_drop, hn]
  rw [hn] at hk hk1 h2 hle hc hin'
  have HZ := Lib.hid hz
  have HQ := Lib.hid hq
  have HK := Lib.hid hk
  have HLT := Lib.hid hlt
  have HLD := Lib.hid hld
  clear hz hq hk hlt hld
  rw [hn]
  clear hn
  have hcm : cap ≤ maxLen := hm
  unfold maxLen at hm
  have hdi : decide ((i : Int) < (k : Int)) = false := by simp; omega
  have hn1 : ((n : Int) == 1) = false := by simp; omega
  go_enter Tryd.func56, Tryd.ntmps56
  go_wp2_with fail
  refine (half_val n k w hle HK.out).mono ?_
  rintro e w1 ⟨rfl, rfl⟩
  go_wp2_with fail
  have hrd : RdL w.drew b o l := hr
  have hBd : Below w.heap.size w w.drew := (Below.refl _ w).drew
  clear hr
  have hki : (k : Int) ≤ (n : Int) := by omega
  have hkc : (k : Int) ≤ (cap : Int) := by omega
  have hk00 : (0 : Int) ≤ (k : Int) := by omega
  have hnc : (n : Int) ≤ (cap : Int) := by omega
  have hck : cap ≠ k := by omega
  have hcm2 : cap - k ≤ maxLen := by unfold maxLen; omega
  have hc1 : (l.take k).length ≤ cap := by rw [HLT.out]; omega
  have hc2 : (l.drop k).length ≤ cap - k := by rw [HLD.out]; omega
  have hr1 := hrd.drop k
  have hwr : IntKind.i64.wrap ((i : Int) - (k : Int)) = ((i - k : Nat) : Int) := by rw [IntWalk.i64_in _ (by omega)]; omega
  obtain ⟨i0, hin, hz0, hz1, hz2⟩ := info_parts info_dg
  go_region_held3 (fun _ => True)
    (trivial)
    (first
      | (go_at_call 56; (with_reducible refine (way_val _ _ hT q b (o + k * 4) (n - k) (cap - k) _ _ hr1 HLD.out.symm rfl hc2 hcm2 HQ.out).mono ?_); rintro e w1 ⟨v1, rfl, hown1, hA1⟩; have hB1 := hBd.trans (hA1.mono hBd.size); have hr2 := (hrd.on hA1).take k)
      | (go_at_call 29; (with_reducible refine (root_val _ hD z b o k cap _ hr2 HLT.out.symm hc1 hcm HZ.out).mono ?_); rintro e w2 ⟨rfl, hA2⟩; have hown2 := hown1.on hA2; have hB2 := hB1.trans (hA2.mono hB1.size); have hbw := hB2.size)
      | (refine step_append_lies _ (by rfl) _ _ _ (by rfl) w.heap.size 24 i0 _ 4 16 Tryd.underlying35 hin hz0 hz1 hz2 rfl (by omega) v1 q.length (dCells q) (by rfl) (hown2.alloc _) ⟨w2.heap.size, 0, none⟩ 1 1 [.int .u32 z.d0, .int .u32 z.d1, .int .u32 z.d2, .int .u32 z.d3] (by rfl) (by rfl) (World.news_of_block (cs := #[.int .u32 z.d0, .int .u32 z.d1, .int .u32 z.d2, .int .u32 z.d3]) (t := 24) (fr := (0, 0)) (heap_alloc_new w2 _)) (by simp [Value.oneCell']) (by omega) (by unfold maxLen; omega) (by omega) (by simp; omega) (w2.heap.size + 1) (by simp) ?_; intro gg gcap w3 hown3 hgrow hat hlt3))
  all_goals
    have hB3 : Below w.heap.size w w3 := (hB2.alloc hB2.size _).grown hgrow (by simp; omega) (fun k hk => (World.ownsRow.lt hown2 k hk).1)
    have hO := OwnsD.snoc (d := z) hown3
    clear hown3 hgrow hat hown2 hown1 hA1 hA2
    go_wp2
    go_ret
    exact ⟨_, rfl, by rw [HE.out]; exact hO, hB3⟩
end

section
/-! The document's Prove; what a proof tells (up). -/
open Go.RowKit

theorem way_all : ∀ (n : Nat) (l : List D4), l.length = n → n ≤ 1000000 → allD4 l → ∀ i, i < n → WayC l i := by
  intro n
  induction n using Nat.strongRecOn with
  | _ n ih =>
    intro l hn hle hok i hi
    match l, hn, hok with
    | [], hn, _ => exact absurd hi (by simp at hn; omega)
    | [a], hn, _ =>
      have : i = 0 := by simp at hn; omega
      subst this
      exact way_c1 a
    | a :: b :: r, hn, hok =>
      have h2 : 2 ≤ (a :: b :: r).length := by simp
      have hl := half_lt h2
      have hp := half_pos (a :: b :: r).length
      by_cases q : i < half (a :: b :: r).length
      · exact way_cL (a :: b :: r) i h2 (by omega) q
          (ih (half (a :: b :: r).length) (by omega) ((a :: b :: r).take (half (a :: b :: r).length)) (by rw [List.length_take]; omega) (by omega) (hok.take _) i q)
          (root_any _ (by rw [List.length_drop]; omega) (hok.drop _))
      · exact way_cR (a :: b :: r) i h2 (by omega) (by omega) q
          (ih ((a :: b :: r).length - half (a :: b :: r).length) (by omega) ((a :: b :: r).drop (half (a :: b :: r).length)) (by rw [List.length_drop]) (by omega) (hok.drop _) (i - half (a :: b :: r).length) (by omega))
          (root_any _ (by rw [List.length_take]; omega) (hok.take _))
/-- The document's Prove: no such place. -/
theorem rprove_no (p : Option Addr) (n cap : Nat) (m : Int) (w : World) (h : m < 0 ∨ (n : Int) ≤ m) : Calls Tryd.prog 33 #[.slice p n cap, .int .i64 m] w fun e w' => e = .returned (.tuple #[.slice none 0 0, .int .i64 1]) ∧ w = w' := by
  by_cases q : m < 0
  · have hd : decide (m < 0) = true := by simp; omega
    go_enter Tryd.func33, Tryd.ntmps33
    go_wp2
    go_ret2
    exact ⟨rfl, rfl⟩
  · have hd : decide (m < 0) = false := by simp; omega
    have hd2 : decide ((n : Int) ≤ m) = true := by simp; omega
    go_enter Tryd.func33, Tryd.ntmps33
    go_wp2
    go_ret2
    exact ⟨rfl, rfl⟩
theorem rprove_any (l : List D4) (i b o cap : Nat) (w : World) (hle : l.length ≤ 1000000) (hok : allD4 l) (hi : i < l.length) (hr : RdL w b o l) (hc : l.length ≤ cap) (hm : cap ≤ maxLen) :
    Calls Tryd.prog 33 #[.slice (some ⟨b, o, none⟩) l.length cap, .int .i64 (i : Int)] w fun e w' => ∃ v, e = .returned (.tuple #[v, .int .i64 0]) ∧ OwnsD w.heap.size v (wayD l i) w' ∧ Below w.heap.size w w' := by
  have H := way_all l.length l rfl hle hok i hi
  have hcm := hm
  unfold maxLen at hm
  have hd : decide ((i : Int) < 0) = false := by simp
  have hd2 : decide ((l.length : Int) ≤ (i : Int)) = false := by simp; omega
  go_enter Tryd.func33, Tryd.ntmps33
  go_wp2_with fail
  refine (H b o cap w hr hc hcm).mono ?_
  rintro e w1 ⟨v, rfl, hO, hB⟩
  go_wp2
  go_ret2
  exact ⟨_, rfl, hO, hB⟩
end

section
/-! What a proof tells of a leaf: the document's up. -/
open Go.RowKit

theorem start44 (a : D4) (w w0 : World) (h : (w.alloc (.cells #[.int .u32 a.d0, .int .u32 a.d1, .int .u32 a.d2, .int .u32 a.d3] 24)).alloc (.cells #[.int .u32 0, .int .u32 0, .int .u32 0, .int .u32 0] 24) = w0) :
    Arr .u32 24 w.heap.size a.toL w0 ∧ Arr .u32 24 (w.heap.size + 1) [0, 0, 0, 0] w0 ∧ Below w.heap.size w w0 ∧ w0.heap.size = w.heap.size + 1 + 1 := by
  subst h
  obtain ⟨w1, h1⟩ : ∃ w1, w.alloc (.cells #[.int .u32 a.d0, .int .u32 a.d1, .int .u32 a.d2, .int .u32 a.d3] 24) = w1 := ⟨_, rfl⟩
  have hA1 : Arr .u32 24 w.heap.size a.toL w1 := by rw [← h1]; exact heap_alloc_new w _
  have a1 : w1.heap.size = w.heap.size + 1 := by rw [← h1]; simp
  have B1 : Below w.heap.size w w1 := by rw [← h1]; exact (Below.refl _ _).alloc (Nat.le_refl _) _
  rw [h1]
  refine ⟨hA1.al _, ?_, B1.alloc (by omega) _, by simp [a1]⟩
  rw [← a1]
  exact heap_alloc_new w1 _
theorem allD4.left {p q : List D4} (h : allD4 (p ++ q)) : allD4 p := fun d hd => h d (by simp [hd])
theorem allD4.lastOk {p : List D4} {x : D4} (h : allD4 (p ++ [x])) : x.ok := h x (by simp)
theorem RdL.last {w : World} {b o : Nat} {p : List D4} {x : D4} (h : RdL w b o (p ++ [x])) : dgAt w b (o + p.length * 4) x := by
  have := h.2 p.length (by simp)
  simpa using this
theorem RdL.init {w : World} {b o : Nat} {p : List D4} {x : D4} (h : RdL w b o (p ++ [x])) : RdL w b o p := by
  have := h.take p.length
  simpa using this

def upD (n i : Nat) (x : D4) (p : List D4) : D4 × Bool := up pairS n i x p
/-- What the document's up answers, of a proof. -/
def UpC (p : List D4) : Prop := ∀ (n i : Nat) (x : D4) (a : Option Addr) (cap : Nat) (w : World), 1 ≤ n → n ≤ 1000000 → i ≤ 1000000 → x.ok → RdS w a p → p.length ≤ cap → cap ≤ maxLen →
  Calls Tryd.prog 61 #[.int .i64 (n : Int), .int .i64 (i : Int), x.val, .slice a p.length cap] w fun e w' => e = .returned (.tuple #[(upD n i x p).1.val, .bool (upD n i x p).2]) ∧ Below w.heap.size w w'
set_option maxHeartbeats 2000000 in
set_option maxRecDepth 100000 in
theorem up_cOne (p : List D4) (i : Nat) (x : D4) (a : Option Addr) (cap : Nat) (w : World) : Calls Tryd.prog 61 #[.int .i64 ((1 : Nat) : Int), .int .i64 (i : Int), x.val, .slice a p.length cap] w fun e w' => e = .returned (.tuple #[(upD 1 i x p).1.val, .bool (upD 1 i x p).2]) ∧ Below w.heap.size w w' := by
  obtain ⟨bl, hbl⟩ : ∃ bl, ((p.length : Int) == 0) = bl := ⟨_, rfl⟩
  have HE : Hid (upD 1 i x p = (x, bl)) := by
    show _ = _
    rw [upD, up_one _ _ _ (Nat.le_refl _), ← hbl]
    cases p with
    | nil => rfl
    | cons a r => congr 1
  obtain ⟨w0, hw0⟩ : ∃ w0, (w.alloc (.cells #[.int .u32 x.d0, .int .u32 x.d1, .int .u32 x.d2, .int .u32 x.d3] 24)).alloc (.cells #[.int .u32 0, .int .u32 0, .int .u32 0, .int .u32 0] 24) = w0 := ⟨_, rfl⟩
  obtain ⟨hL, hR, hB, _⟩ := start44 x w w0 hw0
  obtain ⟨l0, l1, l2, l3⟩ := Arr.c4 hL
  obtain ⟨k0, k1, k2, k3⟩ := Arr.c4 (d := zeroD) hR
  obtain ⟨f0, f1, f2, f3⟩ := hR.f4
  have hRf := put4 (d := x) hR rfl
  have hBf := below_put4 hB (Nat.le_succ _) x
  clear hR hB hL
  go_enter Tryd.func61, Tryd.ntmps61
  simp only [D4.val]
  go_wp2_with fail
  clear hw0
  generalize (((w0.setCell ⟨w.heap.size + 1, 0, none⟩ (.int .u32 x.d0)).setCell ⟨w.heap.size + 1, 1, none⟩ (.int .u32 x.d1)).setCell ⟨w.heap.size + 1, 2, none⟩ (.int .u32 x.d2)).setCell ⟨w.heap.size + 1, 3, none⟩ (.int .u32 x.d3) = wf at *
  obtain ⟨r0, r1, r2, r3⟩ := hRf.c4
  refine bodyPost_ret (v := .tuple #[x.val, .bool bl]) (by simp [results, Tryd.results61, go_sem, D4.val, r0, r1, r2, r3]) rfl ⟨by rw [HE.out]; rfl, hBf⟩
set_option maxHeartbeats 2000000 in
set_option maxRecDepth 100000 in
theorem up_cNone (n i : Nat) (x : D4) (a : Option Addr) (cap : Nat) (w : World) (h2 : 2 ≤ n) (hle : n ≤ 1000000) : Calls Tryd.prog 61 #[.int .i64 (n : Int), .int .i64 (i : Int), x.val, .slice a 0 cap] w fun e w' => e = .returned (.tuple #[(upD n i x []).1.val, .bool (upD n i x []).2]) ∧ Below w.heap.size w w' := by
  have HE : Hid (upD n i x [] = (x, false)) := by show _ = _; rw [upD, up_none _ _ (by omega)]
  have hn1 : ((n : Int) == 1) = false := by simp; omega
  obtain ⟨w0, hw0⟩ : ∃ w0, (w.alloc (.cells #[.int .u32 x.d0, .int .u32 x.d1, .int .u32 x.d2, .int .u32 x.d3] 24)).alloc (.cells #[.int .u32 0, .int .u32 0, .int .u32 0, .int .u32 0] 24) = w0 := ⟨_, rfl⟩
  obtain ⟨hL, hR, hB, _⟩ := start44 x w w0 hw0
  obtain ⟨l0, l1, l2, l3⟩ := Arr.c4 hL
  obtain ⟨k0, k1, k2, k3⟩ := Arr.c4 (d := zeroD) hR
  obtain ⟨f0, f1, f2, f3⟩ := hR.f4
  have hRf := put4 (d := x) hR rfl
  have hBf := below_put4 hB (Nat.le_succ _) x
  clear hR hB hL
  go_enter Tryd.func61, Tryd.ntmps61
  simp only [D4.val]
  go_wp2_with fail
  clear hw0
  generalize (((w0.setCell ⟨w.heap.size + 1, 0, none⟩ (.int .u32 x.d0)).setCell ⟨w.heap.size + 1, 1, none⟩ (.int .u32 x.d1)).setCell ⟨w.heap.size + 1, 2, none⟩ (.int .u32 x.d2)).setCell ⟨w.heap.size + 1, 3, none⟩ (.int .u32 x.d3) = wf at *
  obtain ⟨r0, r1, r2, r3⟩ := hRf.c4
  refine bodyPost_ret (v := .tuple #[x.val, .bool false]) (by simp [results, Tryd.results61, go_sem, D4.val, r0, r1, r2, r3]) rfl ⟨by rw [HE.out]; rfl, hBf⟩
theorem up_val (p : List D4) (H : UpC p) (z : D4) (bl : Bool) (n i : Nat) (x : D4) (b o N cap : Nat) (u v : Int) (w : World) (hu : (n : Int) = u) (hv : (i : Int) = v) (h1 : 1 ≤ n) (hle : n ≤ 1000000) (hi : i ≤ 1000000) (hx : x.ok) (hr : RdL w b o p) (hN : N = p.length) (hc : p.length ≤ cap) (hm : cap ≤ maxLen) (hz : upD n i x p = (z, bl)) :
    Calls Tryd.prog 61 #[.int .i64 u, .int .i64 v, .agg #[.int .u32 x.d0, .int .u32 x.d1, .int .u32 x.d2, .int .u32 x.d3], .slice (some ⟨b, o, none⟩) N cap] w fun e w' => e = .returned (.tuple #[.agg #[.int .u32 z.d0, .int .u32 z.d1, .int .u32 z.d2, .int .u32 z.d3], .bool bl]) ∧ Below w.heap.size w w' := by
  subst hN; subst hu; subst hv
  have := H n i x (some ⟨b, o, none⟩) cap w h1 hle hi hx (fun _ => ⟨b, o, rfl, hr⟩) hc hm
  rw [hz] at this
  exact this
set_option maxHeartbeats 4000000 in
set_option maxRecDepth 100000 in
theorem up_cL (r : List D4) (y : D4) (n i : Nat) (x : D4) (b o cap : Nat) (w : World) (h2 : 2 ≤ n) (hle : n ≤ 1000000) (hil : i ≤ 1000000) (hi : i < half n) (hx : x.ok) (hyo : y.ok) (hzo : (upD (half n) i x r).1.ok) (hr : RdL w b o (r ++ [y])) (hc : r.length + 1 ≤ cap) (hm : cap ≤ maxLen) (H : UpC r) :
    Calls Tryd.prog 61 #[.int .i64 (n : Int), .int .i64 (i : Int), x.val, .slice (some ⟨b, o, none⟩) (r.length + 1) cap] w fun e w' => e = .returned (.tuple #[(upD n i x (r ++ [y])).1.val, .bool (upD n i x (r ++ [y])).2]) ∧ Below w.heap.size w w' := by
  have hk1 := half_lt h2
  have hk0 := half_pos n
  obtain ⟨k, hk⟩ : ∃ k, half n = k := ⟨_, rfl⟩
  obtain ⟨⟨z, bl⟩, hz⟩ : ∃ z, upD (half n) i x r = z := ⟨_, rfl⟩
  obtain ⟨g, hg⟩ : ∃ g, pairS z y = g := ⟨_, rfl⟩
  have HE : Hid (upD n i x (r ++ [y]) = (g, bl)) := by show _ = _; rw [upD, up_left pairS x r y (by omega) hi]; show (pairS (upD (half n) i x r).1 y, (upD (half n) i x r).2) = _; rw [hz, ← hg]
  rw [hz] at hzo
  rw [hk] at hk0 hk1 hz hi
  have HZ := Lib.hid hz
  have HG := Lib.hid hg
  have HK := Lib.hid hk
  clear hz hg hk
  have hn1 : ((n : Int) == 1) = false := by simp; omega
  obtain ⟨w0, hw0⟩ : ∃ w0, (w.alloc (.cells #[.int .u32 x.d0, .int .u32 x.d1, .int .u32 x.d2, .int .u32 x.d3] 24)).alloc (.cells #[.int .u32 0, .int .u32 0, .int .u32 0, .int .u32 0] 24) = w0 := ⟨_, rfl⟩
  obtain ⟨hL, hR, hB, hsz⟩ := start44 x w w0 hw0
  have hr0 := hr.on hB
  obtain ⟨m, hmm⟩ : ∃ m, r.length = m := ⟨_, rfl⟩
  obtain ⟨N, hN⟩ : ∃ N, m + 1 = N := ⟨_, rfl⟩
  have hcm := hm
  unfold maxLen at hm
  have hy0 := hr0.last
  rw [hmm] at hc hy0
  rw [hmm, hN]
  obtain ⟨c0, c1, c2, c3⟩ := hy0
  have hN0 : ((N : Int) == 0) = false := by simp; omega
  have hNw : IntKind.i64.wrap ((N : Int) - 1) = (m : Int) := by rw [IntWalk.i64_in _ (by omega)]; omega
  have hm0 : (0 : Int) ≤ (m : Int) := by omega
  have hmN : (m : Int) < (N : Int) := by omega
  have hmN2 : (m : Int) ≤ (N : Int) := by omega
  have hmc : (m : Int) ≤ (cap : Int) := by omega
  have hdi : decide ((i : Int) < (k : Int)) = true := by simp; omega
  obtain ⟨l0, l1, l2, l3⟩ := Arr.c4 hL
  have HN := Lib.hid hN
  have HM := Lib.hid hmm
  clear hN hmm
  go_enter Tryd.func61, Tryd.ntmps61
  simp only [D4.val]
  go_wp2_with fail
  clear hw0
  have hX : Arr .u32 24 (w.heap.size + 1 + 1) y.toL (w0.alloc (.cells #[.int .u32 y.d0, .int .u32 y.d1, .int .u32 y.d2, .int .u32 y.d3] 24)) := by rw [← hsz]; exact heap_alloc_new w0 _
  have hL1 := hL.al (.cells #[.int .u32 y.d0, .int .u32 y.d1, .int .u32 y.d2, .int .u32 y.d3] 24)
  have hR1 := hR.al (.cells #[.int .u32 y.d0, .int .u32 y.d1, .int .u32 y.d2, .int .u32 y.d3] 24)
  have hB1 := hB.alloc hB.size (.cells #[.int .u32 y.d0, .int .u32 y.d1, .int .u32 y.d2, .int .u32 y.d3] 24)
  generalize w0.alloc (.cells #[.int .u32 y.d0, .int .u32 y.d1, .int .u32 y.d2, .int .u32 y.d3] 24) = w1 at *
  clear l0 l1 l2 l3 c0 c1 c2 c3 hL hR hB hr0 hsz
  have hr1 := (hr.on hB1).init
  clear hr
  obtain ⟨l0, l1, l2, l3⟩ := Arr.c4 hL1
  refine (half_val n k w1 hle HK.out).mono ?_
  rintro e w1' ⟨rfl, rfl⟩
  go_wp2_with fail
  refine (up_val r H z bl k i x b o m cap _ _ w1 rfl rfl hk0 (by omega) hil hx hr1 HM.out.symm (by rw [HM.out]; omega) hcm HZ.out).mono ?_
  rintro e w2 ⟨rfl, hA2⟩
  have hX2 := hX.on hA2
  have hR2 := hR1.on hA2
  have hB2 := hB1.trans (hA2.mono hB1.size)
  clear l0 l1 l2 l3 hX hL1 hR1 hB1 hA2 hr1
  obtain ⟨t0, t1, t2, t3⟩ := Arr.c4 hX2
  have hXlt := hX2.lt
  go_wp2_with fail
  have hR3 := hR2.al (.cells #[.int .u32 z.d0, .int .u32 z.d1, .int .u32 z.d2, .int .u32 z.d3] 24)
  have hB3 := hB2.alloc hB2.size (.cells #[.int .u32 z.d0, .int .u32 z.d1, .int .u32 z.d2, .int .u32 z.d3] 24)
  generalize w2.alloc (.cells #[.int .u32 z.d0, .int .u32 z.d1, .int .u32 z.d2, .int .u32 z.d3] 24) = w3 at *
  refine (rpair_val z y g w3 hzo hyo HG.out).mono ?_
  rintro e w4 ⟨rfl, hA4⟩
  have hR4 := hR3.on hA4
  have hB4 := hB3.trans (hA4.mono hB3.size)
  clear t0 t1 t2 t3 hX2 hR2 hB2 hR3 hB3 hA4
  obtain ⟨k0, k1, k2, k3⟩ := Arr.c4 (d := zeroD) hR4
  obtain ⟨f0, f1, f2, f3⟩ := hR4.f4
  have hRf := put4 (d := g) hR4 rfl
  have hBf := below_put4 hB4 (Nat.le_succ _) g
  go_wp2_with fail
  generalize (((w4.setCell ⟨w.heap.size + 1, 0, none⟩ (.int .u32 g.d0)).setCell ⟨w.heap.size + 1, 1, none⟩ (.int .u32 g.d1)).setCell ⟨w.heap.size + 1, 2, none⟩ (.int .u32 g.d2)).setCell ⟨w.heap.size + 1, 3, none⟩ (.int .u32 g.d3) = wf at *
  obtain ⟨r0, r1, r2, r3⟩ := hRf.c4
  refine bodyPost_ret (v := .tuple #[g.val, .bool bl]) (by simp [results, Tryd.results61, go_sem, D4.val, r0, r1, r2, r3]) rfl ⟨by rw [HE.out]; rfl, hBf⟩
set_option maxHeartbeats 4000000 in
set_option maxRecDepth 100000 in
theorem up_cR (r : List D4) (y : D4) (n i : Nat) (x : D4) (b o cap : Nat) (w : World) (h2 : 2 ≤ n) (hle : n ≤ 1000000) (hil : i ≤ 1000000) (hi : ¬ i < half n) (hx : x.ok) (hyo : y.ok) (hzo : (upD (n - half n) (i - half n) x r).1.ok) (hr : RdL w b o (r ++ [y])) (hc : r.length + 1 ≤ cap) (hm : cap ≤ maxLen) (H : UpC r) :
    Calls Tryd.prog 61 #[.int .i64 (n : Int), .int .i64 (i : Int), x.val, .slice (some ⟨b, o, none⟩) (r.length + 1) cap] w fun e w' => e = .returned (.tuple #[(upD n i x (r ++ [y])).1.val, .bool (upD n i x (r ++ [y])).2]) ∧ Below w.heap.size w w' := by
  have hk1 := half_lt h2
  have hk0 := half_pos n
  obtain ⟨k, hk⟩ : ∃ k, half n = k := ⟨_, rfl⟩
  obtain ⟨⟨z, bl⟩, hz⟩ : ∃ z, upD (n - half n) (i - half n) x r = z := ⟨_, rfl⟩
  obtain ⟨g, hg⟩ : ∃ g, pairS y z = g := ⟨_, rfl⟩
  have HE : Hid (upD n i x (r ++ [y]) = (g, bl)) := by show _ = _; rw [upD, up_right pairS x r y (by omega) hi]; show (pairS y (upD (n - half n) (i - half n) x r).1, (upD (n - half n) (i - half n) x r).2) = _; rw [hz, ← hg]
  rw [hz] at hzo
  rw [hk] at hk0 hk1 hz hi
  have HZ := Lib.hid hz
  have HG := Lib.hid hg
  have HK := Lib.hid hk
  clear hz hg hk
  have hn1 : ((n : Int) == 1) = false := by simp; omega
  obtain ⟨w0, hw0⟩ : ∃ w0, (w.alloc (.cells #[.int .u32 x.d0, .int .u32 x.d1, .int .u32 x.d2, .int .u32 x.d3] 24)).alloc (.cells #[.int .u32 0, .int .u32 0, .int .u32 0, .int .u32 0] 24) = w0 := ⟨_, rfl⟩
  obtain ⟨hL, hR, hB, hsz⟩ := start44 x w w0 hw0
  have hr0 := hr.on hB
  obtain ⟨m, hmm⟩ : ∃ m, r.length = m := ⟨_, rfl⟩
  obtain ⟨N, hN⟩ : ∃ N, m + 1 = N := ⟨_, rfl⟩
  have hcm := hm
  unfold maxLen at hm
  have hy0 := hr0.last
  rw [hmm] at hc hy0
  rw [hmm, hN]
  obtain ⟨c0, c1, c2, c3⟩ := hy0
  have hN0 : ((N : Int) == 0) = false := by simp; omega
  have hNw : IntKind.i64.wrap ((N : Int) - 1) = (m : Int) := by rw [IntWalk.i64_in _ (by omega)]; omega
  have hm0 : (0 : Int) ≤ (m : Int) := by omega
  have hmN : (m : Int) < (N : Int) := by omega
  have hmN2 : (m : Int) ≤ (N : Int) := by omega
  have hmc : (m : Int) ≤ (cap : Int) := by omega
  have hdi : decide ((i : Int) < (k : Int)) = false := by simp; omega
  have hw1 : IntKind.i64.wrap ((n : Int) - (k : Int)) = ((n - k : Nat) : Int) := by rw [IntWalk.i64_in _ (by omega)]; omega
  have hw2 : IntKind.i64.wrap ((i : Int) - (k : Int)) = ((i - k : Nat) : Int) := by rw [IntWalk.i64_in _ (by omega)]; omega
  obtain ⟨l0, l1, l2, l3⟩ := Arr.c4 hL
  have HN := Lib.hid hN
  have HM := Lib.hid hmm
  clear hN hmm
  go_enter Tryd.func61, Tryd.ntmps61
  simp only [D4.val]
  go_wp2_with fail
  clear hw0
  have hX : Arr .u32 24 (w.heap.size + 1 + 1) y.toL (w0.alloc (.cells #[.int .u32 y.d0, .int .u32 y.d1, .int .u32 y.d2, .int .u32 y.d3] 24)) := by rw [← hsz]; exact heap_alloc_new w0 _
  have hL1 := hL.al (.cells #[.int .u32 y.d0, .int .u32 y.d1, .int .u32 y.d2, .int .u32 y.d3] 24)
  have hR1 := hR.al (.cells #[.int .u32 y.d0, .int .u32 y.d1, .int .u32 y.d2, .int .u32 y.d3] 24)
  have hB1 := hB.alloc hB.size (.cells #[.int .u32 y.d0, .int .u32 y.d1, .int .u32 y.d2, .int .u32 y.d3] 24)
  generalize w0.alloc (.cells #[.int .u32 y.d0, .int .u32 y.d1, .int .u32 y.d2, .int .u32 y.d3] 24) = w1 at *
  clear l0 l1 l2 l3 c0 c1 c2 c3 hL hR hB hr0 hsz
  have hr1 := (hr.on hB1).init
  clear hr
  obtain ⟨l0, l1, l2, l3⟩ := Arr.c4 hL1
  refine (half_val n k w1 hle HK.out).mono ?_
  rintro e w1' ⟨rfl, rfl⟩
  go_wp2_with fail
  refine (up_val r H z bl (n - k) (i - k) x b o m cap _ _ w1 rfl rfl (by omega) (by omega) (by omega) hx hr1 HM.out.symm (by rw [HM.out]; omega) hcm HZ.out).mono ?_
  rintro e w2 ⟨rfl, hA2⟩
  have hX2 := hX.on hA2
  have hR2 := hR1.on hA2
  have hB2 := hB1.trans (hA2.mono hB1.size)
  clear l0 l1 l2 l3 hX hL1 hR1 hB1 hA2 hr1
  obtain ⟨t0, t1, t2, t3⟩ := Arr.c4 hX2
  have hXlt := hX2.lt
  go_wp2_with fail
  have hR3 := hR2.al (.cells #[.int .u32 z.d0, .int .u32 z.d1, .int .u32 z.d2, .int .u32 z.d3] 24)
  have hB3 := hB2.alloc hB2.size (.cells #[.int .u32 z.d0, .int .u32 z.d1, .int .u32 z.d2, .int .u32 z.d3] 24)
  generalize w2.alloc (.cells #[.int .u32 z.d0, .int .u32 z.d1, .int .u32 z.d2, .int .u32 z.d3] 24) = w3 at *
  refine (rpair_val y z g w3 hyo hzo HG.out).mono ?_
  rintro e w4 ⟨rfl, hA4⟩
  have hR4 := hR3.on hA4
  have hB4 := hB3.trans (hA4.mono hB3.size)
  clear t0 t1 t2 t3 hX2 hR2 hB2 hR3 hB3 hA4
  obtain ⟨k0, k1, k2, k3⟩ := Arr.c4 (d := zeroD) hR4
  obtain ⟨f0, f1, f2, f3⟩ := hR4.f4
  have hRf := put4 (d := g) hR4 rfl
  have hBf := below_put4 hB4 (Nat.le_succ _) g
  go_wp2_with fail
  generalize (((w4.setCell ⟨w.heap.size + 1, 0, none⟩ (.int .u32 g.d0)).setCell ⟨w.heap.size + 1, 1, none⟩ (.int .u32 g.d1)).setCell ⟨w.heap.size + 1, 2, none⟩ (.int .u32 g.d2)).setCell ⟨w.heap.size + 1, 3, none⟩ (.int .u32 g.d3) = wf at *
  obtain ⟨r0, r1, r2, r3⟩ := hRf.c4
  refine bodyPost_ret (v := .tuple #[g.val, .bool bl]) (by simp [results, Tryd.results61, go_sem, D4.val, r0, r1, r2, r3]) rfl ⟨by rw [HE.out]; rfl, hBf⟩
theorem upR_ok : ∀ (p : List D4) (n i : Nat) (x : D4), x.ok → allD4 p → (upR pairS n i x p).1.ok
  | [], _, _, _, hx, _ => hx
  | y :: r, n, i, x, hx, hp => by
    have hr : allD4 r := fun d hd => hp d (by simp [hd])
    have hy : y.ok := hp y (by simp)
    unfold upR
    split
    · exact hx
    · split
      · exact pairS_ok (upR_ok r _ _ x hx hr) hy
      · exact pairS_ok hy (upR_ok r _ _ x hx hr)
theorem upD_ok (n i : Nat) (x : D4) (p : List D4) (hx : x.ok) (hp : allD4 p) : (upD n i x p).1.ok := upR_ok p.reverse n i x hx fun d hd => hp d (by simpa using hd)
theorem up_all : ∀ (j : Nat) (p : List D4), p.length = j → allD4 p → UpC p := by
  intro j
  induction j with
  | zero =>
    intro p hj _ n i x a cap w h1 hle hi hx _ _ _
    have : p = [] := List.length_eq_zero_iff.mp hj
    subst this
    by_cases q : n = 1
    · subst q; exact up_cOne [] i x a cap w
    · exact up_cNone n i x a cap w (by omega) hle
  | succ j ih =>
    intro p hj hp n i x a cap w h1 hle hi hx hr hc hm
    by_cases q : n = 1
    · subst q; exact up_cOne p i x a cap w
    · have hne : p ≠ [] := by intro e; subst e; simp at hj
      obtain ⟨r, y, rfl⟩ : ∃ r y, p = r ++ [y] := ⟨p.dropLast, p.getLast hne, (List.dropLast_concat_getLast hne).symm⟩
      obtain ⟨b, o, rfl, hrl⟩ := hr hne
      have hl : r.length = j := by simpa using hj
      have hlen : (r ++ [y]).length = r.length + 1 := by simp
      rw [hlen] at hc ⊢
      have hk1 := half_lt (show 2 ≤ n by omega)
      by_cases k : i < half n
      · exact up_cL r y n i x b o cap w (by omega) hle hi k hx hp.lastOk (upD_ok _ _ _ _ hx hp.left) hrl hc hm (ih r hl hp.left)
      · exact up_cR r y n i x b o cap w (by omega) hle hi k hx hp.lastOk (upD_ok _ _ _ _ hx hp.left) hrl hc hm (ih r hl hp.left)
theorem up_any (p : List D4) (hp : allD4 p) : UpC p := up_all p.length p rfl hp
end

section
/-! The document's Check. -/
open Go.RowKit

/-- Two boxes ahead. -/
theorem boxes2 (a b : D4) (w w0 : World) (h : (w.alloc (.cells #[.int .u32 a.d0, .int .u32 a.d1, .int .u32 a.d2, .int .u32 a.d3] 24)).alloc (.cells #[.int .u32 b.d0, .int .u32 b.d1, .int .u32 b.d2, .int .u32 b.d3] 24) = w0) :
    Arr .u32 24 w.heap.size a.toL w0 ∧ Arr .u32 24 (w.heap.size + 1) b.toL w0 ∧ Below w.heap.size w w0 := by
  subst h
  obtain ⟨w1, h1⟩ : ∃ w1, w.alloc (.cells #[.int .u32 a.d0, .int .u32 a.d1, .int .u32 a.d2, .int .u32 a.d3] 24) = w1 := ⟨_, rfl⟩
  have hA1 : Arr .u32 24 w.heap.size a.toL w1 := by rw [← h1]; exact heap_alloc_new w _
  have a1 : w1.heap.size = w.heap.size + 1 := by rw [← h1]; simp
  have B1 : Below w.heap.size w w1 := by rw [← h1]; exact (Below.refl _ _).alloc (Nat.le_refl _) _
  rw [h1]
  refine ⟨hA1.al _, ?_, B1.alloc (by omega) _⟩
  rw [← a1]
  exact heap_alloc_new w1 _
theorem RdS.on {w w' : World} {p : Option Addr} {l : List D4} (h : RdS w p l) (hB : Below w.heap.size w w') : RdS w' p l := fun hne => by
  obtain ⟨b, o, e, hr⟩ := h hne
  exact ⟨b, o, e, hr.on hB⟩
/-- Does a proof show it? -/
def checkD (root : D4) (n i : Int) (leaf : D4) (p : List D4) : Bool :=
  if 1000 < n ∨ i < 0 ∨ n ≤ i ∨ 20 < p.length then false else (upD n.toNat i.toNat leaf p).2 && sameD (upD n.toNat i.toNat leaf p).1 root
theorem up_gen (p : List D4) (hp : allD4 p) (z : D4) (bl : Bool) (n i : Nat) (x : D4) (a : Option Addr) (L cap : Nat) (u v : Int) (w : World) (hu : (n : Int) = u) (hv : (i : Int) = v) (h1 : 1 ≤ n) (hle : n ≤ 1000000) (hi : i ≤ 1000000) (hx : x.ok) (hr : RdS w a p) (hL : L = p.length) (hc : p.length ≤ cap) (hm : cap ≤ maxLen) (hz : upD n i x p = (z, bl)) :
    Calls Tryd.prog 61 #[.int .i64 u, .int .i64 v, .agg #[.int .u32 x.d0, .int .u32 x.d1, .int .u32 x.d2, .int .u32 x.d3], .slice a L cap] w fun e w' => e = .returned (.tuple #[.agg #[.int .u32 z.d0, .int .u32 z.d1, .int .u32 z.d2, .int .u32 z.d3], .bool bl]) ∧ Below w.heap.size w w' := by
  subst hL; subst hu; subst hv
  have := up_any p hp n i x a cap w h1 hle hi hx hr hc hm
  rw [hz] at this
  exact this
set_option maxHeartbeats 2000000 in
set_option maxRecDepth 100000 in
theorem rcheck_no (root leaf : D4) (n i : Int) (a : Option Addr) (L cap : Nat) (w : World) (h : 1000 < n ∨ i < 0 ∨ n ≤ i ∨ 20 < L) :
    Calls Tryd.prog 38 #[root.val, .int .i64 n, .int .i64 i, leaf.val, .slice a L cap] w fun e w' => e = .returned (.bool false) ∧ Below w.heap.size w w' := by
  obtain ⟨w0, hw0⟩ : ∃ w0, (w.alloc (.cells #[.int .u32 root.d0, .int .u32 root.d1, .int .u32 root.d2, .int .u32 root.d3] 24)).alloc (.cells #[.int .u32 leaf.d0, .int .u32 leaf.d1, .int .u32 leaf.d2, .int .u32 leaf.d3] 24) = w0 := ⟨_, rfl⟩
  obtain ⟨_, _, hB⟩ := boxes2 root leaf w w0 hw0
  obtain ⟨g1, hg1⟩ : ∃ g, decide (1000 < n) = g := ⟨_, rfl⟩
  obtain ⟨g2, hg2⟩ : ∃ g, decide (i < 0) = g := ⟨_, rfl⟩
  obtain ⟨g3, hg3⟩ : ∃ g, decide (n ≤ i) = g := ⟨_, rfl⟩
  obtain ⟨g4, hg4⟩ : ∃ g, decide (20 < (L : Int)) = g := ⟨_, rfl⟩
  have hall : g1 = true ∨ g2 = true ∨ g3 = true ∨ g4 = true := by
    subst hg1; subst hg2; subst hg3; subst hg4
    simp
    omega
  clear h
  go_enter Tryd.func38, Tryd.ntmps38
  simp only [D4.val]
  cases g1 <;> cases g2 <;> cases g3 <;> cases g4 <;> simp at hall <;> (go_wp2_with fail; go_ret; exact ⟨rfl, hB⟩)
set_option maxHeartbeats 2000000 in
set_option maxRecDepth 100000 in
theorem rcheck_yes (root leaf : D4) (n i : Int) (p : List D4) (a : Option Addr) (cap : Nat) (w : World) (h1 : n ≤ 1000) (h2 : 0 ≤ i) (h3 : i < n) (h4 : p.length ≤ 20) (hlo : leaf.ok) (hp : allD4 p) (hr : RdS w a p) (hc : p.length ≤ cap) (hm : cap ≤ maxLen) :
    Calls Tryd.prog 38 #[root.val, .int .i64 n, .int .i64 i, leaf.val, .slice a p.length cap] w fun e w' => e = .returned (.bool ((upD n.toNat i.toNat leaf p).2 && sameD (upD n.toNat i.toNat leaf p).1 root)) ∧ Below w.heap.size w w' := by
  obtain ⟨⟨z, bl⟩, hz⟩ : ∃ z, upD n.toNat i.toNat leaf p = z := ⟨_, rfl⟩
  rw [hz]
  have HZ := Lib.hid hz
  clear hz
  obtain ⟨w0, hw0⟩ : ∃ w0, (w.alloc (.cells #[.int .u32 root.d0, .int .u32 root.d1, .int .u32 root.d2, .int .u32 root.d3] 24)).alloc (.cells #[.int .u32 leaf.d0, .int .u32 leaf.d1, .int .u32 leaf.d2, .int .u32 leaf.d3] 24) = w0 := ⟨_, rfl⟩
  obtain ⟨hA, hL, hB⟩ := boxes2 root leaf w w0 hw0
  obtain ⟨l0, l1, l2, l3⟩ := Arr.c4 hL
  have hr0 := hr.on hB
  clear hr hL
  have hg1 : decide (1000 < n) = false := by simp; omega
  have hg2 : decide (i < 0) = false := by simp; omega
  have hg3 : decide (n ≤ i) = false := by simp; omega
  have hg4 : decide (20 < (p.length : Int)) = false := by simp; omega
  have hu : (n.toNat : Int) = n := by omega
  have hv : (i.toNat : Int) = i := by omega
  obtain ⟨N, hN⟩ : ∃ N, n.toNat = N := ⟨_, rfl⟩
  obtain ⟨I, hI⟩ : ∃ I, i.toNat = I := ⟨_, rfl⟩
  rw [hN] at HZ hu
  rw [hI] at HZ hv
  obtain ⟨L, hL⟩ : ∃ L, p.length = L := ⟨_, rfl⟩
  rw [hL] at hg4 ⊢
  have HL := Lib.hid hL
  have HU := Lib.hid hu
  have HV := Lib.hid hv
  have hN1 : 1 ≤ N := by omega
  have hN2 : N ≤ 1000000 := by omega
  have hI2 : I ≤ 1000000 := by omega
  clear hL hu hv hN hI h1 h2 h3 h4
  go_enter Tryd.func38, Tryd.ntmps38
  simp only [D4.val]
  go_wp2_with fail
  clear hw0
  refine (up_gen p hp z bl N I leaf a L cap n i w0 HU.out HV.out hN1 hN2 hI2 hlo hr0 HL.out.symm hc hm HZ.out).mono ?_
  rintro e w1 ⟨rfl, hB1⟩
  have hA1 := hA.on hB1
  have hB2 := hB.trans (hB1.mono hB.size)
  have hAlt := hA1.lt
  obtain ⟨a0, a1, a2, a3⟩ := Arr.c4 hA1
  have hE := eqD_run z root
  clear hA hB hB1 hr0 l0 l1 l2 l3
  cases bl
  · go_wp2_with fail
    go_ret
    exact ⟨rfl, hB2.alloc hB2.size _⟩
  · go_wp2_with fail
    go_ret
    exact ⟨rfl, hB2.alloc hB2.size _⟩
theorem rcheck_any (root leaf : D4) (n i : Int) (p : List D4) (a : Option Addr) (cap : Nat) (w : World) (hlo : leaf.ok) (hp : allD4 p) (hr : RdS w a p) (hc : p.length ≤ cap) (hm : cap ≤ maxLen) :
    Calls Tryd.prog 38 #[root.val, .int .i64 n, .int .i64 i, leaf.val, .slice a p.length cap] w fun e w' => e = .returned (.bool (checkD root n i leaf p)) ∧ Below w.heap.size w w' := by
  unfold checkD
  split
  · rename_i h
    exact rcheck_no root leaf n i a p.length cap w h
  · rename_i h
    exact rcheck_yes root leaf n i p a cap w (by omega) (by omega) (by omega) (by omega) hlo hp hr hc hm
end

end Go.Proofs.YtdphhpmkcalahaaDoor
