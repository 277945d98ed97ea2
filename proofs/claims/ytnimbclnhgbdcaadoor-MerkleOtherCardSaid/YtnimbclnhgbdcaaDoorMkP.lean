/-
  Plain mathematics of trees over a list, whatever the pairing: the half, the root, the proof of a place, what a proof tells. No program is named here.
-/
import Derived.Lib.Strings
namespace Go.Proofs.YtnimbclnhgbdcaaDoor

/-- The greatest power of two below n. -/
def half (n : Nat) : Nat := 2 ^ (n - 1).log2
theorem half_pos (n : Nat) : 0 < half n := Nat.two_pow_pos _
theorem half_lt {n : Nat} (h : 2 ≤ n) : half n < n := by
  have := Nat.log2_self_le (n := n - 1) (by omega)
  unfold half; omega
theorem half_ge {n : Nat} (h : 2 ≤ n) : n ≤ 2 * half n := by
  have := Nat.lt_log2_self (n := n - 1)
  unfold half
  rw [Nat.pow_succ] at this
  omega
theorem half_of {n a : Nat} (h1 : 2 ^ a < n) (h2 : n ≤ 2 ^ (a + 1)) : half n = 2 ^ a := by
  have e : (n - 1).log2 = a := by
    have hn : n - 1 ≠ 0 := by have := Nat.two_pow_pos a; omega
    have k1 : a ≤ (n - 1).log2 := (Nat.le_log2 hn).mpr (by omega)
    have k2 : (n - 1).log2 < a + 1 := (Nat.log2_lt hn).mpr (by omega)
    omega
  rw [half, e]
/-- What is left behind the half is at most as much. -/
theorem half_bound {n a : Nat} (h : 2 ≤ n) (hn : n ≤ 2 ^ (a + 1)) : half n ≤ 2 ^ a ∧ n - half n ≤ 2 ^ a := by
  have h1 := half_lt h
  have h2 := half_ge h
  have h3 : half n ≤ 2 ^ a := by
    rcases Nat.lt_or_ge (2 ^ a) (half n) with q | q
    · exfalso
      have k : 2 ^ (a + 1) ≤ half n := by
        unfold half at q ⊢
        have := (Nat.pow_lt_pow_iff_right (a := 2) (by decide)).mp q
        exact Nat.pow_le_pow_right (by decide) this
      omega
    · exact q
  exact ⟨h3, by omega⟩

section
variable {α : Type} (P : α → α → α) (z : α)
/-- The root of a list. -/
def root : List α → α
  | [] => z
  | [a] => a
  | a :: b :: r =>
    have : half (r.length + 2) < r.length + 2 := half_lt (by omega)
    have := half_pos (r.length + 2)
    P (root ((a :: b :: r).take (half (r.length + 2)))) (root ((a :: b :: r).drop (half (r.length + 2))))
termination_by l => l.length
decreasing_by
  · simp [List.length_take]; omega
  · simp [List.length_drop]; omega
theorem root_nil : root P z [] = z := by rw [root]
theorem root_one (a : α) : root P z [a] = a := by rw [root]
theorem root_more (l : List α) (h : 2 ≤ l.length) : root P z l = P (root P z (l.take (half l.length))) (root P z (l.drop (half l.length))) := by
  match l, h with
  | a :: b :: r, _ => rw [root]; rfl
/-- The proof of a place. -/
def way : List α → Nat → List α
  | [], _ => []
  | [_], _ => []
  | a :: b :: r, i =>
    have : half (r.length + 2) < r.length + 2 := half_lt (by omega)
    have := half_pos (r.length + 2)
    if i < half (r.length + 2) then way ((a :: b :: r).take (half (r.length + 2))) i ++ [root P z ((a :: b :: r).drop (half (r.length + 2)))]
    else way ((a :: b :: r).drop (half (r.length + 2))) (i - half (r.length + 2)) ++ [root P z ((a :: b :: r).take (half (r.length + 2)))]
termination_by l => l.length
decreasing_by
  · simp [List.length_take]; omega
  · simp [List.length_drop]; omega
theorem way_few (l : List α) (i : Nat) (h : l.length < 2) : way P z l i = [] := by
  match l, h with
  | [], _ => rw [way]
  | [_], _ => rw [way]
theorem way_left (l : List α) (i : Nat) (h : 2 ≤ l.length) (hi : i < half l.length) : way P z l i = way P z (l.take (half l.length)) i ++ [root P z (l.drop (half l.length))] := by
  match l, h with
  | a :: b :: r, _ => rw [way]; exact if_pos hi
theorem way_right (l : List α) (i : Nat) (h : 2 ≤ l.length) (hi : ¬ i < half l.length) : way P z l i = way P z (l.drop (half l.length)) (i - half l.length) ++ [root P z (l.take (half l.length))] := by
  match l, h with
  | a :: b :: r, _ => rw [way]; exact if_neg hi
/-- A proof is short. -/
theorem way_len : ∀ (a : Nat) (l : List α) (i : Nat), l.length ≤ 2 ^ a → (way P z l i).length ≤ a
  | 0, l, i, h => by rw [way_few P z l i (by simp at h; omega)]; exact Nat.le_refl _
  | a + 1, l, i, h => by
    by_cases q : l.length < 2
    · rw [way_few P z l i q]; exact Nat.zero_le _
    · obtain ⟨h1, h2⟩ := half_bound (by omega) h
      have hl := half_lt (show 2 ≤ l.length by omega)
      by_cases k : i < half l.length
      · rw [way_left P z l i (by omega) k, List.length_append]
        have := way_len a (l.take (half l.length)) i (by rw [List.length_take]; omega)
        show _ + 1 ≤ a + 1; omega
      · rw [way_right P z l i (by omega) k, List.length_append]
        have := way_len a (l.drop (half l.length)) (i - half l.length) (by rw [List.length_drop]; exact h2)
        show _ + 1 ≤ a + 1; omega
/-- What a proof tells of a leaf: the root, and whether it has the form; a proof read from its end. -/
def upR (n i : Nat) (leaf : α) : List α → α × Bool
  | [] => (leaf, decide (n ≤ 1))
  | last :: rest =>
    if n ≤ 1 then (leaf, false)
    else if i < half n then
      have r := upR (half n) i leaf rest
      (P r.1 last, r.2)
    else
      have r := upR (n - half n) (i - half n) leaf rest
      (P last r.1, r.2)
def up (n i : Nat) (leaf : α) (p : List α) : α × Bool := upR P n i leaf p.reverse
theorem up_one {n i : Nat} (leaf : α) (p : List α) (h : n ≤ 1) : up P n i leaf p = (leaf, decide (p = [])) := by
  unfold up
  cases hp : p.reverse with
  | nil =>
    have : p = [] := by simpa using hp
    subst this
    simp [upR, h]
  | cons a r =>
    have : p ≠ [] := by intro e; subst e; simp at hp
    simp [upR, h, this]
theorem up_none {n i : Nat} (leaf : α) (h : ¬ n ≤ 1) : up P n i leaf [] = (leaf, false) := by
  simp [up, upR, h]
theorem up_left {n i : Nat} (leaf : α) (p : List α) (a : α) (h : ¬ n ≤ 1) (hi : i < half n) : up P n i leaf (p ++ [a]) = (P (up P (half n) i leaf p).1 a, (up P (half n) i leaf p).2) := by
  simp [up, upR, h, hi]
theorem up_right {n i : Nat} (leaf : α) (p : List α) (a : α) (h : ¬ n ≤ 1) (hi : ¬ i < half n) : up P n i leaf (p ++ [a]) = (P a (up P (n - half n) (i - half n) leaf p).1, (up P (n - half n) (i - half n) leaf p).2) := by
  simp [up, upR, h, hi]
/-- A proof that was made is one. -/
theorem up_way : ∀ (n : Nat) (l : List α) (i : Nat), l.length = n → ∀ x, l[i]? = some x → up P n i x (way P z l i) = (root P z l, true) := by
  intro n
  induction n using Nat.strongRecOn with
  | _ n ih =>
    intro l i hn x hx
    have hi := (List.getElem?_eq_some_iff.mp hx).1
    by_cases q : n < 2
    · have h1 : l.length = 1 := by omega
      match l, h1 with
      | [a], _ =>
        have hi0 : i = 0 := by simp at hi; exact hi
        subst hi0
        simp at hx
        subst hx
        rw [way_few P z [a] 0 (by simp), up_one P a [] (by omega), root_one]; rfl
    · have hl := half_lt (show 2 ≤ n by omega)
      have hp := half_pos n
      by_cases k : i < half n
      · rw [way_left P z l i (by omega) (by rw [hn]; exact k), up_left P x _ _ (by omega) k, hn, ih (half n) hl (l.take (half n)) i (by rw [List.length_take]; omega) x (by rw [List.getElem?_take, if_pos k]; exact hx), root_more P z l (by omega), hn]
      · rw [way_right P z l i (by omega) (by rw [hn]; exact k), up_right P x _ _ (by omega) k, hn, ih (n - half n) (by omega) (l.drop (half n)) (i - half n) (by rw [List.length_drop, hn]) x (by rw [List.getElem?_drop, show half n + (i - half n) = i by omega]; exact hx), root_more P z l (by omega), hn]
/-- A proof has just one length. -/
theorem up_len : ∀ (n i : Nat) (x y : α) (p q : List α), (up P n i x p).2 = true → (up P n i y q).2 = true → p.length = q.length := by
  have go : ∀ (p q : List α) (n i : Nat) (x y : α), (upR P n i x p).2 = true → (upR P n i y q).2 = true → p.length = q.length := by
    intro p
    induction p with
    | nil =>
      intro q n i x y h1 h2
      cases q with
      | nil => rfl
      | cons b s =>
        simp [upR] at h1
        simp [upR, h1] at h2
    | cons a r ih =>
      intro q n i x y h1 h2
      have hn : ¬ n ≤ 1 := by
        intro e
        simp [upR, e] at h1
      cases q with
      | nil =>
        simp [upR] at h2
        exact absurd h2 hn
      | cons b s =>
        by_cases k : i < half n
        · simp [upR, hn, k] at h1 h2
          simp [ih s _ _ _ _ h1 h2]
        · simp [upR, hn, k] at h1 h2
          simp [ih s _ _ _ _ h1 h2]
  intro n i x y p q h1 h2
  have := go p.reverse q.reverse n i x y h1 h2
  simpa using this
/-- The proof that a list goes on its first m: of the whole list, or of a cut one. -/
def goes (l : List α) (m : Nat) (whole : Bool) : List α :=
  if h : m = l.length ∨ l.length < 2 then (if whole then [] else [root P z l])
  else
    have : half l.length < l.length := half_lt (by omega)
    have := half_pos l.length
    if m ≤ half l.length then goes (l.take (half l.length)) m whole ++ [root P z (l.drop (half l.length))]
    else goes (l.drop (half l.length)) (m - half l.length) false ++ [root P z (l.take (half l.length))]
termination_by l.length
decreasing_by
  · simp [List.length_take]; omega
  · simp [List.length_drop]; omega
theorem goes_all (l : List α) (m : Nat) (whole : Bool) (h : m = l.length) : goes P z l m whole = if whole then [] else [root P z l] := by
  rw [goes, dif_pos (Or.inl h)]
theorem goes_left (l : List α) (m : Nat) (whole : Bool) (h : m ≠ l.length) (h2 : 2 ≤ l.length) (hm : m ≤ half l.length) : goes P z l m whole = goes P z (l.take (half l.length)) m whole ++ [root P z (l.drop (half l.length))] := by
  rw [goes, dif_neg (by omega)]
  exact if_pos hm
theorem goes_right (l : List α) (m : Nat) (whole : Bool) (h : m ≠ l.length) (h2 : 2 ≤ l.length) (hm : ¬ m ≤ half l.length) : goes P z l m whole = goes P z (l.drop (half l.length)) (m - half l.length) false ++ [root P z (l.take (half l.length))] := by
  rw [goes, dif_neg (by omega)]
  exact if_neg hm
theorem goes_len : ∀ (a : Nat) (l : List α) (m : Nat) (whole : Bool), l.length ≤ 2 ^ a → 1 ≤ m → m ≤ l.length → (goes P z l m whole).length ≤ a + 1
  | 0, l, m, whole, h, h1, h2 => by
    rw [goes_all P z l m whole (by simp at h; omega)]
    cases whole <;> simp
  | a + 1, l, m, whole, h, h1, h2 => by
    by_cases q : m = l.length
    · rw [goes_all P z l m whole q]
      cases whole <;> simp
    · obtain ⟨k1, k2⟩ := half_bound (show 2 ≤ l.length by omega) h
      have hl := half_lt (show 2 ≤ l.length by omega)
      by_cases k : m ≤ half l.length
      · rw [goes_left P z l m whole q (by omega) k, List.length_append]
        have := goes_len a (l.take (half l.length)) m whole (by rw [List.length_take]; omega) h1 (by rw [List.length_take]; omega)
        show _ + 1 ≤ a + 1 + 1; omega
      · rw [goes_right P z l m whole q (by omega) k, List.length_append]
        have := goes_len a (l.drop (half l.length)) (m - half l.length) false (by rw [List.length_drop]; exact k2) (by omega) (by rw [List.length_drop]; omega)
        show _ + 1 ≤ a + 1 + 1; omega
/-- Both roots that such a proof tells; a proof read from its end. -/
def onR (old : α) (m n : Nat) (whole : Bool) : List α → α × α × Bool
  | [] => (old, old, decide (m = n) && whole)
  | last :: rest =>
    if m = n then (if whole = false ∧ rest = [] then (last, last, true) else (old, old, false))
    else if m ≤ half n then
      have r := onR old m (half n) whole rest
      (r.1, P r.2.1 last, r.2.2)
    else
      have r := onR old (m - half n) (n - half n) false rest
      (P last r.1, P last r.2.1, r.2.2)
def on (old : α) (m n : Nat) (whole : Bool) (p : List α) : α × α × Bool := onR P old m n whole p.reverse
theorem on_left {old : α} {m n : Nat} {whole : Bool} (p : List α) (a : α) (h : m ≠ n) (hm : m ≤ half n) : on P old m n whole (p ++ [a]) = ((on P old m (half n) whole p).1, P (on P old m (half n) whole p).2.1 a, (on P old m (half n) whole p).2.2) := by
  simp [on, onR, h, hm]
theorem on_right {old : α} {m n : Nat} {whole : Bool} (p : List α) (a : α) (h : m ≠ n) (hm : ¬ m ≤ half n) : on P old m n whole (p ++ [a]) = (P a (on P old (m - half n) (n - half n) false p).1, P a (on P old (m - half n) (n - half n) false p).2.1, (on P old (m - half n) (n - half n) false p).2.2) := by
  simp [on, onR, h, hm]
theorem half_same {m n : Nat} (h : 2 ≤ n) (h1 : half n < m) (h2 : m ≤ n) : half m = half n := by
  have := half_ge h
  have e : half n = 2 ^ (n - 1).log2 := rfl
  rw [e]
  exact half_of (by rw [← e]; exact h1) (by rw [Nat.pow_succ, ← e]; omega)
/-- Such a proof that was made is one. -/
theorem on_goes : ∀ (n : Nat) (l : List α) (m : Nat) (whole : Bool) (old : α), l.length = n → 1 ≤ m → m ≤ n → (whole = true → old = root P z (l.take m)) → on P old m n whole (goes P z l m whole) = (root P z (l.take m), root P z l, true) := by
  intro n
  induction n using Nat.strongRecOn with
  | _ n ih =>
    intro l m whole old hn h1 h2 ho
    by_cases q : m = n
    · subst q
      rw [goes_all P z l m whole hn.symm]
      have ht : l.take m = l := List.take_of_length_le (by omega)
      cases whole with
      | true => rw [ht] at ho ⊢; simp [on, onR, ho rfl]
      | false => rw [ht]; simp [on, onR]
    · have h2n : 2 ≤ n := by omega
      have hl := half_lt h2n
      have hp := half_pos n
      by_cases k : m ≤ half n
      · rw [goes_left P z l m whole (by omega) (by omega) (by rw [hn]; exact k), on_left P _ _ q k, hn, ih (half n) hl (l.take (half n)) m whole old (by rw [List.length_take]; omega) h1 k (by
          intro hw
          rw [List.take_take, Nat.min_eq_left k]
          exact ho hw), root_more P z l (by omega), hn, List.take_take, Nat.min_eq_left k]
      · rw [goes_right P z l m whole (by omega) (by omega) (by rw [hn]; exact k), on_right P _ _ q k, hn, ih (n - half n) (by omega) (l.drop (half n)) (m - half n) false old (by rw [List.length_drop, hn]) (by omega) (by omega) (by intro hw; cases hw), root_more P z l (by omega), hn, root_more P z (l.take m) (by rw [List.length_take]; omega), List.length_take, Nat.min_eq_left (by omega), half_same h2n (by omega) h2, List.take_take, Nat.min_eq_left (by omega), List.drop_take]
theorem clash_two {a b : List α} (h1 : a.length = b.length) (h2 : a ≠ b) (h3 : root P z a = root P z b) : 2 ≤ a.length := by
  rcases Nat.lt_or_ge a.length 2 with q | q
  · exfalso
    match a, b, h1, q with
    | [], [], _, _ => exact h2 rfl
    | [x], [y], _, _ =>
      rw [root_one, root_one] at h3
      exact h2 (by rw [h3])
  · exact q
end
section
variable {α : Type} [DecidableEq α] (P : α → α → α) (z : α)
/-- Two unlike pairs with one pair, where two lists have one root. -/
def clash (a b : List α) : Option ((α × α) × (α × α)) :=
  if h : a.length ≠ b.length ∨ a = b ∨ root P z a ≠ root P z b ∨ a.length < 2 then none
  else
    have : half a.length < a.length := half_lt (by omega)
    have := half_pos a.length
    if (root P z (a.take (half a.length)), root P z (a.drop (half a.length))) ≠ (root P z (b.take (half a.length)), root P z (b.drop (half a.length))) then
      some ((root P z (a.take (half a.length)), root P z (a.drop (half a.length))), (root P z (b.take (half a.length)), root P z (b.drop (half a.length))))
    else if a.take (half a.length) ≠ b.take (half a.length) then clash (a.take (half a.length)) (b.take (half a.length))
    else clash (a.drop (half a.length)) (b.drop (half a.length))
termination_by a.length
decreasing_by
  · simp [List.length_take]; omega
  · simp [List.length_drop]; omega
theorem clash_none {a b : List α} (h : a.length ≠ b.length ∨ a = b ∨ root P z a ≠ root P z b) : clash P z a b = none := by
  rw [clash, dif_pos (by rcases h with h | h | h <;> simp [h])]
theorem clash_here {a b : List α} (h1 : a.length = b.length) (h2 : a ≠ b) (h3 : root P z a = root P z b) (h4 : (root P z (a.take (half a.length)), root P z (a.drop (half a.length))) ≠ (root P z (b.take (half a.length)), root P z (b.drop (half a.length)))) :
    clash P z a b = some ((root P z (a.take (half a.length)), root P z (a.drop (half a.length))), (root P z (b.take (half a.length)), root P z (b.drop (half a.length)))) := by
  have := clash_two P z h1 h2 h3
  rw [clash, dif_neg (by simp [h1, h2, h3]; omega)]
  exact if_pos h4
theorem clash_first {a b : List α} (h1 : a.length = b.length) (h2 : a ≠ b) (h3 : root P z a = root P z b) (h4 : ¬ (root P z (a.take (half a.length)), root P z (a.drop (half a.length))) ≠ (root P z (b.take (half a.length)), root P z (b.drop (half a.length)))) (h5 : a.take (half a.length) ≠ b.take (half a.length)) :
    clash P z a b = clash P z (a.take (half a.length)) (b.take (half a.length)) := by
  have := clash_two P z h1 h2 h3
  rw [clash, dif_neg (by simp [h1, h2, h3]; omega)]
  exact (if_neg h4).trans (if_pos h5)
theorem clash_second {a b : List α} (h1 : a.length = b.length) (h2 : a ≠ b) (h3 : root P z a = root P z b) (h4 : ¬ (root P z (a.take (half a.length)), root P z (a.drop (half a.length))) ≠ (root P z (b.take (half a.length)), root P z (b.drop (half a.length)))) (h5 : ¬ a.take (half a.length) ≠ b.take (half a.length)) :
    clash P z a b = clash P z (a.drop (half a.length)) (b.drop (half a.length)) := by
  have := clash_two P z h1 h2 h3
  rw [clash, dif_neg (by simp [h1, h2, h3]; omega)]
  exact (if_neg h4).trans (if_neg h5)
/-- Where two unlike lists, as long, have one root, there are two such pairs. -/
theorem clash_some : ∀ (n : Nat) (a b : List α), a.length = n → a.length = b.length → a ≠ b → root P z a = root P z b → ∃ x y, clash P z a b = some (x, y) ∧ x ≠ y ∧ P x.1 x.2 = P y.1 y.2 := by
  intro n
  induction n using Nat.strongRecOn with
  | _ n ih =>
    intro a b hn h1 h2 h3
    have h2l := clash_two P z h1 h2 h3
    have hl := half_lt h2l
    have hp := half_pos a.length
    by_cases h4 : (root P z (a.take (half a.length)), root P z (a.drop (half a.length))) ≠ (root P z (b.take (half a.length)), root P z (b.drop (half a.length)))
    · refine ⟨_, _, clash_here P z h1 h2 h3 h4, h4, ?_⟩
      have e1 := root_more P z a h2l
      have e2 := root_more P z b (by omega)
      rw [← h1] at e2
      rw [← e1, ← e2]; exact h3
    · have h4' : root P z (a.take (half a.length)) = root P z (b.take (half a.length)) ∧ root P z (a.drop (half a.length)) = root P z (b.drop (half a.length)) := by simpa using h4
      by_cases h5 : a.take (half a.length) ≠ b.take (half a.length)
      · rw [clash_first P z h1 h2 h3 h4 h5]
        exact ih (half a.length) (by omega) _ _ (by rw [List.length_take]; omega) (by rw [List.length_take, List.length_take, h1]) h5 h4'.1
      · rw [clash_second P z h1 h2 h3 h4 h5]
        refine ih (a.length - half a.length) (by omega) _ _ (by rw [List.length_drop]) (by rw [List.length_drop, List.length_drop, h1]) ?_ h4'.2
        intro e
        have e5 : a.take (half a.length) = b.take (half a.length) := by simpa using h5
        apply h2
        rw [← List.take_append_drop (half a.length) a, ← List.take_append_drop (half a.length) b, e5, e]
/-- Do two unlike pairs on the way have one pair? -/
def fooledR (l : List α) (i : Nat) (leaf : α) : List α → Bool
  | [] => false
  | last :: rest =>
    if l.length < 2 then false
    else
      have k := half l.length
      if i < k then
        (decide ((root P z (l.take k), root P z (l.drop k)) ≠ ((upR P k i leaf rest).1, last)) && decide (P (root P z (l.take k)) (root P z (l.drop k)) = P (upR P k i leaf rest).1 last)) || fooledR (l.take k) i leaf rest
      else
        (decide ((root P z (l.take k), root P z (l.drop k)) ≠ (last, (upR P (l.length - k) (i - k) leaf rest).1)) && decide (P (root P z (l.take k)) (root P z (l.drop k)) = P last (upR P (l.length - k) (i - k) leaf rest).1)) || fooledR (l.drop k) (i - k) leaf rest
def fooled (l : List α) (i : Nat) (leaf : α) (p : List α) : Bool := fooledR P z l i leaf p.reverse
/-- Another leaf that is shown fools. -/
theorem fooled_other : ∀ (p : List α) (l : List α) (i : Nat) (leaf x : α), l[i]? = some x → leaf ≠ x → upR P l.length i leaf p = (root P z l, true) → fooledR P z l i leaf p = true := by
  intro p
  induction p with
  | nil =>
    intro l i leaf x hx hne h
    simp [upR] at h
    have hi := (List.getElem?_eq_some_iff.mp hx).1
    have h1 : l.length = 1 := by omega
    match l, h1 with
    | [a], _ =>
      have hi0 : i = 0 := by simp at hi; exact hi
      subst hi0
      simp at hx
      rw [root_one] at h
      exact absurd (h.1.trans hx) hne
  | cons a r ih =>
    intro l i leaf x hx hne h
    have hn : ¬ l.length ≤ 1 := by
      intro e
      simp [upR, e] at h
    have hl := half_lt (show 2 ≤ l.length by omega)
    have hi := (List.getElem?_eq_some_iff.mp hx).1
    have hr := root_more P z l (by omega)
    unfold fooledR
    rw [if_neg (by omega)]
    by_cases k : i < half l.length
    · simp only [if_pos k]
      unfold upR at h
      rw [if_neg hn, if_pos k] at h
      simp only [Prod.mk.injEq] at h
      rw [hr] at h
      by_cases e : (root P z (l.take (half l.length)), root P z (l.drop (half l.length))) = ((upR P (half l.length) i leaf r).1, a)
      · simp only [Prod.mk.injEq] at e
        have := ih (l.take (half l.length)) i leaf x (by rw [List.getElem?_take, if_pos k]; exact hx) hne (by
          rw [List.length_take, Nat.min_eq_left (by omega)]
          exact Prod.ext e.1.symm h.2)
        rw [this, Bool.or_true]
      · have e2 := h.1.symm
        simp only [decide_eq_true (show _ ≠ _ from e), decide_eq_true e2, Bool.and_self, Bool.true_or]
    · simp only [if_neg k]
      unfold upR at h
      rw [if_neg hn, if_neg k] at h
      simp only [Prod.mk.injEq] at h
      rw [hr] at h
      by_cases e : (root P z (l.take (half l.length)), root P z (l.drop (half l.length))) = (a, (upR P (l.length - half l.length) (i - half l.length) leaf r).1)
      · simp only [Prod.mk.injEq] at e
        have := ih (l.drop (half l.length)) (i - half l.length) leaf x (by rw [List.getElem?_drop, show half l.length + (i - half l.length) = i by omega]; exact hx) hne (by
          rw [List.length_drop]
          exact Prod.ext e.2.symm h.2)
        rw [this, Bool.or_true]
      · have e2 := h.1.symm
        simp only [decide_eq_true (show _ ≠ _ from e), decide_eq_true e2, Bool.and_self, Bool.true_or]
end
end Go.Proofs.YtnimbclnhgbdcaaDoor
