/-
  Plain mathematics of a proof that is used up from its end: what is taken, what the roots are that come of it, and that it tells what the document's way of reading tells. No program is named here.
-/
import Derived.Test.YtnimbclnhgbdcaaDoorMkP
namespace Go.Proofs.YtnimbclnhgbdcaaDoor

section
variable {α : Type} (P : α → α → α) (z : α)
/-- The last one that is left (the list stands from its end); true: more was taken than there was. -/
def takeR (p : List α) (s : Bool) : α × List α × Bool :=
  match p with
  | [] => (z, [], true)
  | a :: r => (a, r, s)
def rootR (n i : Nat) (leaf : α) (p : List α) (s : Bool) : α × List α × Bool :=
  if h : n ≤ 1 then (leaf, p, s)
  else
    have : half n < n := half_lt (by omega)
    have := half_pos n
    if i < half n then
      (P (rootR (half n) i leaf (takeR z p s).2.1 (takeR z p s).2.2).1 (takeR z p s).1, (rootR (half n) i leaf (takeR z p s).2.1 (takeR z p s).2.2).2)
    else
      (P (takeR z p s).1 (rootR (n - half n) (i - half n) leaf (takeR z p s).2.1 (takeR z p s).2.2).1, (rootR (n - half n) (i - half n) leaf (takeR z p s).2.1 (takeR z p s).2.2).2)
termination_by n
decreasing_by
  all_goals omega
theorem rootR_one {n : Nat} (h : n ≤ 1) (i : Nat) (leaf : α) (p : List α) (s : Bool) : rootR P z n i leaf p s = (leaf, p, s) := by rw [rootR, dif_pos h]
theorem rootR_left {n i : Nat} (h : ¬ n ≤ 1) (hi : i < half n) (leaf : α) (p : List α) (s : Bool) : rootR P z n i leaf p s = (P (rootR P z (half n) i leaf (takeR z p s).2.1 (takeR z p s).2.2).1 (takeR z p s).1, (rootR P z (half n) i leaf (takeR z p s).2.1 (takeR z p s).2.2).2) := by
  rw [rootR, dif_neg h]; exact if_pos hi
theorem rootR_right {n i : Nat} (h : ¬ n ≤ 1) (hi : ¬ i < half n) (leaf : α) (p : List α) (s : Bool) : rootR P z n i leaf p s = (P (takeR z p s).1 (rootR P z (n - half n) (i - half n) leaf (takeR z p s).2.1 (takeR z p s).2.2).1, (rootR P z (n - half n) (i - half n) leaf (takeR z p s).2.1 (takeR z p s).2.2).2) := by
  rw [rootR, dif_neg h]; exact if_neg hi
theorem takeR_short (p : List α) : (takeR z p true).2.2 = true := by cases p <;> rfl
theorem rootR_short : ∀ (n : Nat) (i : Nat) (leaf : α) (p : List α), (rootR P z n i leaf p true).2.2 = true := by
  intro n
  induction n using Nat.strongRecOn with
  | _ n ih =>
    intro i leaf p
    by_cases h : n ≤ 1
    · rw [rootR_one P z h]
    · have h1 := half_lt (show 2 ≤ n by omega)
      have h2 := half_pos n
      by_cases k : i < half n
      · rw [rootR_left P z h k, takeR_short]; exact ih _ h1 _ _ _
      · rw [rootR_right P z h k, takeR_short]; exact ih _ (by omega) _ _ _
/-- What is used up tells what the document's way of reading tells. -/
theorem rootR_up : ∀ (n : Nat) (i : Nat) (leaf : α) (p : List α) (s : Bool), ((upR P n i leaf p).2 = true → rootR P z n i leaf p s = ((upR P n i leaf p).1, [], s)) ∧ ((upR P n i leaf p).2 = false → (rootR P z n i leaf p s).2.1 ≠ [] ∨ (rootR P z n i leaf p s).2.2 = true) := by
  intro n
  induction n using Nat.strongRecOn with
  | _ n ih =>
    intro i leaf p s
    by_cases h : n ≤ 1
    · rw [rootR_one P z h]
      cases p with
      | nil => simp [upR, h]
      | cons a r => simp [upR, h]
    · have h1 := half_lt (show 2 ≤ n by omega)
      have h2 := half_pos n
      cases p with
      | nil =>
        refine ⟨fun q => by simp [upR, h] at q, fun _ => Or.inr ?_⟩
        by_cases k : i < half n
        · rw [rootR_left P z h k]; exact rootR_short P z _ _ _ _
        · rw [rootR_right P z h k]; exact rootR_short P z _ _ _ _
      | cons a r =>
        by_cases k : i < half n
        · rw [rootR_left P z h k]
          have e : upR P n i leaf (a :: r) = (P (upR P (half n) i leaf r).1 a, (upR P (half n) i leaf r).2) := by rw [upR, if_neg h, if_pos k]
          rw [e]
          obtain ⟨g1, g2⟩ := ih (half n) h1 i leaf r s
          exact ⟨fun q => by show (P (rootR P z (half n) i leaf r s).1 a, (rootR P z (half n) i leaf r s).2) = _; rw [g1 q], g2⟩
        · rw [rootR_right P z h k]
          have e : upR P n i leaf (a :: r) = (P a (upR P (n - half n) (i - half n) leaf r).1, (upR P (n - half n) (i - half n) leaf r).2) := by rw [upR, if_neg h, if_neg k]
          rw [e]
          obtain ⟨g1, g2⟩ := ih (n - half n) (by omega) (i - half n) leaf r s
          exact ⟨fun q => by show (P a (rootR P z (n - half n) (i - half n) leaf r s).1, (rootR P z (n - half n) (i - half n) leaf r s).2) = _; rw [g1 q], g2⟩
/-- Both roots, of a proof that is used up from its end. -/
def rootsR (old : α) (m n : Nat) (whole : Bool) (p : List α) (s : Bool) : α × α × List α × Bool :=
  if h : m = n ∨ n ≤ 1 then (if whole then (old, old, p, s) else ((takeR z p s).1, (takeR z p s).1, (takeR z p s).2))
  else
    have : half n < n := half_lt (by omega)
    have := half_pos n
    if m ≤ half n then
      ((rootsR old m (half n) whole (takeR z p s).2.1 (takeR z p s).2.2).1, P (rootsR old m (half n) whole (takeR z p s).2.1 (takeR z p s).2.2).2.1 (takeR z p s).1, (rootsR old m (half n) whole (takeR z p s).2.1 (takeR z p s).2.2).2.2)
    else
      (P (takeR z p s).1 (rootsR old (m - half n) (n - half n) false (takeR z p s).2.1 (takeR z p s).2.2).1, P (takeR z p s).1 (rootsR old (m - half n) (n - half n) false (takeR z p s).2.1 (takeR z p s).2.2).2.1, (rootsR old (m - half n) (n - half n) false (takeR z p s).2.1 (takeR z p s).2.2).2.2)
termination_by n
decreasing_by
  all_goals omega
theorem rootsR_whole (old : α) (n : Nat) (p : List α) (s : Bool) : rootsR P z old n n true p s = (old, old, p, s) := by rw [rootsR, dif_pos (Or.inl rfl)]; rfl
theorem rootsR_cut (old : α) (n : Nat) (p : List α) (s : Bool) : rootsR P z old n n false p s = ((takeR z p s).1, (takeR z p s).1, (takeR z p s).2) := by rw [rootsR, dif_pos (Or.inl rfl)]; rfl
theorem rootsR_left {m n : Nat} (h : ¬ (m = n ∨ n ≤ 1)) (hm : m ≤ half n) (old : α) (whole : Bool) (p : List α) (s : Bool) : rootsR P z old m n whole p s =
      ((rootsR P z old m (half n) whole (takeR z p s).2.1 (takeR z p s).2.2).1, P (rootsR P z old m (half n) whole (takeR z p s).2.1 (takeR z p s).2.2).2.1 (takeR z p s).1, (rootsR P z old m (half n) whole (takeR z p s).2.1 (takeR z p s).2.2).2.2) := by
  rw [rootsR, dif_neg h]; exact if_pos hm
theorem rootsR_right {m n : Nat} (h : ¬ (m = n ∨ n ≤ 1)) (hm : ¬ m ≤ half n) (old : α) (whole : Bool) (p : List α) (s : Bool) : rootsR P z old m n whole p s =
      (P (takeR z p s).1 (rootsR P z old (m - half n) (n - half n) false (takeR z p s).2.1 (takeR z p s).2.2).1, P (takeR z p s).1 (rootsR P z old (m - half n) (n - half n) false (takeR z p s).2.1 (takeR z p s).2.2).2.1, (rootsR P z old (m - half n) (n - half n) false (takeR z p s).2.1 (takeR z p s).2.2).2.2) := by
  rw [rootsR, dif_neg h]; exact if_neg hm
theorem rootsR_short : ∀ (n : Nat) (m : Nat) (old : α) (whole : Bool) (p : List α), (rootsR P z old m n whole p true).2.2.2 = true := by
  intro n
  induction n using Nat.strongRecOn with
  | _ n ih =>
    intro m old whole p
    by_cases h : m = n ∨ n ≤ 1
    · rw [rootsR, dif_pos h]
      cases whole
      · exact takeR_short z p
      · rfl
    · have h1 := half_lt (show 2 ≤ n by omega)
      have h2 := half_pos n
      by_cases k : m ≤ half n
      · rw [rootsR_left P z h k, takeR_short]; exact ih _ h1 _ _ _ _
      · rw [rootsR_right P z h k, takeR_short]; exact ih _ (by omega) _ _ _ _
theorem rootsR_on : ∀ (n : Nat) (m : Nat) (old : α) (whole : Bool) (p : List α) (s : Bool), 1 ≤ m → m ≤ n → ((onR P old m n whole p).2.2 = true → rootsR P z old m n whole p s = ((onR P old m n whole p).1, (onR P old m n whole p).2.1, [], s)) ∧ ((onR P old m n whole p).2.2 = false → (rootsR P z old m n whole p s).2.2.1 ≠ [] ∨ (rootsR P z old m n whole p s).2.2.2 = true) := by
  intro n
  induction n using Nat.strongRecOn with
  | _ n ih =>
    intro m old whole p s hm1 hmn
    by_cases h : m = n
    · subst h
      cases whole with
      | true =>
        rw [rootsR_whole]
        cases p with
        | nil => simp [onR]
        | cons a r => simp [onR]
      | false =>
        rw [rootsR_cut]
        cases p with
        | nil => simp [onR, takeR]
        | cons a r =>
          cases r with
          | nil => simp [onR, takeR]
          | cons b t => simp [onR, takeR]
    · have h' : ¬ (m = n ∨ n ≤ 1) := by omega
      have h1 := half_lt (show 2 ≤ n by omega)
      have h2 := half_pos n
      cases p with
      | nil =>
        refine ⟨fun q => by simp [onR, h] at q, fun _ => Or.inr ?_⟩
        by_cases k : m ≤ half n
        · rw [rootsR_left P z h' k]; exact rootsR_short P z _ _ _ _ _
        · rw [rootsR_right P z h' k]; exact rootsR_short P z _ _ _ _ _
      | cons a r =>
        by_cases k : m ≤ half n
        · rw [rootsR_left P z h' k]
          have e : onR P old m n whole (a :: r) = ((onR P old m (half n) whole r).1, P (onR P old m (half n) whole r).2.1 a, (onR P old m (half n) whole r).2.2) := by rw [onR, if_neg h, if_pos k]
          rw [e]
          obtain ⟨g1, g2⟩ := ih (half n) h1 m old whole r s hm1 k
          exact ⟨fun q => by show ((rootsR P z old m (half n) whole r s).1, P (rootsR P z old m (half n) whole r s).2.1 a, (rootsR P z old m (half n) whole r s).2.2) = _; rw [g1 q], g2⟩
        · rw [rootsR_right P z h' k]
          have e : onR P old m n whole (a :: r) = (P a (onR P old (m - half n) (n - half n) false r).1, P a (onR P old (m - half n) (n - half n) false r).2.1, (onR P old (m - half n) (n - half n) false r).2.2) := by rw [onR, if_neg h, if_neg k]
          rw [e]
          obtain ⟨g1, g2⟩ := ih (n - half n) (by omega) (m - half n) old false r s (by omega) (by omega)
          exact ⟨fun q => by show (P a (rootsR P z old (m - half n) (n - half n) false r s).1, P a (rootsR P z old (m - half n) (n - half n) false r s).2.1, (rootsR P z old (m - half n) (n - half n) false r s).2.2) = _; rw [g1 q], g2⟩
end
end Go.Proofs.YtnimbclnhgbdcaaDoor
