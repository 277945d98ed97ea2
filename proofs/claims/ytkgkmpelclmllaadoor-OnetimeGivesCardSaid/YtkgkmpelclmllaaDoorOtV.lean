/-
  Plain mathematics of two signatures of unlike messages by one key: what they give away.
-/
import Derived.Test.YtkgkmpelclmllaaDoorOtU
import Derived.Test.YtkgkmpelclmllaaDoorOtI
namespace Go.Proofs.YtkgkmpelclmllaaDoor
open Go.RowKit

theorem seekP_some (p : Nat → Bool) : ∀ (m k j : Nat), k ≤ j → j < k + m → p j = true → ∃ i, seekP p k m = some i ∧ k ≤ i ∧ i < k + m ∧ p i = true
  | 0, k, j, h1, h2, _ => by omega
  | m + 1, k, j, h1, h2, h3 => by
    by_cases q : p k = true
    · exact ⟨k, seekP_yes p k m q, Nat.le_refl _, by omega, q⟩
    · have q' : p k = false := by simpa using q
      have hne : k ≠ j := fun e => by subst e; exact q h3
      obtain ⟨i, e, a, b, c⟩ := seekP_some p m (k + 1) j (by omega) (by omega) h3
      exact ⟨i, by rw [seekP_no p k m q', e], by omega, by omega, c⟩
theorem sign_at35 (seed msg : D4) (i : Nat) (h : i < 35) : (signL seed msg).getD i zeroD = walkD (beginD seed i) (num msg i) := mapR_at _ 35 i h
theorem shows_sign (seed msg other : D4) (i : Nat) (h : i < 35) (hl : num other i < num msg i) : walkD ((signL seed other).getD i zeroD) (num msg i - num other i) = (signL seed msg).getD i zeroD := by
  rw [sign_at35 _ _ _ h, sign_at35 _ _ _ h, walkD_add, show num other i + (num msg i - num other i) = num msg i by omega]
/-- Two signatures of unlike messages by one key give away a value. -/
theorem gives_some (seed msg other : D4) (hm : msg.ok) (ho : other.ok) (hne : msg ≠ other) :
    ∃ i, aheadO msg other (signL seed msg) (signL seed other) = some i ∧ i < 35 ∧ num other i < num msg i ∧ walkD ((signL seed other).getD i zeroD) (num msg i - num other i) = (signL seed msg).getD i zeroD := by
  obtain ⟨j, hj, hl⟩ := unlike_less ho hm (fun e => hne e.symm)
  have hp : ∀ i, i < 35 → num other i < num msg i → showsB msg other (signL seed msg) (signL seed other) i = true := fun i hi hl => by
    rw [showsB, decide_eq_true hl, shows_sign seed msg other i hi hl, (sameD_iff _ _).mpr rfl]; rfl
  obtain ⟨i, e, _, hi, hq⟩ := seekP_some _ 35 0 j (Nat.zero_le _) (by omega) (hp j hj hl)
  have hi35 : i < 35 := by omega
  have hil : num other i < num msg i := by
    rw [showsB, Bool.and_eq_true] at hq
    exact of_decide_eq_true hq.1
  exact ⟨i, by rw [aheadO, if_pos ⟨signL_len _ _, signL_len _ _⟩, e], hi35, hil, shows_sign seed msg other i hi35 hil⟩
end Go.Proofs.YtkgkmpelclmllaaDoor
