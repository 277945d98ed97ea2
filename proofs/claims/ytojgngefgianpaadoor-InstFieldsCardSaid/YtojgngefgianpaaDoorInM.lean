/-
  Plain mathematics of instructions' texts: of two that may be, and are unlike, the texts are unlike.
-/
import Derived.Test.YtojgngefgianpaaDoorInE
import Derived.Test.YtojgngefgianpaaDoorDec
namespace Go.Proofs.YtojgngefgianpaaDoor
open Go.RowKit

theorem split_at (c : UInt8) : ∀ (xs ys rs ss : List UInt8), (∀ x ∈ xs, x ≠ c) → (∀ y ∈ ys, y ≠ c) → xs ++ c :: rs = ys ++ c :: ss → xs = ys ∧ rs = ss
  | [], [], rs, ss, _, _, h => by simpa using h
  | [], y :: ys, rs, ss, _, hy, h => by
    simp only [List.nil_append, List.cons_append, List.cons.injEq] at h
    exact absurd h.1.symm (hy y (by simp))
  | x :: xs, [], rs, ss, hx, _, h => by
    simp only [List.nil_append, List.cons_append, List.cons.injEq] at h
    exact absurd h.1 (hx x (by simp))
  | x :: xs, y :: ys, rs, ss, hx, hy, h => by
    simp only [List.cons_append, List.cons.injEq] at h
    obtain ⟨h1, h2⟩ := split_at c xs ys rs ss (fun z hz => hx z (by simp [hz])) (fun z hz => hy z (by simp [hz])) h.2
    exact ⟨by rw [h.1, h1], h2⟩
abbrev decL (u : Nat) : List UInt8 := Lib.decDigits u
theorem decL_inj {u v : Nat} (h : decL u = decL v) : u = v := by
  have := congrArg decV h
  rwa [decV_digits, decV_digits] at this
theorem decL_no (u : Nat) (c : UInt8) (hc : digB c = false) : ∀ x ∈ decL u, x ≠ c := fun x hx e => by
  have h := List.all_eq_true.mp (digits_all u) x hx
  rw [e, hc] at h; cases h
theorem no44 : digB 44 = false := by decide
def sufL (o : Int) (a b c : Nat) : List UInt8 :=
  if (partsB o).data.toList = [97, 99] then 32 :: 114 :: (decL a ++ 44 :: 32 :: decL c)
  else if (partsB o).data.toList = [97, 98] then 32 :: 114 :: (decL a ++ 44 :: 32 :: 114 :: decL b)
  else if (partsB o).data.toList = [97, 98, 114] then 32 :: 114 :: (decL a ++ 44 :: 32 :: 114 :: (decL b ++ 44 :: 32 :: 114 :: decL c))
  else if (partsB o).data.toList = [97, 98, 99] then 32 :: 114 :: (decL a ++ 44 :: 32 :: 114 :: (decL b ++ 44 :: 32 :: decL c))
  else if (partsB o).data.toList = [99] then 32 :: decL c
  else if (partsB o).data.toList = [97] then 32 :: 114 :: decL a
  else []
theorem app_list (s t : ByteArray) : (s ++ t).data.toList = s.data.toList ++ t.data.toList := Go.Joins.data_append s t
theorem decB_list (u : Nat) : (decB u).data.toList = decL u := by simp [decB]
set_option maxHeartbeats 4000000 in
theorem text_form (o : Int) (a b c : Nat) (h1 : 1 ≤ o) (h2 : o ≤ 27) : (txtB (partsB o) (nameB o) a b c (partsB o).size).data.toList = (nameB o).data.toList ++ sufL o a b c := by
  rcases op_cases o h1 h2 with rfl | rfl | rfl | rfl | rfl | rfl | rfl | rfl | rfl | rfl | rfl | rfl | rfl | rfl | rfl | rfl | rfl | rfl | rfl | rfl | rfl | rfl | rfl | rfl | rfl | rfl | rfl
  all_goals
    simp [txtB, pieceB, sepB, partsB, nameB, sufL, decB_list, ByteArray.size]
theorem name_no32 (o : Int) : ∀ x ∈ (nameB o).data.toList, x ≠ 32 := by
  by_cases h : o < 1 ∨ 27 < o
  · rw [nameB_no o h]; decide
  · rcases op_cases o (by omega) (by omega) with rfl | rfl | rfl | rfl | rfl | rfl | rfl | rfl | rfl | rfl | rfl | rfl | rfl | rfl | rfl | rfl | rfl | rfl | rfl | rfl | rfl | rfl | rfl | rfl | rfl | rfl | rfl <;> decide
theorem suf_head (o : Int) (a b c : Nat) : sufL o a b c = [] ∨ ∃ r, sufL o a b c = 32 :: r := by
  unfold sufL
  repeat' split
  all_goals first | exact Or.inr ⟨_, rfl⟩ | exact Or.inl rfl
theorem text_op {o o' : Int} {a b c a' b' c' : Nat} (h1 : 1 ≤ o) (h2 : o ≤ 27) (h1' : 1 ≤ o') (h2' : o' ≤ 27) (h : (nameB o).data.toList ++ sufL o a b c = (nameB o').data.toList ++ sufL o' a' b' c') : o = o' ∧ sufL o a b c = sufL o' a' b' c' := by
  have hn : (nameB o).data.toList = (nameB o').data.toList ∧ sufL o a b c = sufL o' a' b' c' := by
    rcases suf_head o a b c with e | ⟨r, e⟩ <;> rcases suf_head o' a' b' c' with e' | ⟨r', e'⟩ <;> rw [e, e'] at h ⊢
    · simpa using h
    · exfalso
      have : (32 : UInt8) ∈ (nameB o).data.toList ++ [] := by rw [h]; simp
      simp only [List.append_nil] at this
      exact name_no32 o 32 this rfl
    · exfalso
      have : (32 : UInt8) ∈ (nameB o').data.toList ++ [] := by rw [← h]; simp
      simp only [List.append_nil] at this
      exact name_no32 o' 32 this rfl
    · obtain ⟨x, y⟩ := split_at 32 _ _ _ _ (name_no32 o) (name_no32 o') h
      exact ⟨x, by rw [y]⟩
  refine ⟨?_, hn.2⟩
  have e : nameB o = nameB o' := ByteArray.ext (Array.toList_inj.mp hn.1)
  rw [← opOf_name o h1 h2, e, opOf_name o' h1' h2']
theorem right_zero_a {o a b c : Int} (h : rightI o a b c = true) (hp : hasB (partsB o) 97 = false) : a = 0 := by
  unfold rightI at h
  rw [Bool.and_eq_true, Bool.and_eq_true, Bool.and_eq_true, hp] at h
  simpa [withinB] using h.2.1
theorem right_zero_b {o a b c : Int} (h : rightI o a b c = true) (hp : hasB (partsB o) 98 = false) : b = 0 := by
  unfold rightI at h
  rw [Bool.and_eq_true, Bool.and_eq_true, Bool.and_eq_true, hp] at h
  simpa [withinB] using h.2.2.1
theorem right_zero_c {o a b c : Int} (h : rightI o a b c = true) (hp : hasB (partsB o) 99 = false) (hp2 : hasB (partsB o) 114 = false) : c = 0 := by
  unfold rightI at h
  rw [Bool.and_eq_true, Bool.and_eq_true, Bool.and_eq_true, hp, hp2] at h
  simpa [withinB] using h.2.2.2
theorem has_list {o : Int} {l : List UInt8} (h : (partsB o).data.toList = l) (x : Int) : hasB (partsB o) x = l.any fun y => (y.toNat : Int) == x := by unfold hasB; rw [h]
theorem two_eq {x y x' y' : Nat} (t : List UInt8) (h : decL x ++ 44 :: (t ++ decL y) = decL x' ++ 44 :: (t ++ decL y')) : x = x' ∧ y = y' := by
  obtain ⟨h1, h2⟩ := split_at 44 _ _ _ _ (decL_no x 44 no44) (decL_no x' 44 no44) h
  exact ⟨decL_inj h1, decL_inj (List.append_cancel_left h2)⟩
theorem three_eq {x y z x' y' z' : Nat} (t u : List UInt8) (h : decL x ++ 44 :: (t ++ (decL y ++ 44 :: (u ++ decL z))) = decL x' ++ 44 :: (t ++ (decL y' ++ 44 :: (u ++ decL z')))) : x = x' ∧ y = y' ∧ z = z' := by
  obtain ⟨h1, h2⟩ := split_at 44 _ _ _ _ (decL_no x 44 no44) (decL_no x' 44 no44) h
  obtain ⟨h3, h4⟩ := two_eq u (List.append_cancel_left h2)
  exact ⟨decL_inj h1, h3, h4⟩
theorem parts_shapes (o : Int) (h1 : 1 ≤ o) (h2 : o ≤ 27) : (partsB o).data.toList = [97, 99] ∨ (partsB o).data.toList = [97, 98] ∨ (partsB o).data.toList = [97, 98, 114] ∨ (partsB o).data.toList = [97, 98, 99] ∨ (partsB o).data.toList = [99] ∨ (partsB o).data.toList = [97] ∨ (partsB o).data.toList = [] := by
  rcases op_cases o h1 h2 with rfl | rfl | rfl | rfl | rfl | rfl | rfl | rfl | rfl | rfl | rfl | rfl | rfl | rfl | rfl | rfl | rfl | rfl | rfl | rfl | rfl | rfl | rfl | rfl | rfl | rfl | rfl <;> decide
theorem suf_inj {o : Int} {a b c a' b' c' : Nat} (hr : rightI o a b c = true) (hr' : rightI o a' b' c' = true) (h : sufL o a b c = sufL o a' b' c') : a = a' ∧ b = b' ∧ c = c' := by
  have hb := right_bd hr
  unfold sufL at h
  rcases parts_shapes o hb.1 hb.2.1 with p | p | p | p | p | p | p <;> simp only [p] at h <;> simp at h
  · obtain ⟨x, y⟩ := two_eq [32] h
    have z := right_zero_b hr (by rw [has_list p]; decide)
    have z' := right_zero_b hr' (by rw [has_list p]; decide)
    exact ⟨x, by omega, y⟩
  · obtain ⟨x, y⟩ := two_eq [32, 114] h
    have z := right_zero_c hr (by rw [has_list p]; decide) (by rw [has_list p]; decide)
    have z' := right_zero_c hr' (by rw [has_list p]; decide) (by rw [has_list p]; decide)
    exact ⟨x, y, by omega⟩
  · exact three_eq [32, 114] [32, 114] h
  · exact three_eq [32, 114] [32] h
  · have z := right_zero_a hr (by rw [has_list p]; decide)
    have z' := right_zero_a hr' (by rw [has_list p]; decide)
    have u := right_zero_b hr (by rw [has_list p]; decide)
    have u' := right_zero_b hr' (by rw [has_list p]; decide)
    exact ⟨by omega, by omega, decL_inj h⟩
  · have z := right_zero_c hr (by rw [has_list p]; decide) (by rw [has_list p]; decide)
    have z' := right_zero_c hr' (by rw [has_list p]; decide) (by rw [has_list p]; decide)
    have u := right_zero_b hr (by rw [has_list p]; decide)
    have u' := right_zero_b hr' (by rw [has_list p]; decide)
    exact ⟨decL_inj h, by omega, by omega⟩
  · have z := right_zero_c hr (by rw [has_list p]; decide) (by rw [has_list p]; decide)
    have z' := right_zero_c hr' (by rw [has_list p]; decide) (by rw [has_list p]; decide)
    have u := right_zero_b hr (by rw [has_list p]; decide)
    have u' := right_zero_b hr' (by rw [has_list p]; decide)
    have v := right_zero_a hr (by rw [has_list p]; decide)
    have v' := right_zero_a hr' (by rw [has_list p]; decide)
    exact ⟨by omega, by omega, by omega⟩
/-- Two instructions that may be, with one text, are one. -/
theorem text_inj {o o' : Int} {a b c a' b' c' : Nat} (hr : rightI o a b c = true) (hr' : rightI o' a' b' c' = true) (h : txtB (partsB o) (nameB o) a b c (partsB o).size = txtB (partsB o') (nameB o') a' b' c' (partsB o').size) : o = o' ∧ a = a' ∧ b = b' ∧ c = c' := by
  have h1 := right_bd hr
  have h2 := right_bd hr'
  have h3 : (txtB (partsB o) (nameB o) a b c (partsB o).size).data.toList = (txtB (partsB o') (nameB o') a' b' c' (partsB o').size).data.toList := by rw [h]
  rw [text_form o a b c h1.1 h1.2.1, text_form o' a' b' c' h2.1 h2.2.1] at h3
  obtain ⟨e, hs⟩ := text_op h1.1 h1.2.1 h2.1 h2.2.1 h3
  subst e
  exact ⟨rfl, suf_inj hr hr' hs⟩
/-- Two instructions that may be, with one word, are one. -/
theorem enc_inj {o a b c o' a' b' c' : Int} (hr : rightI o a b c = true) (hr' : rightI o' a' b' c' = true) (h : encI o a b c = encI o' a' b' c') : o = o' ∧ a = a' ∧ b = b' ∧ c = c' := by
  have h1 := right_bd hr
  have h2 := right_bd hr'
  unfold encI at h
  omega
end Go.Proofs.YtojgngefgianpaaDoor
