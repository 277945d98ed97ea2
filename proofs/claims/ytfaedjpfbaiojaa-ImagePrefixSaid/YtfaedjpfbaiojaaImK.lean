/-
  The code's Read: an image's bytes are read as it, all else is refused.
-/
import Derived.Test.YtfaedjpfbaiojaaImE
import Derived.Test.YtfaedjpfbaiojaaImR8
namespace Go.Proofs.Ytfaedjpfbaiojaa
open Go.RowKit

theorem wAt_drop4 (l : List UInt8) (j : Nat) : wAt (l.drop 4) j = wAt l (j + 1) := by
  unfold wAt
  simp only [List.getD_eq_getElem?_getD, List.getElem?_drop]
  have e0 : 4 + 4 * j = 4 * (j + 1) := by omega
  have e1 : 4 + (4 * j + 1) = 4 * (j + 1) + 1 := by omega
  have e2 : 4 + (4 * j + 2) = 4 * (j + 1) + 2 := by omega
  have e3 : 4 + (4 * j + 3) = 4 * (j + 1) + 3 := by omega
  rw [e0, e1, e2, e3]
theorem wAt_tail (s : ByteArray) (j : Nat) : wAt (s.extract 4 s.size).data.toList j = wAt s.data.toList (j + 1) := by
  rw [Lib.extract_to_end, wAt_drop4]
theorem wAt_img {s : ByteArray} {n : Nat} {d : Int} {xs : List Int} (h : ImgAt s n d xs) (k : Nat) (hk : k < n + 3) : (imgW d xs)[k]? = some (wAt s.data.toList k) := by
  rw [← img_words h]
  exact wordsR_at _ k (by rw [len_toList, h.sz]; omega)
theorem img_front {s : ByteArray} {n : Nat} {d : Int} {xs : List Int} (h : ImgAt s n d xs) : ((s.extract 0 4).toList == [83, 69, 69, 68]) = true := by
  rw [ByteArray.toList_eq, Lib.extract_data, (img_is h).1]
  simp [putL]
theorem cread8_yes (s : ByteArray) (n : Nat) (d : Int) (xs : List Int) (w : World) (hI : ImgAt s n d xs) :
    Calls Try.prog 17 #[.string s] w fun e w' => (∃ p c, e = .returned (.tuple #[.agg #[.slice p n c, .int .i64 d], .int .i64 0]) ∧ RdW w' (.slice p n c) xs) ∧ Below w.heap.size w w' := by
  have hsz := hI.sz
  have ht : (s.extract 4 s.size).size = 4 * (n + 2) := by simp; omega
  have w1 := wAt_img hI 1 (by omega)
  have w2 := wAt_img hI 2 (by omega)
  simp [imgW] at w1 w2
  have hx : tailW (s.extract 4 s.size) n = xs := by
    apply List.ext_getElem?
    intro k
    unfold tailW
    rcases Nat.lt_or_ge k n with q | q
    · have w3 := wAt_img hI (k + 3) (by omega)
      simp [imgW] at w3
      rw [List.getElem?_map, List.getElem?_range q, w3, Option.map_some, wAt_tail]
    · rw [List.getElem?_eq_none (by simpa using q), List.getElem?_eq_none (by rw [hI.len]; exact q)]
  refine (cread_core s (s.extract 4 s.size) (n + 2) n w (Lib.hid fun w => cut_yes s w (by omega) (img_front hI)) ht rfl hI.hn).mono ?_
  rintro e w' ⟨hres, hB⟩
  rw [wAt_tail, wAt_tail, ← w1, ← w2, hx] at hres
  rcases hres with ⟨_, p, c, he, hr⟩ | ⟨hno, _⟩
  · exact ⟨⟨p, c, he, hr⟩, hB⟩
  · exact absurd ⟨by rw [hI.len], hI.hd.2⟩ hno
theorem front_at {s : ByteArray} (h4 : 4 ≤ s.size) (hp : ((s.extract 0 4).toList == [83, 69, 69, 68]) = true) : (s[0]'(by omega)).toNat = 83 ∧ (s[1]'(by omega)).toNat = 69 ∧ (s[2]'(by omega)).toNat = 69 ∧ (s[3]'(by omega)).toNat = 68 := by
  have h := eq_of_beq hp
  rw [ByteArray.toList_eq, Lib.extract_data] at h
  have hg : ∀ k, k < 4 → s.data.toList.getD k 0 = [(83 : UInt8), 69, 69, 68].getD k 0 := fun k hk => by
    rw [← h]
    simp [List.getD_eq_getElem?_getD, hk]
  refine ⟨?_, ?_, ?_, ?_⟩
  · rw [← getD_at s 0 (by omega), hg 0 (by omega)]; rfl
  · rw [← getD_at s 1 (by omega), hg 1 (by omega)]; rfl
  · rw [← getD_at s 2 (by omega), hg 2 (by omega)]; rfl
  · rw [← getD_at s 3 (by omega), hg 3 (by omega)]; rfl
theorem cread8_no (s : ByteArray) (w : World) (_hm : s.size ≤ 1000000) (h : ¬ isImg s) :
    Calls Try.prog 17 #[.string s] w fun e w' => e = .returned (.tuple #[.agg #[.slice none 0 0, .int .i64 0], .int .i64 7]) ∧ Below w.heap.size w w' := by
  by_cases h4 : s.size < 4
  · exact cread_a s s w (Lib.hid fun w => cut_no s w (.inl h4))
  have h4 : 4 ≤ s.size := by omega
  cases hp : ((s.extract 0 4).toList == [83, 69, 69, 68])
  · exact cread_a s s w (Lib.hid fun w => cut_no s w (.inr ⟨h4, hp⟩))
  have HC := Lib.hid fun w => cut_yes s w h4 hp
  have ht : (s.extract 4 s.size).size = s.size - 4 := by simp
  cases hy : mayM (s.extract 4 s.size).size
  · exact cread_b s (s.extract 4 s.size) w HC hy
  unfold mayM at hy
  simp only [Bool.and_eq_true, decide_eq_true_eq, beq_iff_eq] at hy
  obtain ⟨hy0, hy1, hy2⟩ := hy
  obtain ⟨n, hn⟩ : ∃ n, (s.extract 4 s.size).size = 4 * (n + 2) := ⟨(s.extract 4 s.size).size / 4 - 2, by omega⟩
  refine (cread_core s (s.extract 4 s.size) (n + 2) n w HC hn rfl (by omega)).mono ?_
  rintro e w' ⟨⟨⟨g0, g1⟩, _⟩ | ⟨_, he⟩, hB⟩
  · refine absurd ?_ h
    obtain ⟨c0, c1, c2, c3⟩ := front_at h4 hp
    have hsz : s.size = 12 + 4 * n := by omega
    rw [wAt_tail] at g0 g1
    refine ⟨n, wAt s.data.toList 2, tailW (s.extract 4 s.size) n, ⟨hsz, by omega, ⟨(fw_bd _ _ _ _).1, g1⟩, c0, c1, c2, c3, (fw_at s 1 (by omega)).trans g0, fw_at s 2 (by omega), by simp [tailW], fun k hk => ?_⟩⟩
    unfold tailW
    rw [List.getD_eq_getElem?_getD, List.getElem?_map, List.getElem?_range hk, Option.map_some, Option.getD_some, wAt_tail, ← fw_at s (k + 2 + 1) (by omega)]
    congr 2 <;> omega
  · exact ⟨he, hB⟩
end Go.Proofs.Ytfaedjpfbaiojaa
