/-
  Mathematics of images' bytes: which bytes are an image's, and of which.
-/
import Derived.Test.YtfaedjpfbaiojaaImE
namespace Go.Proofs.Ytfaedjpfbaiojaa
open Go.RowKit

theorem fw_at (s : ByteArray) (k : Nat) (h : 4 * k + 3 < s.size) : fw (s[4 * k]'(by omega)) (s[4 * k + 1]'(by omega)) (s[4 * k + 2]'(by omega)) (s[4 * k + 3]'(by omega)) = wAt s.data.toList k := by
  unfold wAt
  rw [getD_atI s (4 * k) (by omega), getD_atI s (4 * k + 1) (by omega), getD_atI s (4 * k + 2) (by omega), getD_atI s (4 * k + 3) (by omega)]
/-- The words of an image's bytes. -/
def imgW (d : Int) (xs : List Int) : List Int := 1145390419 :: (xs.length : Int) :: d :: xs
theorem put_words (d : Int) (xs : List Int) : putL d xs = wbytes (imgW d xs) := by
  have h : w4 1145390419 = [83, 69, 69, 68] := by decide
  unfold putL imgW
  rw [wbytes_cons, wbytes_cons, wbytes_cons, h, wbytes_cons, wbytes_cons, wbytes_nil]
  simp
theorem putL_length (d : Int) (xs : List Int) : (putL d xs).length = 12 + 4 * xs.length := by
  rw [put_words, wbytes_length]; simp [imgW]; omega
theorem img_words {s : ByteArray} {n : Nat} {d : Int} {xs : List Int} (h : ImgAt s n d xs) : wordsR s.data.toList = imgW d xs := by
  have hl : s.data.toList.length = s.size := len_toList s
  have hsz := h.sz
  apply List.ext_getElem?
  intro j
  rcases Nat.lt_or_ge j (3 + n) with q | q
  · rw [wordsR_at _ j (by omega), ← fw_at s j (by omega)]
    match j, q with
    | 0, _ =>
      have e0 := h.b0
      have e1 := h.b1
      have e2 := h.b2
      have e3 := h.b3
      show some (fw s[0] s[1] s[2] s[3]) = some 1145390419
      unfold fw
      rw [e0, e1, e2, e3]; rfl
    | 1, _ =>
      show some (fw s[4] s[5] s[6] s[7]) = some ((xs.length : Nat) : Int)
      rw [h.nw, h.len]
    | 2, _ =>
      show some (fw s[8] s[9] s[10] s[11]) = some d
      rw [h.dw]
    | k + 3, q =>
      have hk : k < n := by omega
      have hw := h.ws k hk
      have hln := h.len
      show _ = xs[k]?
      rw [List.getD_eq_getElem?_getD, List.getElem?_eq_getElem (by omega)] at hw
      rw [List.getElem?_eq_getElem (show k < xs.length by omega)]
      simp only [Option.getD_some] at hw
      rw [← hw]
      congr 2 <;> congr 1 <;> omega
  · rw [List.getElem?_eq_none (by rw [wordsR_length]; omega), List.getElem?_eq_none (by have := h.len; simp [imgW]; omega)]
theorem img_is {s : ByteArray} {n : Nat} {d : Int} {xs : List Int} (h : ImgAt s n d xs) : s = ⟨(putL d xs).toArray⟩ ∧ Bd xs ∧ rightM n d = true ∧ xs.length = n := by
  have hw := img_words h
  have hl : s.data.toList.length = s.size := len_toList s
  have hsz := h.sz
  refine ⟨?_, fun x hx => wordsR_bd s.data.toList x ?_, ?_, h.len⟩
  · apply ByteArray.ext
    apply Array.ext'
    show s.data.toList = putL d xs
    rw [put_words, ← hw, wbytes_wordsR _ (by omega)]
  · rw [hw]; unfold imgW; simp [hx]
  · unfold rightM
    have h1 := h.hn
    have h2 := h.hd
    simp; omega
theorem img_put {d : Int} {xs : List Int} (hb : Bd xs) (hr : rightM xs.length d = true) : ImgAt ⟨(putL d xs).toArray⟩ xs.length d xs := by
  have hr' : xs.length ≤ 16384 ∧ 0 ≤ d ∧ d ≤ 32768 := by unfold rightM at hr; simp at hr; omega
  obtain ⟨s, hs⟩ : ∃ s : ByteArray, s = ⟨(putL d xs).toArray⟩ := ⟨_, rfl⟩
  rw [← hs]
  have hL : s.data.toList = putL d xs := by rw [hs]
  have hl : s.data.toList.length = s.size := len_toList s
  have hsz : s.size = 12 + 4 * xs.length := by rw [← hl, hL, putL_length]
  have hw : wordsR s.data.toList = imgW d xs := by
    rw [hL, put_words]
    refine wordsR_wbytes _ fun x hx => ?_
    unfold imgW at hx
    simp at hx
    rcases hx with rfl | rfl | rfl | hx
    · omega
    · omega
    · omega
    · exact hb x hx
  have at_k : ∀ k (hk : k < 3 + xs.length), (imgW d xs)[k]? = some (wAt s.data.toList k) := fun k hk => by
    rw [← hw]; exact wordsR_at _ k (by omega)
  have a0 := at_k 0 (by omega)
  have a1 := at_k 1 (by omega)
  have a2 := at_k 2 (by omega)
  rw [← fw_at s 0 (by omega)] at a0
  rw [← fw_at s 1 (by omega)] at a1
  rw [← fw_at s 2 (by omega)] at a2
  have e0 : fw (s[0]'(by omega)) (s[1]'(by omega)) (s[2]'(by omega)) (s[3]'(by omega)) = 1145390419 := (Option.some.inj a0).symm
  have e1 : fw (s[4]'(by omega)) (s[5]'(by omega)) (s[6]'(by omega)) (s[7]'(by omega)) = (xs.length : Int) := (Option.some.inj a1).symm
  have e2 : fw (s[8]'(by omega)) (s[9]'(by omega)) (s[10]'(by omega)) (s[11]'(by omega)) = d := (Option.some.inj a2).symm
  have b0 := (s[0]'(by omega)).toNat_lt
  have b1 := (s[1]'(by omega)).toNat_lt
  have b2 := (s[2]'(by omega)).toNat_lt
  have b3 := (s[3]'(by omega)).toNat_lt
  unfold fw at e0
  refine ⟨hsz, hr'.1, hr'.2, by omega, by omega, by omega, by omega, e1, e2, rfl, fun k hk => ?_⟩
  have a3 := at_k (3 + k) (by omega)
  rw [← fw_at s (3 + k) (by omega)] at a3
  have e3 : (imgW d xs)[3 + k]? = xs[k]? := by rw [Nat.add_comm]; rfl
  rw [e3] at a3
  rw [List.getD_eq_getElem?_getD, a3]
  simp only [Option.getD_some]
  congr 2 <;> omega
theorem imgW_inj {d e : Int} {xs ys : List Int} (h : imgW d xs = imgW e ys) : d = e ∧ xs = ys := by
  unfold imgW at h
  simp at h
  exact ⟨h.2.1, h.2.2⟩
theorem img_inj {s : ByteArray} {n n' : Nat} {d d' : Int} {xs xs' : List Int} (h : ImgAt s n d xs) (h' : ImgAt s n' d' xs') : n = n' ∧ d = d' ∧ xs = xs' := by
  have e := imgW_inj ((img_words h).symm.trans (img_words h'))
  exact ⟨by rw [← h.len, ← h'.len, e.2], e.1, e.2⟩
theorem putL_inj {d e : Int} {xs ys : List Int} (hb : Bd xs) (hr : rightM xs.length d = true) (hb' : Bd ys) (hr' : rightM ys.length e = true) (h : putL d xs = putL e ys) : d = e ∧ xs = ys := by
  have h1 := img_put hb hr
  rw [h] at h1
  have e := img_inj h1 (img_put hb' hr')
  exact ⟨e.2.1, e.2.2⟩
end Go.Proofs.Ytfaedjpfbaiojaa
