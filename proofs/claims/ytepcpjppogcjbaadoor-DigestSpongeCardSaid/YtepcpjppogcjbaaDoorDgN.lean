/-
  Plain mathematics of a digest's text, and its way back; then the contracts of the code's Text and Parse.
-/
import Derived.Test.YtepcpjppogcjbaaDoorDgR
import Derived.Test.YtepcpjppogcjbaaDoorCHexP
import Derived.Test.YtepcpjppogcjbaaDoorWords
import Derived.Test.YtepcpjppogcjbaaDoorBytes
namespace Go.Proofs.YtepcpjppogcjbaaDoor
open Go.RowKit

theorem byteN_fw (a b c d : UInt8) : byteN (fw a b c d).toNat 0 = a ∧ byteN (fw a b c d).toNat 1 = b ∧ byteN (fw a b c d).toNat 2 = c ∧ byteN (fw a b c d).toNat 3 = d := by
  have h := w4_fw a b c d
  rw [w4_four] at h
  simp only [List.cons.injEq, and_true] at h
  exact h
theorem revW_fw (a b c d : UInt8) : revW (fw a b c d) = fw d c b a := by
  obtain ⟨h0, h1, h2, h3⟩ := byteN_fw a b c d
  rw [revW, h0, h1, h2, h3]
theorem revW_rev {x : Int} (h : isW x) : revW (revW x) = x := by
  rw [show revW x = fw (byteN x.toNat 3) (byteN x.toNat 2) (byteN x.toNat 1) (byteN x.toNat 0) from rfl, revW_fw]
  exact fw_w4 x h.1 h.2
theorem swapD_swap {d : D4} (h : d.ok) : swapD (swapD d) = d := by
  obtain ⟨h0, h1, h2, h3⟩ := h
  cases d
  simp only [swapD, revW_rev h0, revW_rev h1, revW_rev h2, revW_rev h3]
/-- A digest's bytes, as its text tells them; and the digest of sixteen bytes. -/
def dB (d : D4) : List UInt8 := wbytes (swapD d).toL
theorem dB_len (d : D4) : (dB d).length = 16 := by rw [dB, wbytes_length]; rfl
def four (l : List UInt8) : D4 := ⟨wAt l 0, wAt l 1, wAt l 2, wAt l 3⟩
theorem four_ok (l : List UInt8) : (four l).ok := ⟨fw_bd _ _ _ _, fw_bd _ _ _ _, fw_bd _ _ _ _, fw_bd _ _ _ _⟩
def bD (l : List UInt8) : D4 := swapD (four l)
theorem bD_ok (l : List UInt8) : (bD l).ok := swapD_ok _
theorem words16 {l : List UInt8} (h : l.length = 16) : wordsR l = (four l).toL := by
  have hl : (wordsR l).length = 4 := by rw [wordsR_length, h]
  have h0 := wordsR_at l 0 (by omega)
  have h1 := wordsR_at l 1 (by omega)
  have h2 := wordsR_at l 2 (by omega)
  have h3 := wordsR_at l 3 (by omega)
  generalize wordsR l = W at *
  match W, hl with
  | [a, b, c, d], _ =>
    simp at h0 h1 h2 h3
    rw [h0, h1, h2, h3]; rfl
theorem four_inj {c d : D4} (h : c.toL = d.toL) : c = d := by
  cases c; cases d
  simp only [D4.toL, List.cons.injEq, and_true] at h
  obtain ⟨h0, h1, h2, h3⟩ := h
  simp [h0, h1, h2, h3]
theorem four_dB {d : D4} : four (dB d) = swapD d := by
  apply four_inj
  rw [← words16 (dB_len d), dB, wordsR_wbytes]
  exact fun x hx => (D4.toL_ok (swapD_ok d)) x hx
theorem bD_dB {d : D4} (h : d.ok) : bD (dB d) = d := by rw [bD, four_dB, swapD_swap h]
/-- The bytes of sixteen bytes' digest. -/
theorem dB_bD {l : List UInt8} (h : l.length = 16) : dB (bD l) = l := by
  rw [dB, bD, swapD_swap (four_ok l), ← words16 h, wbytes_wordsR l (by omega)]

/-- The text of a digest; what is read of a text, and the error. -/
def dTextL (d : D4) : List UInt8 := textL (dB d)
theorem dTextL_len (d : D4) : (dTextL d).length = 32 := by rw [dTextL, textL_len, dB_len]
def goodD (l : List UInt8) : Bool := decide (l.length = 32) && decide (pE l = 0)
def dRead (l : List UInt8) : D4 := if goodD l = true then bD (pV l) else zeroD
def dErr (l : List UInt8) : Int := if goodD l = true then 0 else 3
theorem pE_cases (l : List UInt8) : pE l = 0 ∨ pE l = 3 := by unfold pE; split <;> simp
theorem good_len {l : List UInt8} (h : goodD l = true) : l.length = 32 ∧ pE l = 0 ∧ (∀ c ∈ l, dgt c ≠ 16) ∧ pV l = loadL l ∧ (pV l).length = 16 := by
  simp only [goodD, Bool.and_eq_true, decide_eq_true_eq] at h
  obtain ⟨h1, h2⟩ := h
  have hb : badP l = l.length := by
    have := badP_le l
    unfold pE at h2
    by_cases q : badP l < l.length ∨ l.length % 2 = 1
    · rw [if_pos q] at h2; omega
    · omega
  have hd := (badP_all l).mp hb
  have hv := (parse_even hb (by omega)).1
  exact ⟨h1, h2, hd, hv, by rw [hv, load_all_len l hd (by omega), h1]⟩
/-- Sixteen bytes come of a good text alone. -/
theorem good_of {l : List UInt8} (h : pE l = 0) (h16 : (pV l).length = 16) : goodD l = true := by
  have hb : badP l = l.length ∧ l.length % 2 = 0 := by
    have := badP_le l
    unfold pE at h
    by_cases q : badP l < l.length ∨ l.length % 2 = 1
    · rw [if_pos q] at h; omega
    · omega
  have hd := (badP_all l).mp hb.1
  rw [(parse_even hb.1 hb.2).1, load_all_len l hd hb.2] at h16
  have : l.length = 32 := by omega
  simp [goodD, this, h]
theorem good_text (d : D4) : goodD (dTextL d) = true ∧ pV (dTextL d) = dB d := by
  have hd := textL_digits (dB d)
  have hb := (badP_all _).mpr hd
  have hp := parse_even hb (by rw [textL_len]; omega)
  refine ⟨good_of hp.2.2 ?_, by rw [dTextL, hp.1, load_text]⟩
  rw [dTextL, hp.1, load_text, dB_len]
theorem dRead_text {d : D4} (h : d.ok) : dRead (dTextL d) = d ∧ dErr (dTextL d) = 0 := by
  obtain ⟨h1, h2⟩ := good_text d
  unfold dRead dErr
  rw [if_pos h1, if_pos h1, h2, bD_dB h]
  exact ⟨rfl, rfl⟩

theorem bytes_dig (d : D4) (b : Nat) (cap : Nat) (w : World) (hd : d.ok) (h : Arr .u32 29 b d.toL w) :
    Calls Tryd.prog 36 #[.slice (some ⟨b, 0, none⟩) 4 cap] w fun e w' => e = .returned (.string ⟨(wbytes d.toL).toArray⟩) ∧ Below w.heap.size w w' := by
  refine bytes_any (some ⟨b, 0, none⟩) d.toL cap w (by rw [D4.toL_len]; decide) ?_ ?_
  · intro k hk
    exact D4.toL_ok hd _ (List.getElem_mem hk)
  · intro _
    refine ⟨b, 0, rfl, h.lt, fun k hk => ?_⟩
    rw [Nat.zero_add, h.cell hk]
    simp [List.getD, List.getElem?_eq_getElem hk]
theorem bytes_named (d : D4) (t : ByteArray) (ht : t = ⟨(wbytes d.toL).toArray⟩) (b : Nat) (cap : Nat) (w : World) (hd : d.ok) (h : Arr .u32 29 b d.toL w) :
    Calls Tryd.prog 36 #[.slice (some ⟨b, 0, none⟩) 4 cap] w fun e w' => e = .returned (.string t) ∧ Below w.heap.size w w' := by
  rw [ht]; exact bytes_dig d b cap w hd h

set_option maxHeartbeats 3000000 in
theorem ctext_any (d : D4) (w : World) (hd : d.ok) (hL : HexOk w) : Calls Tryd.prog 20 #[d.val] w fun e w' => e = .returned (.string ⟨(dTextL d).toArray⟩) ∧ Below w.heap.size w w' := by
  have HL := Lib.hid hL
  clear hL
  obtain ⟨w0, hw0⟩ : ∃ w0, w.alloc (.cells #[.int .u32 d.d0, .int .u32 d.d1, .int .u32 d.d2, .int .u32 d.d3] 29) = w0 := ⟨_, rfl⟩
  have hA0 : Arr .u32 29 w.heap.size d.toL w0 := by rw [← hw0]; exact heap_alloc_new w _
  have hB0 : Below w.heap.size w w0 := by rw [← hw0]; exact (Below.refl _ _).alloc (Nat.le_refl _) _
  obtain ⟨c0, c1, c2, c3⟩ := hA0.c4
  go_enter Tryd.func20, Tryd.ntmps20
  simp only [D4.val]
  go_wp2_with fail
  clear hw0 c0 c1 c2 c3
  have HS := Lib.hid (swap_any d w0 hd)
  obtain ⟨z, hz⟩ : ∃ z, swapD d = z := ⟨_, rfl⟩
  rw [hz] at HS
  have hzo : z.ok := by rw [← hz]; exact swapD_ok d
  obtain ⟨t, ht⟩ : ∃ t : ByteArray, t = ⟨(wbytes z.toL).toArray⟩ := ⟨_, rfl⟩
  have HT : Hid (textL t.data.toList = dTextL d) := by
    show _ = _
    rw [ht, List.toList_toArray, ← hz]; rfl
  have HTS : Hid (t.size ≤ 1000000) := by
    show t.size ≤ 1000000
    rw [ht]
    show (wbytes z.toL).toArray.size ≤ _
    rw [List.size_toArray, wbytes_length]; show 4 * 4 ≤ 1000000; decide
  have HN := Lib.hid ht
  clear hz ht
  refine (HS.out).mono ?_
  simp only [D4.val]
  rintro e w1 ⟨rfl, hB1⟩
  clear HS
  have hA1 := hA0.on hB1
  have hW1 := hB0.trans (hB1.mono hB0.size)
  obtain ⟨c0, c1, c2, c3⟩ := hA1.c4
  obtain ⟨f0, f1, f2, f3⟩ := hA1.f4
  have hA2 := put4 (d := z) hA1 rfl
  have hB2 := below_put4 hW1 (Nat.le_refl _) z
  clear hA0 hB0 hB1 hA1 hW1
  go_wp2_with fail
  generalize (((w1.setCell ⟨w.heap.size, 0, none⟩ (.int .u32 z.d0)).setCell ⟨w.heap.size, 1, none⟩ (.int .u32 z.d1)).setCell ⟨w.heap.size, 2, none⟩ (.int .u32 z.d2)).setCell ⟨w.heap.size, 3, none⟩ (.int .u32 z.d3) = w2 at *
  clear c0 c1 c2 c3 f0 f1 f2 f3
  refine (bytes_named z t HN.out w.heap.size 4 w2 hzo hA2).mono ?_
  rintro e w3 ⟨rfl, hB3⟩
  have hW3 := hB2.trans (hB3.mono hB2.size)
  clear hA2 hB2 hB3
  go_wp2_with fail
  refine (hexText_any t w3 HTS.out (HL.out.below hW3)).mono ?_
  rw [HT.out]
  rintro e w4 ⟨rfl, hB4⟩
  go_wp2_with fail
  go_ret
  exact ⟨rfl, hW3.trans (hB4.mono hW3.size)⟩
end Go.Proofs.YtepcpjppogcjbaaDoor
