/-
  The walk of WordPacks: the bytes of any words are the document's, and are read as them; any bytes are read as the document reads them, and written as they were.
-/
import Derived.Test.YtefgaboalbaapaaDoorAlive
import Derived.Test.YtefgaboalbaapaaDoorSame
import Derived.Test.YtefgaboalbaapaaDoorRefWords
import Derived.Test.YtefgaboalbaapaaDoorRefBytes
namespace Go.Proofs.YtefgaboalbaapaaDoor
open Go.RowKit

/-- Words, all of them. -/
def Bd (xs : List Int) : Prop := ∀ x ∈ xs, 0 ≤ x ∧ x < 4294967296
theorem Bd.at {xs : List Int} (h : Bd xs) (k : Nat) (hk : k < xs.length) : 0 ≤ xs[k] ∧ xs[k] < 4294967296 := h _ (List.getElem_mem hk)
theorem bytes_rd (v : Value) (xs : List Int) (t : ByteArray) (w : World) (hn : xs.length ≤ 1000000) (hb : Bd xs) (h : RdW w v xs) (ht : t = ⟨(wbytes xs).toArray⟩) :
    Calls Tryd.prog 16 #[v] w fun e w' => e = .returned (.string t) ∧ Below w.heap.size w w' := by
  obtain ⟨p, cap, rfl, hp⟩ := h
  rw [ht]
  exact bytes_any p xs cap w hn hb.at hp
theorem refBytes_rd (v : Value) (xs : List Int) (t : ByteArray) (w : World) (hn : xs.length ≤ 1000000) (hb : Bd xs) (h : RdW w v xs) (ht : t = ⟨(wbytes xs).toArray⟩) :
    Calls Tryd.prog 18 #[v] w fun e w' => e = .returned (.string t) ∧ Below w.heap.size w w' := by
  obtain ⟨p, cap, rfl, hp⟩ := h
  rw [ht]
  exact refBytes_any p xs cap w hn hb.at hp
/-- Words, of bytes that are read as these words. -/
theorem words_rd (s : ByteArray) (xs : List Int) (w : World) (hs : s.size ≤ 1000000) (h : s.size % 4 = 0) (hx : wordsR s.data.toList = xs) :
    Calls Tryd.prog 17 #[.string s] w fun e w' => ∃ v, e = .returned (.tuple #[v, .int .i64 0]) ∧ RdW w' v xs ∧ Below w.heap.size w w' := by
  rw [← hx]
  exact (words_ok s w hs h).mono fun e w' ⟨v, h1, h2, h3⟩ => ⟨v, h1, h2.reads, h3⟩
theorem refWords_rd (s : ByteArray) (xs : List Int) (w : World) (hs : s.size ≤ 1000000) (h : s.size % 4 = 0) (hx : wordsR s.data.toList = xs) :
    Calls Tryd.prog 20 #[.string s] w fun e w' => ∃ v, e = .returned (.tuple #[v, .int .i64 0]) ∧ RdW w' v xs ∧ Below w.heap.size w w' := by
  rw [← hx]
  exact (refWords_ok s w hs h).mono fun e w' ⟨v, h1, h2, h3⟩ => ⟨v, h1, h2.reads, h3⟩
theorem wbytes_size (xs : List Int) : (⟨(wbytes xs).toArray⟩ : ByteArray).size = 4 * xs.length := by
  show (wbytes xs).toArray.size = _
  rw [List.size_toArray, wbytes_length]
theorem wordsR_pack (xs : List Int) (hb : Bd xs) (t : ByteArray) (ht : t = ⟨(wbytes xs).toArray⟩) : wordsR t.data.toList = xs := by
  rw [ht]
  show wordsR ((wbytes xs).toArray).toList = xs
  rw [List.toList_toArray]
  exact wordsR_wbytes xs hb
theorem pack_wordsR (s : ByteArray) (h : s.size % 4 = 0) : s = ⟨(wbytes (wordsR s.data.toList)).toArray⟩ := by
  rw [wbytes_wordsR _ (by rw [len_toList]; exact h)]

theorem packs_many (p : Option Addr) (n cap : Nat) (s : ByteArray) (w : World) (hl : 300 < n) :
    Calls Tryd.prog 5 #[.slice p n cap, .string s] w fun e w' => e = .returned (.bool true) ∧ Below w.heap.size w w' := by
  go_enter Tryd.func5, Tryd.ntmps5
  go_wp2_with fail
  refine (alive_any _).mono ?_
  rintro e w1 ⟨rfl, hB⟩
  go_wp2_with fail
  go_ret
  exact ⟨rfl, hB⟩
theorem packs_long (p : Option Addr) (n cap : Nat) (s : ByteArray) (w : World) (hl : n ≤ 300) (hs : 1000 < s.size) :
    Calls Tryd.prog 5 #[.slice p n cap, .string s] w fun e w' => e = .returned (.bool true) ∧ Below w.heap.size w w' := by
  go_enter Tryd.func5, Tryd.ntmps5
  go_wp2_with fail
  refine (alive_any _).mono ?_
  rintro e w1 ⟨rfl, hB⟩
  go_wp2_with fail
  go_ret
  exact ⟨rfl, hB⟩

set_option maxHeartbeats 1000000 in
theorem packs_walk (p : Option Addr) (cap : Nat) (xs : List Int) (s t : ByteArray) (w : World) (hl : xs.length ≤ 300) (hs : s.size ≤ 1000) (HB : Hid (Bd xs)) (HR : Hid (RdW w (.slice p xs.length cap) xs))
    (HT : Hid (t = ⟨(wbytes xs).toArray⟩)) (HTS : Hid (t.size ≤ 1000000 ∧ t.size % 4 = 0)) (HX : Hid (wordsR t.data.toList = xs)) :
    Calls Tryd.prog 5 #[.slice p xs.length cap, .string s] w fun e w' => e = .returned (.bool true) ∧ Below w.heap.size w w' := by
  go_enter Tryd.func5, Tryd.ntmps5
  go_wp2_with fail
  refine (alive_any _).mono ?_
  rintro e w1 ⟨rfl, hW⟩
  have HR1 := Lib.hid (HR.out.below hW)
  go_wp2_with fail
  refine (bytes_rd _ xs t _ (by omega) HB.out HR1.out HT.out).mono ?_
  rintro e w2 ⟨rfl, hB2⟩
  have HR2 := Lib.hid (HR1.out.below hB2)
  have hW2 := hW.trans (hB2.mono hW.size)
  clear hW hB2
  go_wp2_with fail
  refine (words_rd t xs _ HTS.out.1 HTS.out.2 HX.out).mono ?_
  rintro e w3 ⟨v1, rfl, hv1, hB3⟩
  have HR3 := Lib.hid (HR2.out.below hB3)
  have HV1 := Lib.hid hv1
  have hW3 := hW2.trans (hB3.mono hW2.size)
  clear hW2 hB3 hv1
  go_wp2_with fail
  refine (refBytes_rd _ xs t _ (by omega) HB.out HR3.out HT.out).mono ?_
  rintro e w4 ⟨rfl, hB4⟩
  have HR4 := Lib.hid (HR3.out.below hB4)
  have HV2 := Lib.hid (HV1.out.below hB4)
  have hW4 := hW3.trans (hB4.mono hW3.size)
  clear hW3 hB4
  go_wp2_with fail
  refine (same_any _ _ xs _ (by omega) HV2.out HR4.out).mono ?_
  rintro e w5 ⟨rfl, hB5⟩
  have hW5 := hW4.trans (hB5.mono hW4.size)
  clear hW4 hB5
  go_wp2_with fail
  by_cases h4 : s.size % 4 = 0
  · have HS := Lib.hid (pack_wordsR s h4)
    have HSB : Hid (Bd (wordsR s.data.toList)) := fun x hx => wordsR_bd _ x hx
    have hlen : (wordsR s.data.toList).length ≤ 1000000 := by rw [wordsR_length, len_toList]; omega
    have HLEN := Lib.hid hlen
    obtain ⟨ys, hys⟩ : ∃ ys, wordsR s.data.toList = ys := ⟨_, rfl⟩
    rw [hys] at HS HSB HLEN
    have HY := Lib.hid hys
    have H4 := Lib.hid h4
    clear h4 hys hlen
    refine (words_rd s ys _ (by omega) H4.out HY.out).mono ?_
    rintro e w6 ⟨v2, rfl, hv2, hB6⟩
    have HV3 := Lib.hid hv2
    have hW6 := hW5.trans (hB6.mono hW5.size)
    clear hW5 hB6 hv2
    go_wp2_with fail
    refine (refWords_rd s ys _ (by omega) H4.out HY.out).mono ?_
    rintro e w7 ⟨v3, rfl, hv3, hB7⟩
    have HV4 := Lib.hid (HV3.out.below hB7)
    have HV5 := Lib.hid hv3
    have hW7 := hW6.trans (hB7.mono hW6.size)
    clear hW6 hB7 hv3
    go_wp2_with fail
    refine (same_any _ _ ys _ HLEN.out HV4.out HV5.out).mono ?_
    rintro e w8 ⟨rfl, hB8⟩
    have HV6 := Lib.hid (HV4.out.below hB8)
    have hW8 := hW7.trans (hB8.mono hW7.size)
    clear hW7 hB8
    go_wp2_with fail
    refine (bytes_rd _ ys s _ HLEN.out HSB.out HV6.out HS.out).mono ?_
    rintro e w9 ⟨rfl, hB9⟩
    go_wp2_with fail
    go_ret
    exact ⟨rfl, hW8.trans (hB9.mono hW8.size)⟩
  · have H4 := Lib.hid h4
    clear h4
    refine (words_form s _ (by unfold maxLen; omega) H4.out).mono ?_
    rintro e w6 ⟨rfl, rfl⟩
    go_wp2_with fail
    refine (refWords_form s _ (by unfold maxLen; omega) H4.out).mono ?_
    rintro e w7 ⟨rfl, rfl⟩
    go_wp2_with fail
    refine (same_any _ _ [] _ (by decide) (RdW.nil _) (RdW.nil _)).mono ?_
    rintro e w8 ⟨rfl, hB8⟩
    go_wp2_with fail
    go_ret
    exact ⟨rfl, hW5.trans (hB8.mono hW5.size)⟩

theorem packs_any (p : Option Addr) (cap : Nat) (xs : List Int) (s : ByteArray) (w : World) (hb : Bd xs) (h : RdW w (.slice p xs.length cap) xs) :
    Calls Tryd.prog 5 #[.slice p xs.length cap, .string s] w fun e w' => e = .returned (.bool true) ∧ Below w.heap.size w w' := by
  by_cases hl : 300 < xs.length
  · exact packs_many p _ cap s w hl
  · by_cases hs : 1000 < s.size
    · exact packs_long p _ cap s w (by omega) hs
    · have ht := wbytes_size xs
      exact packs_walk p cap xs s ⟨(wbytes xs).toArray⟩ w (by omega) (by omega) hb h rfl ⟨by omega, by omega⟩ (wordsR_pack xs hb _ rfl)
end Go.Proofs.YtefgaboalbaapaaDoor
