/-
  The layer's contracts and the document's, with their answers named: what the laws' walks call.
-/
import Derived.Test.YtcgaloaagalnbaaDoorHxC
namespace Go.Proofs.YtcgaloaagalnbaaDoor
open Go.RowKit

theorem ext_list {a b : ByteArray} (h : a.data.toList = b.data.toList) : a = b := by
  cases a; cases b
  exact congrArg ByteArray.mk (Array.toList_inj.mp h)
theorem mk_eq {a : ByteArray} {l : List UInt8} (h : a.data.toList = l) : a = ⟨l.toArray⟩ := by
  subst h; exact ext_list rfl
theorem textH_val (s t : ByteArray) (w : World) (hs : s.size ≤ 1000000) (hL : HexOk w) (ht : t.data.toList = textL s.data.toList) :
    Calls Tryd.prog 11 #[.string s] w fun e w' => e = .returned (.string t) ∧ Below w.heap.size w w' := by
  rw [mk_eq ht]; exact hexText_any s w hs hL
theorem loadH_val (s t : ByteArray) (w : World) (hs : s.size ≤ 1000000) (hL : HexOk w) (ht : t.data.toList = loadL s.data.toList) :
    Calls Tryd.prog 16 #[.string s] w fun e w' => e = .returned (.string t) ∧ Below w.heap.size w w' := by
  rw [mk_eq ht]; exact hexLoad_any s w hs hL
theorem dumpH_val (s t : ByteArray) (w : World) (hs : s.size ≤ 100000) (hL : HexOk w) (ht : t.data.toList = dumpL s.data.toList) :
    Calls Tryd.prog 18 #[.string s] w fun e w' => e = .returned (.string t) ∧ Below w.heap.size w w' := by
  rw [mk_eq ht]; exact hexDump_any s w hs hL
theorem parseH_val (s t : ByteArray) (i f : Int) (w : World) (hs : s.size ≤ 1000000) (hL : HexOk w) (h : t.data.toList = pV s.data.toList ∧ i = pI s.data.toList ∧ f = pE s.data.toList) :
    Calls Tryd.prog 12 #[.string s] w fun e w' => e = .returned (.tuple #[.string t, .int .i64 i, .int .i64 f]) ∧ Below w.heap.size w w' := by
  rw [mk_eq h.1, h.2.1, h.2.2]; exact hexParse_any s w hs hL
theorem textR_val (s t : ByteArray) (w : World) (hs : s.size ≤ 1000000) (ht : t.data.toList = textL s.data.toList) :
    Calls Tryd.prog 14 #[.string s] w fun e w' => e = .returned (.string t) ∧ Below w.heap.size w w' := by
  rw [mk_eq ht]; exact refText_hex s w hs
theorem loadR_val (s t : ByteArray) (w : World) (hs : s.size ≤ 1000000) (ht : t.data.toList = loadL s.data.toList) :
    Calls Tryd.prog 17 #[.string s] w fun e w' => e = .returned (.string t) ∧ Below w.heap.size w w' := by
  rw [mk_eq ht]; exact refLoad_any s w hs
theorem dumpR_val (s t : ByteArray) (w : World) (hs : s.size ≤ 100000) (ht : t.data.toList = dumpL s.data.toList) :
    Calls Tryd.prog 19 #[.string s] w fun e w' => e = .returned (.string t) ∧ Below w.heap.size w w' := by
  rw [mk_eq ht]; exact refDump_any s w hs
theorem parseR_val (s t : ByteArray) (i f : Int) (w : World) (hs : s.size ≤ 1000000) (h : t.data.toList = pV s.data.toList ∧ i = pI s.data.toList ∧ f = pE s.data.toList) :
    Calls Tryd.prog 15 #[.string s] w fun e w' => e = .returned (.tuple #[.string t, .int .i64 i, .int .i64 f]) ∧ Below w.heap.size w w' := by
  rw [mk_eq h.1, h.2.1, h.2.2]; exact refParse_hex s w hs

/-! What parsing makes of digits in pairs. -/
theorem parse_digitsE {l : List UInt8} (h : ∀ c ∈ l, dgt c ≠ 16) (h2 : l.length % 2 = 0) : pV l = loadL l ∧ pI l = 0 ∧ pE l = 0 := parse_even ((badP_all l).mpr h) h2
theorem parse_textL (l : List UInt8) : pV (textL l) = l ∧ pI (textL l) = 0 ∧ pE (textL l) = 0 := by
  have h := parse_digitsE (textL_digits l) (by rw [textL_len]; omega)
  rw [load_text] at h
  exact h
theorem parse_greatL (l : List UInt8) : pV ((textL l).map greatC) = l ∧ pI ((textL l).map greatC) = 0 ∧ pE ((textL l).map greatC) = 0 := by
  have h := parse_digitsE (great_digits _ (textL_digits l)) (by rw [List.length_map, textL_len]; omega)
  have e : loadL ((textL l).map greatC) = l := by
    show ldF false 16 _ = l
    rw [ld_great _ (textL_digits l) 16]
    exact load_text l
  rw [e] at h
  exact h

/-! The document's examples: awake answers true. -/
set_option maxHeartbeats 1000000 in
theorem awakeH_any (w : World) (hL0 : HexOk w) : Calls Tryd.prog 10 #[] w fun e w' => e = .returned (.bool true) ∧ Below w.heap.size w w' := by
  have hL := Lib.hid hL0
  clear hL0
  go_enter Tryd.func10, Tryd.ntmps10
  go_wp2_with fail
  refine (parseH_val ⟨#[52, 49, 55, 65]⟩ ⟨#[65, 122]⟩ 0 0 _ (by decide) hL.out (by decide)).mono ?_
  rintro e w1 ⟨rfl, hB⟩
  have hL1 := Lib.hid (hL.out.below hB)
  go_wp2_with fail
  refine (parseH_val ⟨#[52, 49, 32, 55, 97]⟩ ⟨#[]⟩ 2 3 _ (by decide) hL1.out (by decide)).mono ?_
  rintro e w2 ⟨rfl, hB2⟩
  have hL2 := Lib.hid (hL1.out.below hB2)
  go_wp2_with fail
  refine (textH_val ⟨#[65, 122]⟩ ⟨#[52, 49, 55, 97]⟩ _ (by decide) hL2.out (by decide)).mono ?_
  rintro e w3 ⟨rfl, hB3⟩
  have hL3 := Lib.hid (hL2.out.below hB3)
  go_wp2_with fail
  refine (loadH_val _ ⟨#[65, 122]⟩ _ (by decide) hL3.out (by decide)).mono ?_
  rintro e w4 ⟨rfl, hB4⟩
  have hL4 := Lib.hid (hL3.out.below hB4)
  go_wp2_with fail
  refine (dumpH_val ⟨#[65, 122]⟩ ⟨#[52, 49, 32, 55, 97, 32, 32, 35, 32, 48, 10]⟩ _ (by decide) hL4.out (by simp [dumpL, dpF, Lib.decDigits]; decide)).mono ?_
  rintro e w5 ⟨rfl, hB5⟩
  have hW : Below w.heap.size w w5 := hB.trans ((hB2.trans ((hB3.trans ((hB4.trans (hB5.mono hB4.size)).mono hB3.size)).mono hB2.size)).mono hB.size)
  clear hB hB2 hB3 hB4 hB5
  go_wp2_with fail
  go_ret
  exact ⟨rfl, hW⟩
end Go.Proofs.YtcgaloaagalnbaaDoor
