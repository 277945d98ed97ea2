/-
  Words as they lie in memory; the contract of the code's Parse.
-/
import Derived.Test.YtepcpjppogcjbaaDoorDgN
import Derived.Lib.SmallJoins
namespace Go.Proofs.YtepcpjppogcjbaaDoor
open Go.RowKit

/-- The words of a text, as a slice of memory, a block of its own; or none. -/
def RdS (w : World) (v : Value) (xs : List Int) : Prop :=
  ∃ p cap, v = .slice p xs.length cap ∧ xs.length ≤ cap ∧ (xs.length ≠ 0 → ∃ g, p = some ⟨g, 0, none⟩ ∧ g < w.heap.size ∧ ∀ k, k < xs.length → w.cell? ⟨g, k, none⟩ = some (.int .u32 (xs.getD k 0)))
theorem OwnsW.rds {B : Nat} {v : Value} {xs : List Int} {w : World} (h : OwnsW B v xs w) : RdS w v xs := by
  have h0 := h
  unfold OwnsW at h
  rcases h.2 with ⟨hv, hn⟩ | ⟨g, cap, cur, rfl, hb, hg, hc, _⟩
  · exact ⟨none, 0, by rw [hv, hn], by omega, fun q => absurd hn q⟩
  · refine ⟨some ⟨g, 0, none⟩, cap, rfl, hc, fun _ => ⟨g, rfl, (h.lt g rfl).2, fun k hk => ?_⟩⟩
    rw [h.cellAt k (by omega)]
    simp [wCells, List.getD, List.getElem?_eq_getElem hk]
theorem words_rds (s : ByteArray) (w : World) (hs : s.size ≤ 1000000) (h : s.size % 4 = 0) :
    Calls Tryd.prog 38 #[.string s] w fun e w' => ∃ v, e = .returned (.tuple #[v, .int .i64 0]) ∧ RdS w' v (wordsR s.data.toList) ∧ Below w.heap.size w w' :=
  (words_ok s w hs h).mono fun _ _ ⟨v, h1, h2, h3⟩ => ⟨v, h1, h2.rds, h3⟩
/-- The words of sixteen bytes. -/
theorem words_four (s : ByteArray) (d : D4) (w : World) (hs : s.size = 16) (hd : four s.data.toList = d) :
    Calls Tryd.prog 38 #[.string s] w fun e w' => ∃ g cap, e = .returned (.tuple #[.slice (some ⟨g, 0, none⟩) 4 cap, .int .i64 0]) ∧ (w'.cell? ⟨g, 0, none⟩ = some (.int .u32 d.d0) ∧ w'.cell? ⟨g, 1, none⟩ = some (.int .u32 d.d1) ∧ w'.cell? ⟨g, 2, none⟩ = some (.int .u32 d.d2) ∧ w'.cell? ⟨g, 3, none⟩ = some (.int .u32 d.d3)) ∧ 4 ≤ cap ∧ Below w.heap.size w w' := by
  refine (words_rds s w (by omega) (by omega)).mono ?_
  rintro e w' ⟨v, h1, h2, h3⟩
  rw [words16 (by rw [len_listH]; exact hs), hd] at h2
  obtain ⟨p, cap, rfl, hc, hp⟩ := h2
  obtain ⟨g, rfl, _, hk⟩ := hp (by rw [D4.toL_len]; decide)
  rw [D4.toL_len] at hc hk
  exact ⟨g, cap, h1, ⟨hk 0 (by decide), hk 1 (by decide), hk 2 (by decide), hk 3 (by decide)⟩, hc, h3⟩

/-- Room for a digest. -/
theorem start4 (w w0 : World) (h : w.alloc (.cells #[.int .u32 0, .int .u32 0, .int .u32 0, .int .u32 0] 29) = w0) :
    Arr .u32 29 w.heap.size [0, 0, 0, 0] w0 ∧ Below w.heap.size w w0 := by
  subst h
  exact ⟨heap_alloc_new w _, (Below.refl _ _).alloc (Nat.le_refl _) _⟩

set_option maxHeartbeats 3000000 in
theorem cparse_len (s : ByteArray) (w : World) (hn : s.size ≠ 32) : Calls Tryd.prog 21 #[.string s] w fun e w' => e = .returned (.tuple #[(dRead s.data.toList).val, .int .i64 (dErr s.data.toList)]) ∧ Below w.heap.size w w' := by
  have hg : goodD s.data.toList = false := by simp [goodD, hn]
  have HR : Hid (dRead s.data.toList = zeroD ∧ dErr s.data.toList = 3) := by
    show _ ∧ _
    unfold dRead dErr
    rw [hg]; exact ⟨rfl, rfl⟩
  clear hg
  have t1 : ((s.size : Int) != 32) = true := by simp; omega
  obtain ⟨w0, hw0⟩ : ∃ w0, w.alloc (.cells #[.int .u32 0, .int .u32 0, .int .u32 0, .int .u32 0] 29) = w0 := ⟨_, rfl⟩
  obtain ⟨hA, hB⟩ := start4 w w0 hw0
  obtain ⟨b0, b1, b2, b3⟩ := Arr.c4 (d := zeroD) hA
  obtain ⟨f0, f1, f2, f3⟩ := hA.f4
  have hA1 := put4 (d := zeroD) hA rfl
  have hB1 := below_put4 hB (Nat.le_refl _) zeroD
  clear hA hB hn
  go_enter Tryd.func21, Tryd.ntmps21
  go_wp2_with fail
  clear hw0
  simp only [zeroD] at hA1 hB1
  generalize (((w0.setCell ⟨w.heap.size, 0, none⟩ (.int .u32 0)).setCell ⟨w.heap.size, 1, none⟩ (.int .u32 0)).setCell ⟨w.heap.size, 2, none⟩ (.int .u32 0)).setCell ⟨w.heap.size, 3, none⟩ (.int .u32 0) = wf at *
  obtain ⟨r0, r1, r2, r3⟩ := Arr.c4 (d := ⟨0, 0, 0, 0⟩) hA1
  simp only at r0 r1 r2 r3
  refine bodyPost_ret (v := .tuple #[zeroD.val, .int .i64 3]) (by simp [results, Tryd.results21, go_sem, D4.val, zeroD, r0, r1, r2, r3]) rfl ⟨by rw [HR.out.1, HR.out.2], hB1⟩

theorem parse_named (s t : ByteArray) (i f : Int) (w : World) (hs : s.size ≤ 1000000) (hL : HexOk w) (h : t.data.toList = pV s.data.toList ∧ i = pI s.data.toList ∧ f = pE s.data.toList) :
    Calls Tryd.prog 37 #[.string s] w fun e w' => e = .returned (.tuple #[.string t, .int .i64 i, .int .i64 f]) ∧ Below w.heap.size w w' := by
  obtain ⟨h1, rfl, rfl⟩ := h
  rw [show t = ⟨(pV s.data.toList).toArray⟩ by
    rw [← h1]]
  exact hexParse_any s w hs hL
set_option maxHeartbeats 3000000 in
theorem cparse_bad (s : ByteArray) (w : World) (hn : s.size = 32) (hL : HexOk w) (he : pE s.data.toList = 3) : Calls Tryd.prog 21 #[.string s] w fun e w' => e = .returned (.tuple #[(dRead s.data.toList).val, .int .i64 (dErr s.data.toList)]) ∧ Below w.heap.size w w' := by
  have hg : goodD s.data.toList = false := by simp [goodD, he]
  have HR : Hid (dRead s.data.toList = zeroD ∧ dErr s.data.toList = 3) := by
    show _ ∧ _
    unfold dRead dErr
    rw [hg]; exact ⟨rfl, rfl⟩
  clear hg
  have HL := Lib.hid hL
  obtain ⟨t, ht⟩ : ∃ t : ByteArray, t.data.toList = pV s.data.toList := ⟨⟨(pV s.data.toList).toArray⟩, List.toList_toArray⟩
  obtain ⟨i, hi⟩ : ∃ i, i = pI s.data.toList := ⟨_, rfl⟩
  have HS := Lib.hid (show s.size ≤ 1000000 by omega)
  have HP := Lib.hid (show t.data.toList = pV s.data.toList ∧ i = pI s.data.toList ∧ 3 = pE s.data.toList from ⟨ht, hi, he.symm⟩)
  clear ht hi hL he
  have t1 : ((s.size : Int) != 32) = false := by simp; omega
  clear hn
  obtain ⟨w0, hw0⟩ : ∃ w0, w.alloc (.cells #[.int .u32 0, .int .u32 0, .int .u32 0, .int .u32 0] 29) = w0 := ⟨_, rfl⟩
  obtain ⟨hA, hB⟩ := start4 w w0 hw0
  go_enter Tryd.func21, Tryd.ntmps21
  go_wp2_with fail
  clear hw0
  refine (parse_named s t i 3 w0 HS.out (HL.out.below hB) HP.out).mono ?_
  rintro e w1 ⟨rfl, hB1⟩
  have hA2 := hA.on hB1
  have hB2 := hB.trans (hB1.mono hB.size)
  clear hA hB hB1
  obtain ⟨b0, b1, b2, b3⟩ := Arr.c4 (d := zeroD) hA2
  obtain ⟨f0, f1, f2, f3⟩ := hA2.f4
  have hA1 := put4 (d := zeroD) hA2 rfl
  have hB1 := below_put4 hB2 (Nat.le_refl _) zeroD
  go_wp2_with fail
  simp only [zeroD] at hA1 hB1
  generalize (((w1.setCell ⟨w.heap.size, 0, none⟩ (.int .u32 0)).setCell ⟨w.heap.size, 1, none⟩ (.int .u32 0)).setCell ⟨w.heap.size, 2, none⟩ (.int .u32 0)).setCell ⟨w.heap.size, 3, none⟩ (.int .u32 0) = wf at *
  obtain ⟨r0, r1, r2, r3⟩ := Arr.c4 (d := ⟨0, 0, 0, 0⟩) hA1
  simp only at r0 r1 r2 r3
  refine bodyPost_ret (v := .tuple #[zeroD.val, .int .i64 3]) (by simp [results, Tryd.results21, go_sem, D4.val, zeroD, r0, r1, r2, r3]) rfl ⟨by rw [HR.out.1, HR.out.2], hB1⟩
set_option maxHeartbeats 3000000 in
theorem cparse_good (s : ByteArray) (w : World) (hL : HexOk w) (hg : goodD s.data.toList = true) : Calls Tryd.prog 21 #[.string s] w fun e w' => e = .returned (.tuple #[(dRead s.data.toList).val, .int .i64 (dErr s.data.toList)]) ∧ Below w.heap.size w w' := by
  obtain ⟨g1, g2, _, _, g5⟩ := good_len hg
  have hn : s.size = 32 := by rw [← len_listH]; exact g1
  have HL := Lib.hid hL
  obtain ⟨t, ht⟩ : ∃ t : ByteArray, t.data.toList = pV s.data.toList := ⟨⟨(pV s.data.toList).toArray⟩, List.toList_toArray⟩
  have hts : t.size = 16 := by rw [← len_listH, ht]; exact g5
  obtain ⟨i, hi⟩ : ∃ i, i = pI s.data.toList := ⟨_, rfl⟩
  obtain ⟨q, hq⟩ : ∃ q, four t.data.toList = q := ⟨_, rfl⟩
  have hqo : q.ok := by rw [← hq]; exact four_ok _
  obtain ⟨z, hz⟩ : ∃ z, swapD q = z := ⟨_, rfl⟩
  have HR : Hid (dRead s.data.toList = z ∧ dErr s.data.toList = 0) := by
    show _ ∧ _
    unfold dRead dErr
    rw [hg, if_pos rfl, if_pos rfl, ← hz, ← hq, ht]; exact ⟨rfl, rfl⟩
  have HS := Lib.hid (show s.size ≤ 1000000 by omega)
  have HP := Lib.hid (show t.data.toList = pV s.data.toList ∧ i = pI s.data.toList ∧ 0 = pE s.data.toList from ⟨ht, hi, g2.symm⟩)
  have HT := Lib.hid hts
  have HQ := Lib.hid hq
  have HZ := Lib.hid hz
  have HQO := Lib.hid hqo
  clear ht hi hL g1 g2 g5 hts hq hz hg hqo
  have t1 : ((s.size : Int) != 32) = false := by simp; omega
  clear hn
  obtain ⟨w0, hw0⟩ : ∃ w0, w.alloc (.cells #[.int .u32 0, .int .u32 0, .int .u32 0, .int .u32 0] 29) = w0 := ⟨_, rfl⟩
  obtain ⟨hA, hB⟩ := start4 w w0 hw0
  go_enter Tryd.func21, Tryd.ntmps21
  go_wp2_with fail
  clear hw0
  refine (parse_named s t i 0 w0 HS.out (HL.out.below hB) HP.out).mono ?_
  rintro e w1 ⟨rfl, hB1⟩
  have hA2 := hA.on hB1
  have hB2 := hB.trans (hB1.mono hB.size)
  clear hA hB hB1
  go_wp2_with fail
  refine (words_four t q w1 HT.out HQ.out).mono ?_
  rintro e w2 ⟨g, cap, rfl, ⟨k0, k1, k2, k3⟩, hc, hB3⟩
  have hA3 := hA2.on hB3
  have hB4 := hB2.trans (hB3.mono hB2.size)
  clear hA2 hB2 hB3
  have har := run_arrayAt (P := Tryd.prog) (w := w2) 29 22 4 (some ⟨g, 0, none⟩) 4 cap Tryd.underlying29 (by decide)
  go_wp2_with fail
  refine (swap_any q w2 HQO.out).mono ?_
  rw [HZ.out]
  simp only [D4.val]
  rintro e w3 ⟨rfl, hB5⟩
  clear har
  have hA5 := hA3.on hB5
  have hB6 := hB4.trans (hB5.mono hB4.size)
  clear hA3 hB4 hB5
  obtain ⟨b0, b1, b2, b3⟩ := Arr.c4 (d := zeroD) hA5
  obtain ⟨f0, f1, f2, f3⟩ := hA5.f4
  have hA1 := put4 (d := z) hA5 rfl
  have hB1 := below_put4 hB6 (Nat.le_refl _) z
  go_wp2_with fail
  generalize (((w3.setCell ⟨w.heap.size, 0, none⟩ (.int .u32 z.d0)).setCell ⟨w.heap.size, 1, none⟩ (.int .u32 z.d1)).setCell ⟨w.heap.size, 2, none⟩ (.int .u32 z.d2)).setCell ⟨w.heap.size, 3, none⟩ (.int .u32 z.d3) = wf at *
  obtain ⟨r0, r1, r2, r3⟩ := hA1.c4
  refine bodyPost_ret (v := .tuple #[z.val, .int .i64 0]) (by simp [results, Tryd.results21, go_sem, D4.val, r0, r1, r2, r3]) rfl ⟨by rw [HR.out.1, HR.out.2], hB1⟩
theorem cparse_any (s : ByteArray) (w : World) (hL : HexOk w) : Calls Tryd.prog 21 #[.string s] w fun e w' => e = .returned (.tuple #[(dRead s.data.toList).val, .int .i64 (dErr s.data.toList)]) ∧ Below w.heap.size w w' := by
  by_cases h : goodD s.data.toList = true
  · exact cparse_good s w hL h
  · by_cases hn : s.size = 32
    · refine cparse_bad s w hn hL ?_
      rcases pE_cases s.data.toList with q | q
      · exact absurd (by simp [goodD, q, hn]) h
      · exact q
    · exact cparse_len s w hn
end Go.Proofs.YtepcpjppogcjbaaDoor
