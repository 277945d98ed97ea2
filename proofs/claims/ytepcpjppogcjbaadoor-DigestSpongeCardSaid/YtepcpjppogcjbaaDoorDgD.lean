/-
  The contract of the code's takeAll: whole blocks, taken in.
-/
import Derived.Test.YtepcpjppogcjbaaDoorDgB
import Derived.Test.YtepcpjppogcjbaaDoorDgO
import Derived.StillTailTactics
namespace Go.Proofs.YtepcpjppogcjbaaDoor
open Go.RowKit

def lenOf : Value → Nat
  | .slice _ n _ => n
  | _ => 0
theorem OwnsW.form {B : Nat} {v : Value} {xs : List Int} {w : World} (h : OwnsW B v xs w) : ∃ p cap g, v = .slice p xs.length cap ∧ xs.length ≤ cap ∧ cap ≤ maxLen ∧ (xs.length ≠ 0 → p = some ⟨g, 0, none⟩ ∧ B ≤ g ∧ g < w.heap.size ∧ ∀ k, k < xs.length → w.cell? ⟨g, k, none⟩ = some (.int .u32 (xs.getD k 0))) := by
  have h0 := h
  unfold OwnsW at h
  rcases h.2 with ⟨hv, hn⟩ | ⟨g, cap, cur, rfl, hb, hg, hc, hm, _⟩
  · exact ⟨none, 0, 0, by rw [hv, hn], by omega, by unfold maxLen; omega, fun q => absurd hn q⟩
  · refine ⟨some ⟨g, 0, none⟩, cap, g, rfl, hc, hm, fun _ => ⟨rfl, hb, (h.lt g rfl).2, fun k hk => ?_⟩⟩
    rw [h.cellAt k (by omega)]
    simp [wCells, List.getD, List.getElem?_eq_getElem hk]
theorem drop_four (xs : List Int) (j : Nat) (h : 4 * j + 4 ≤ xs.length) : xs.drop (4 * j) = xs.getD (4 * j) 0 :: xs.getD (4 * j + 1) 0 :: xs.getD (4 * j + 2) 0 :: xs.getD (4 * j + 3) 0 :: xs.drop (4 * (j + 1)) := by
  rw [List.drop_eq_getElem_cons (by omega), List.drop_eq_getElem_cons (by omega), List.drop_eq_getElem_cons (by omega), List.drop_eq_getElem_cons (by omega)]
  simp [List.getD, List.getElem?_eq_getElem (show 4 * j < xs.length by omega), List.getElem?_eq_getElem (show 4 * j + 1 < xs.length by omega), List.getElem?_eq_getElem (show 4 * j + 2 < xs.length by omega), List.getElem?_eq_getElem (show 4 * j + 3 < xs.length by omega), show 4 * j + 3 + 1 = 4 * (j + 1) by omega]

set_option maxHeartbeats 4000000 in
theorem ctakeAll_any (s : S8) (t : ByteArray) (w : World) (hs : s.ok) (ht : t.size ≤ 1000000) (h16 : t.size % 16 = 0) (hT : TurnsOk w) : Calls Tryd.prog 28 #[s.val, .string t] w fun e w' => e = .returned (absorb s (wordsR t.data.toList)).val ∧ Below w.heap.size w w' := by
  have HT := Lib.hid hT
  clear hT
  have HW := Lib.hid (words_ok t · ht (by omega))
  have hxn := wordsR_length t.data.toList
  have hxo := wordsR_ok t.data.toList
  rw [len_listH] at hxn
  generalize wordsR t.data.toList = xs at *
  obtain ⟨N, hN⟩ : ∃ N, xs.length = 4 * N := ⟨t.size / 16, by omega⟩
  have HN := Lib.hid hN
  have hN1 : N ≤ 100000 := by omega
  have HXO := Lib.hid hxo
  clear hxn hxo h16 ht hN
  obtain ⟨w0, hw0⟩ : ∃ w0, (w.alloc (.cells #[.int .u32 s.x0, .int .u32 s.x1, .int .u32 s.x2, .int .u32 s.x3, .int .u32 s.x4, .int .u32 s.x5, .int .u32 s.x6, .int .u32 s.x7] 23)).alloc (.cells #[.int .u32 0, .int .u32 0, .int .u32 0, .int .u32 0, .int .u32 0, .int .u32 0, .int .u32 0, .int .u32 0] 23) = w0 := ⟨_, rfl⟩
  obtain ⟨hA0, hR0, hB0⟩ := start2 s w w0 hw0
  go_enter Tryd.func28, Tryd.ntmps28
  simp only [S8.val]
  go_wp2_with fail
  clear hw0
  refine (HW.out w0).mono ?_
  rintro e w1 ⟨v, rfl, hv, hC⟩
  obtain ⟨p, cap, g, rfl, hcap, hmx, hg⟩ := hv.form
  have hA1 := hA0.on hC
  have hR1 := hR0.on hC
  have hB1 := hB0.trans (hC.mono hB0.size)
  have hw0g := hA0.lt
  have HG : Hid (0 < N → p = some ⟨g, 0, none⟩ ∧ w.heap.size < g ∧ g < w1.heap.size ∧ ∀ k, k < xs.length → w1.cell? ⟨g, k, none⟩ = some (.int .u32 (xs.getD k 0))) := fun h => by
    obtain ⟨h1, h2, h3, h4⟩ := hg (by rw [HN.out]; omega)
    exact ⟨h1, by omega, h3, h4⟩
  unfold maxLen at hmx
  rw [HN.out] at hcap
  rw [HN.out]
  clear hg hv hC hA0 hR0 hB0 HW hw0g
  go_wp2_with fail
  go_loopw [5] (fun v wr => ∃ (j b c : Nat) (p : Option Addr) (x : S8), j + b = N ∧ v = .slice p ((4 * b : Nat)) c ∧ 4 * b ≤ c ∧ c ≤ cap ∧ Hid (0 < b → p = some ⟨g, 4 * j, none⟩) ∧ Hid (0 < b → wr.heap[g]? = w1.heap[g]?) ∧ x.ok ∧ Hid (absorb x (xs.drop (4 * j)) = absorb s xs) ∧ Arr .u32 23 w.heap.size x.toL wr ∧ Arr .u32 23 (w.heap.size + 1) [0, 0, 0, 0, 0, 0, 0, 0] wr ∧ Below w.heap.size w wr) (fun v _ => lenOf v)
  case atStart => exact ⟨0, N, cap, p, s, by omega, rfl, hcap, Nat.le_refl _, fun h => (HG.out h).1, fun _ => rfl, hs, rfl, hA1, hR1, hB1⟩
  case round =>
    clear hA1 hR1 hB1
    obtain ⟨j, b, c, p2, x, hjb, rfl, hbc, hcc, HP, HH, hx, HX, hA, hR, hB⟩ := hrel
    by_cases hb : 0 < b
    · obtain ⟨g1, g2, g3, g4⟩ := HG.out (by omega)
      obtain rfl := HP.out hb
      have hlen : 4 * j + 4 ≤ xs.length := by have := HN.out; omega
      have HD := Lib.hid (drop_four xs j hlen)
      have cl : ∀ k, k < xs.length → wr.cell? ⟨g, k, none⟩ = some (.int .u32 (xs.getD k 0)) := fun k hk => by
        rw [World.cell?_of_block (w := w1) (HH.out hb)]
        exact g4 k hk
      have k0 := cl (4 * j) (by omega)
      have k1 := cl (4 * j + 1) (by omega)
      have k2 := cl (4 * j + 2) (by omega)
      have k3 := cl (4 * j + 3) (by omega)
      have hd : (⟨xs.getD (4 * j) 0, xs.getD (4 * j + 1) 0, xs.getD (4 * j + 2) 0, xs.getD (4 * j + 3) 0⟩ : D4).ok := ⟨(allW.get HXO.out _), (allW.get HXO.out _), (allW.get HXO.out _), (allW.get HXO.out _)⟩
      generalize xs.getD (4 * j) 0 = d0 at *
      generalize xs.getD (4 * j + 1) 0 = d1 at *
      generalize xs.getD (4 * j + 2) 0 = d2 at *
      generalize xs.getD (4 * j + 3) 0 = d3 at *
      have hng : w.heap.size ≠ g := by omega
      clear cl g4 g1
      obtain ⟨b1, rfl⟩ : ∃ b1, b = b1 + 1 := ⟨b - 1, by omega⟩
      have har := fun W => run_arrayAt (P := Tryd.prog) (w := W) 28 22 4 (some ⟨g, 4 * j, none⟩) (4 * (b1 + 1)) c Tryd.underlying28 (by omega)
      obtain ⟨t0, t1, t2, t3, t4, t5, t6, t7⟩ := hA.c8
      have hbd : decide ((0 : Int) < ((4 * (b1 + 1) : Nat) : Int)) = true := by simp; omega
      clear hb
      go_wp2_with fail
      go_still_tail 4, (by kernel_rfl)
      change wpList _ _ _ _ _ wr.drew
      obtain ⟨wd, hwd⟩ : ∃ wd, wr.drew = wd := ⟨_, rfl⟩
      have hAd : Arr .u32 23 w.heap.size x.toL wd := by rw [← hwd]; exact hA
      have hRd : Arr .u32 23 (w.heap.size + 1) [0, 0, 0, 0, 0, 0, 0, 0] wd := by rw [← hwd]; exact hR
      have hBd : Below w.heap.size w wd := by rw [← hwd]; exact hB.drew
      have HHd : Hid (wd.heap[g]? = w1.heap[g]?) := by show _ = _; rw [← hwd]; exact HH.out (by omega)
      have HTd := Lib.hid (HT.out.below hBd)
      rw [hwd]
      clear hwd t0 t1 t2 t3 t4 t5 t6 t7 k0 k1 k2 k3 hA hR hB HH har hbd
      obtain ⟨y, hy⟩ : ∃ y, takeS x ⟨d0, d1, d2, d3⟩ = y := ⟨_, rfl⟩
      have hyo : y.ok := by rw [← hy]; exact takeS_ok hx hd
      have HY : Hid (absorb y (xs.drop (4 * (j + 1))) = absorb s xs) := by
        show _ = _
        rw [← hy, ← HX.out, HD.out]
        exact (absorb_four x ⟨d0, d1, d2, d3⟩ _).symm
      have HCK := Lib.hid (ctake_any x ⟨d0, d1, d2, d3⟩ wd hx hd HTd.out)
      rw [hy] at HCK
      clear hy HX
      go_wp2_with fail
      refine (HCK.out).mono ?_
      simp only [S8.val]
      rintro e w2 ⟨rfl, hC⟩
      clear HCK
      have hgd : g < wd.heap.size := by
        rcases Nat.lt_or_ge g wd.heap.size with q | q
        · exact q
        · have e := HHd.out
          rw [Array.getElem?_eq_none q] at e
          have := Array.getElem?_eq_getElem g3
          rw [← e] at this; cases this
      have hA2 := hAd.on hC
      have hR2 := hRd.on hC
      have hB2 := hBd.trans (hC.mono hBd.size)
      have HH2 : Hid (w2.heap[g]? = w1.heap[g]?) := by show _ = _; rw [hC.block g hgd]; exact HHd.out
      clear hAd hRd hBd HHd hC hgd
      obtain ⟨t0, t1, t2, t3, t4, t5, t6, t7⟩ := hA2.c8
      obtain ⟨f0, f1, f2, f3, f4, f5, f6, f7⟩ := hA2.f8
      have hA3 := put8 (y := y) hA2 rfl
      have hR3 := far8 hR2 (by simp : w.heap.size + 1 ≠ w.heap.size) y
      have hB3 := below_put8 hB2 (Nat.le_refl _) y
      have HH3 : Hid (((((((((w2.setCell ⟨w.heap.size, 0, none⟩ (.int .u32 y.x0)).setCell ⟨w.heap.size, 1, none⟩ (.int .u32 y.x1)).setCell ⟨w.heap.size, 2, none⟩ (.int .u32 y.x2)).setCell ⟨w.heap.size, 3, none⟩ (.int .u32 y.x3)).setCell ⟨w.heap.size, 4, none⟩ (.int .u32 y.x4)).setCell ⟨w.heap.size, 5, none⟩ (.int .u32 y.x5)).setCell ⟨w.heap.size, 6, none⟩ (.int .u32 y.x6)).setCell ⟨w.heap.size, 7, none⟩ (.int .u32 y.x7)).heap[g]? = w1.heap[g]?) := by
        show _ = _
        rw [heap_setCell_other _ _ _ _ hng.symm, heap_setCell_other _ _ _ _ hng.symm, heap_setCell_other _ _ _ _ hng.symm, heap_setCell_other _ _ _ _ hng.symm, heap_setCell_other _ _ _ _ hng.symm, heap_setCell_other _ _ _ _ hng.symm, heap_setCell_other _ _ _ _ hng.symm, heap_setCell_other _ _ _ _ hng.symm]
        exact HH2.out
      clear hA2 hR2 hB2 HH2
      by_cases hc4 : c = 4
      · subst hc4
        have hb0 : b1 = 0 := by omega
        subst hb0
        go_wp2_with fail
        go_roundw
        case rel => exact ⟨j + 1, 0, 0, _, y, by omega, rfl, by omega, by omega, fun h => by omega, fun h => by omega, hyo, HY, hA3, hR3, hB3⟩
        case measure => simp [lenOf]
      · have hc1 : 4 < c := by omega
        go_wp2_with fail
        go_roundw
        case rel => exact ⟨j + 1, b1, c - 4, some ⟨g, 4 * (j + 1), none⟩, y, by omega, by rw [show 4 * (b1 + 1) - 4 = 4 * b1 by omega, show 4 * j + 4 = 4 * (j + 1) by omega], by omega, by omega, fun _ => rfl, fun _ => HH3.out, hyo, HY, hA3, hR3, hB3⟩
        case measure => simp [lenOf]; omega
    · have hb0 : b = 0 := by omega
      subst hb0
      have HE : Hid (absorb s xs = x) := by
        show _ = _
        rw [← HX.out, List.drop_eq_nil_of_le (by have := HN.out; omega), absorb_nil]
      clear HX HP HH
      obtain ⟨t0, t1, t2, t3, t4, t5, t6, t7⟩ := hA.c8
      obtain ⟨b0, b1, b2, b3, b4, b5, b6, b7⟩ := Arr.c8 (y := zeroS) hR
      obtain ⟨f0, f1, f2, f3, f4, f5, f6, f7⟩ := hR.f8
      have hRf := put8 (y := x) hR rfl
      have hBf := below_put8 hB (Nat.le_succ _) x
      clear hA hR hB
      go_wp2_with fail
      generalize ((((((((wr.setCell ⟨w.heap.size + 1, 0, none⟩ (.int .u32 x.x0)).setCell ⟨w.heap.size + 1, 1, none⟩ (.int .u32 x.x1)).setCell ⟨w.heap.size + 1, 2, none⟩ (.int .u32 x.x2)).setCell ⟨w.heap.size + 1, 3, none⟩ (.int .u32 x.x3)).setCell ⟨w.heap.size + 1, 4, none⟩ (.int .u32 x.x4)).setCell ⟨w.heap.size + 1, 5, none⟩ (.int .u32 x.x5)).setCell ⟨w.heap.size + 1, 6, none⟩ (.int .u32 x.x6)).setCell ⟨w.heap.size + 1, 7, none⟩ (.int .u32 x.x7)) = wf at *
      obtain ⟨r0, r1, r2, r3, r4, r5, r6, r7⟩ := hRf.c8
      refine bodyPost_ret (v := x.val) (by simp [results, Tryd.results28, go_sem, S8.val, r0, r1, r2, r3, r4, r5, r6, r7]) rfl ⟨by rw [HE.out]; rfl, hBf⟩
end Go.Proofs.YtepcpjppogcjbaaDoor
