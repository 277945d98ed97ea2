/-
  The law's helper: a block taken in, by the layer's own Mix.
-/
import Derived.Test.YtepcpjppogcjbaaDoorDgC
namespace Go.Proofs.YtepcpjppogcjbaaDoor
open Go.RowKit

set_option maxHeartbeats 4000000 in
theorem took_any (s : S8) (d : D4) (w : World) (hs : s.ok) (hd : d.ok) (hL : DgOk w) : Calls Tryd.prog 24 #[s.val, d.val] w fun e w' => e = .returned (takeS s d).val ∧ Below w.heap.size w w' := by
  have HL0 := Lib.hid hL
  clear hL
  go_enter Tryd.func24, Tryd.ntmps24
  simp only [S8.val, D4.val]
  go_wp2_with fail
  go_loopw [5] (fun i wr => ∃ k : Nat, k ≤ 4 ∧ i = .int .i64 k ∧ Arr .u32 23 w.heap.size (xorP s.toL d.toL k) wr ∧ Arr .u32 28 (w.heap.size + 1) d.toL wr ∧ Arr .u32 23 (w.heap.size + 1 + 1) [0, 0, 0, 0, 0, 0, 0, 0] wr ∧ Below w.heap.size w wr) (fun i _ => 4 - (intOf i).toNat)
  case atStart =>
    have a1 : (w.alloc (.cells #[.int .u32 s.x0, .int .u32 s.x1, .int .u32 s.x2, .int .u32 s.x3, .int .u32 s.x4, .int .u32 s.x5, .int .u32 s.x6, .int .u32 s.x7] 23)).heap.size = w.heap.size + 1 := by simp
    have a2 : ((w.alloc (.cells #[.int .u32 s.x0, .int .u32 s.x1, .int .u32 s.x2, .int .u32 s.x3, .int .u32 s.x4, .int .u32 s.x5, .int .u32 s.x6, .int .u32 s.x7] 23)).alloc (.cells #[.int .u32 d.d0, .int .u32 d.d1, .int .u32 d.d2, .int .u32 d.d3] 28)).heap.size = w.heap.size + 1 + 1 := by simp
    refine ⟨0, by omega, rfl, ?_, ?_, ?_, ?_⟩
    · exact ((show Arr .u32 23 w.heap.size s.toL (w.alloc (.cells #[.int .u32 s.x0, .int .u32 s.x1, .int .u32 s.x2, .int .u32 s.x3, .int .u32 s.x4, .int .u32 s.x5, .int .u32 s.x6, .int .u32 s.x7] 23)) from heap_alloc_new w _).al _).al _
    · have h : Arr .u32 28 (w.alloc (.cells #[.int .u32 s.x0, .int .u32 s.x1, .int .u32 s.x2, .int .u32 s.x3, .int .u32 s.x4, .int .u32 s.x5, .int .u32 s.x6, .int .u32 s.x7] 23)).heap.size d.toL ((w.alloc (.cells #[.int .u32 s.x0, .int .u32 s.x1, .int .u32 s.x2, .int .u32 s.x3, .int .u32 s.x4, .int .u32 s.x5, .int .u32 s.x6, .int .u32 s.x7] 23)).alloc (.cells #[.int .u32 d.d0, .int .u32 d.d1, .int .u32 d.d2, .int .u32 d.d3] 28)) := heap_alloc_new (w.alloc (.cells #[.int .u32 s.x0, .int .u32 s.x1, .int .u32 s.x2, .int .u32 s.x3, .int .u32 s.x4, .int .u32 s.x5, .int .u32 s.x6, .int .u32 s.x7] 23)) _
      rw [a1] at h
      exact h.al _
    · have h : Arr .u32 23 ((w.alloc (.cells #[.int .u32 s.x0, .int .u32 s.x1, .int .u32 s.x2, .int .u32 s.x3, .int .u32 s.x4, .int .u32 s.x5, .int .u32 s.x6, .int .u32 s.x7] 23)).alloc (.cells #[.int .u32 d.d0, .int .u32 d.d1, .int .u32 d.d2, .int .u32 d.d3] 28)).heap.size [0, 0, 0, 0, 0, 0, 0, 0] (((w.alloc (.cells #[.int .u32 s.x0, .int .u32 s.x1, .int .u32 s.x2, .int .u32 s.x3, .int .u32 s.x4, .int .u32 s.x5, .int .u32 s.x6, .int .u32 s.x7] 23)).alloc (.cells #[.int .u32 d.d0, .int .u32 d.d1, .int .u32 d.d2, .int .u32 d.d3] 28)).alloc (.cells #[.int .u32 0, .int .u32 0, .int .u32 0, .int .u32 0, .int .u32 0, .int .u32 0, .int .u32 0, .int .u32 0] 23)) := heap_alloc_new ((w.alloc (.cells #[.int .u32 s.x0, .int .u32 s.x1, .int .u32 s.x2, .int .u32 s.x3, .int .u32 s.x4, .int .u32 s.x5, .int .u32 s.x6, .int .u32 s.x7] 23)).alloc (.cells #[.int .u32 d.d0, .int .u32 d.d1, .int .u32 d.d2, .int .u32 d.d3] 28)) _
      rw [a2] at h
      exact h
    · exact (((Below.refl _ _).alloc (Nat.le_refl _) _).alloc (by rw [a1]; omega) _).alloc (by rw [a2]; omega) _
  case round =>
    obtain ⟨k, hk, rfl, hA, hD, hR, hB⟩ := hrel
    by_cases hlt : k < 4
    · have hkd : decide ((k : Int) < 4) = true := by simp; omega
      have hMn : (xorP s.toL d.toL k).length = 8 := by rw [xorP_len]; rfl
      have hMo := xorP_ok (S8.toL_ok hs) (D4.toL_ok hd) k
      have hDn : d.toL.length = 4 := rfl
      obtain ⟨a, ha⟩ : ∃ a, (xorP s.toL d.toL k).getD k 0 = a := ⟨_, rfl⟩
      obtain ⟨b, hb⟩ : ∃ b, d.toL.getD k 0 = b := ⟨_, rfl⟩
      have haw : isW a := by rw [← ha]; exact hMo.get k
      have hbw : isW b := by rw [← hb]; exact (D4.toL_ok hd).get k
      have HP : Hid (xorP s.toL d.toL (k + 1) = (xorP s.toL d.toL k).set k (bits .xor .u32 a b)) := by
        show _ = _
        rw [xorP, ha, hb, bits_xw haw hbw]
      generalize xorP s.toL d.toL k = M at *
      have hc1 : wr.cell? ⟨w.heap.size, k, none⟩ = some (.int .u32 a) := by rw [← ha]; exact hA.cell (by omega)
      have hc2 : wr.cell? ⟨w.heap.size + 1, k, none⟩ = some (.int .u32 b) := by rw [← hb]; exact hD.cell (by omega)
      have hf1 := hA.fz k
      have hA1 := hA.set k (bits .xor .u32 a b)
      have hD1 := hD.far (a := ⟨w.heap.size, k, none⟩) (by simp) (.int .u32 (bits .xor .u32 a b))
      have hR1 := hR.far (a := ⟨w.heap.size, k, none⟩) (by show w.heap.size + 1 + 1 ≠ w.heap.size; omega) (.int .u32 (bits .xor .u32 a b))
      have hB1 := hB.setCell (p := ⟨w.heap.size, k, none⟩) (Nat.le_refl _) (.int .u32 (bits .xor .u32 a b))
      rw [← HP.out] at hA1
      go_wp2_with fail
      go_region
      go_wp2_with fail
      go_roundw
      case rel => exact ⟨k + 1, by omega, by go_num, hA1, hD1, hR1, hB1.drew⟩
      case measure => simp [intOf]; omega
    · have hk4 : k = 4 := by omega
      subst hk4
      obtain ⟨z, hz⟩ : ∃ z, xorS s d = z := ⟨_, rfl⟩
      have hzo : z.ok := by rw [← hz]; exact xorS_ok hs hd
      rw [xorP_list, hz] at hA
      have HZ : Hid (takeS s d = mixN 8 z) := by show _ = _; rw [takeS, hz]
      clear hz
      have t0 : wr.cell? ⟨w.heap.size, 0, none⟩ = some (.int .u32 z.x0) := hA.cell (j := 0) (by rw [S8.toL_len]; decide)
      have t1 : wr.cell? ⟨w.heap.size, 1, none⟩ = some (.int .u32 z.x1) := hA.cell (j := 1) (by rw [S8.toL_len]; decide)
      have t2 : wr.cell? ⟨w.heap.size, 2, none⟩ = some (.int .u32 z.x2) := hA.cell (j := 2) (by rw [S8.toL_len]; decide)
      have t3 : wr.cell? ⟨w.heap.size, 3, none⟩ = some (.int .u32 z.x3) := hA.cell (j := 3) (by rw [S8.toL_len]; decide)
      have t4 : wr.cell? ⟨w.heap.size, 4, none⟩ = some (.int .u32 z.x4) := hA.cell (j := 4) (by rw [S8.toL_len]; decide)
      have t5 : wr.cell? ⟨w.heap.size, 5, none⟩ = some (.int .u32 z.x5) := hA.cell (j := 5) (by rw [S8.toL_len]; decide)
      have t6 : wr.cell? ⟨w.heap.size, 6, none⟩ = some (.int .u32 z.x6) := hA.cell (j := 6) (by rw [S8.toL_len]; decide)
      have t7 : wr.cell? ⟨w.heap.size, 7, none⟩ = some (.int .u32 z.x7) := hA.cell (j := 7) (by rw [S8.toL_len]; decide)
      go_wp2_with fail
      refine (digestMix_any z _ hzo (HL0.out.below hB)).mono ?_
      obtain ⟨y, hy⟩ : ∃ y, mixN 8 z = y := ⟨_, rfl⟩
      rw [hy]
      rw [hy] at HZ
      simp only [S8.val]
      rintro e w1 ⟨rfl, hBm⟩
      have hB1 := hB.trans (hBm.mono hB.size)
      have hR1 : Arr .u32 23 (w.heap.size + 1 + 1) [0, 0, 0, 0, 0, 0, 0, 0] w1 := by
        unfold Arr
        rw [hBm.block _ hR.lt]
        exact hR
      clear hA hD hB hBm hR t0 t1 t2 t3 t4 t5 t6 t7
      have b0 : w1.cell? ⟨w.heap.size + 1 + 1, 0, none⟩ = some (.int .u32 0) := hR1.cell (j := 0) (by decide)
      have f0 := hR1.fz 0
      have b1 : w1.cell? ⟨w.heap.size + 1 + 1, 1, none⟩ = some (.int .u32 0) := hR1.cell (j := 1) (by decide)
      have f1 := hR1.fz 1
      have b2 : w1.cell? ⟨w.heap.size + 1 + 1, 2, none⟩ = some (.int .u32 0) := hR1.cell (j := 2) (by decide)
      have f2 := hR1.fz 2
      have b3 : w1.cell? ⟨w.heap.size + 1 + 1, 3, none⟩ = some (.int .u32 0) := hR1.cell (j := 3) (by decide)
      have f3 := hR1.fz 3
      have b4 : w1.cell? ⟨w.heap.size + 1 + 1, 4, none⟩ = some (.int .u32 0) := hR1.cell (j := 4) (by decide)
      have f4 := hR1.fz 4
      have b5 : w1.cell? ⟨w.heap.size + 1 + 1, 5, none⟩ = some (.int .u32 0) := hR1.cell (j := 5) (by decide)
      have f5 := hR1.fz 5
      have b6 : w1.cell? ⟨w.heap.size + 1 + 1, 6, none⟩ = some (.int .u32 0) := hR1.cell (j := 6) (by decide)
      have f6 := hR1.fz 6
      have b7 : w1.cell? ⟨w.heap.size + 1 + 1, 7, none⟩ = some (.int .u32 0) := hR1.cell (j := 7) (by decide)
      have f7 := hR1.fz 7
      go_wp2_with fail
      have hRf := put8 (y := y) hR1 rfl
      have hBf := ((((((((hB1).setCell (p := ⟨w.heap.size + 1 + 1, 0, none⟩) (by show _ ≤ w.heap.size + 1 + 1; omega) (.int .u32 y.x0)).setCell (p := ⟨w.heap.size + 1 + 1, 1, none⟩) (by show _ ≤ w.heap.size + 1 + 1; omega) (.int .u32 y.x1)).setCell (p := ⟨w.heap.size + 1 + 1, 2, none⟩) (by show _ ≤ w.heap.size + 1 + 1; omega) (.int .u32 y.x2)).setCell (p := ⟨w.heap.size + 1 + 1, 3, none⟩) (by show _ ≤ w.heap.size + 1 + 1; omega) (.int .u32 y.x3)).setCell (p := ⟨w.heap.size + 1 + 1, 4, none⟩) (by show _ ≤ w.heap.size + 1 + 1; omega) (.int .u32 y.x4)).setCell (p := ⟨w.heap.size + 1 + 1, 5, none⟩) (by show _ ≤ w.heap.size + 1 + 1; omega) (.int .u32 y.x5)).setCell (p := ⟨w.heap.size + 1 + 1, 6, none⟩) (by show _ ≤ w.heap.size + 1 + 1; omega) (.int .u32 y.x6)).setCell (p := ⟨w.heap.size + 1 + 1, 7, none⟩) (by show _ ≤ w.heap.size + 1 + 1; omega) (.int .u32 y.x7)
      generalize ((((((((w1.setCell ⟨w.heap.size + 1 + 1, 0, none⟩ (.int .u32 y.x0)).setCell ⟨w.heap.size + 1 + 1, 1, none⟩ (.int .u32 y.x1)).setCell ⟨w.heap.size + 1 + 1, 2, none⟩ (.int .u32 y.x2)).setCell ⟨w.heap.size + 1 + 1, 3, none⟩ (.int .u32 y.x3)).setCell ⟨w.heap.size + 1 + 1, 4, none⟩ (.int .u32 y.x4)).setCell ⟨w.heap.size + 1 + 1, 5, none⟩ (.int .u32 y.x5)).setCell ⟨w.heap.size + 1 + 1, 6, none⟩ (.int .u32 y.x6)).setCell ⟨w.heap.size + 1 + 1, 7, none⟩ (.int .u32 y.x7)) = wf at *
      have r0 : wf.cell? ⟨w.heap.size + 1 + 1, 0, none⟩ = some (.int .u32 y.x0) := hRf.cell (j := 0) (by rw [S8.toL_len]; decide)
      have r1 : wf.cell? ⟨w.heap.size + 1 + 1, 1, none⟩ = some (.int .u32 y.x1) := hRf.cell (j := 1) (by rw [S8.toL_len]; decide)
      have r2 : wf.cell? ⟨w.heap.size + 1 + 1, 2, none⟩ = some (.int .u32 y.x2) := hRf.cell (j := 2) (by rw [S8.toL_len]; decide)
      have r3 : wf.cell? ⟨w.heap.size + 1 + 1, 3, none⟩ = some (.int .u32 y.x3) := hRf.cell (j := 3) (by rw [S8.toL_len]; decide)
      have r4 : wf.cell? ⟨w.heap.size + 1 + 1, 4, none⟩ = some (.int .u32 y.x4) := hRf.cell (j := 4) (by rw [S8.toL_len]; decide)
      have r5 : wf.cell? ⟨w.heap.size + 1 + 1, 5, none⟩ = some (.int .u32 y.x5) := hRf.cell (j := 5) (by rw [S8.toL_len]; decide)
      have r6 : wf.cell? ⟨w.heap.size + 1 + 1, 6, none⟩ = some (.int .u32 y.x6) := hRf.cell (j := 6) (by rw [S8.toL_len]; decide)
      have r7 : wf.cell? ⟨w.heap.size + 1 + 1, 7, none⟩ = some (.int .u32 y.x7) := hRf.cell (j := 7) (by rw [S8.toL_len]; decide)
      have hm : takeS s d = y := HZ.out
      rw [hm]
      refine bodyPost_ret (v := y.val) (by simp [results, Tryd.results24, go_sem, S8.val, r0, r1, r2, r3, r4, r5, r6, r7]) rfl ⟨rfl, hBf⟩
end Go.Proofs.YtepcpjppogcjbaaDoor
