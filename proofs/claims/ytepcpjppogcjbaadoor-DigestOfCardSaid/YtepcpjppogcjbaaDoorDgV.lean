/-
  The contract of the code's Mix.
-/
import Derived.Test.YtepcpjppogcjbaaDoorDgH
namespace Go.Proofs.YtepcpjppogcjbaaDoor
open Go.RowKit

set_option maxHeartbeats 4000000 in
theorem cmix_any (s : S8) (w : World) (hs : s.ok) (hT : TurnsOk w) : Calls Tryd.prog 12 #[s.val] w fun e w' => e = .returned (mixN 8 s).val ∧ Below w.heap.size w w' := by
  have HT := Lib.hid hT
  clear hT
  obtain ⟨w0, hw0⟩ : ∃ w0, (w.alloc (.cells #[.int .u32 s.x0, .int .u32 s.x1, .int .u32 s.x2, .int .u32 s.x3, .int .u32 s.x4, .int .u32 s.x5, .int .u32 s.x6, .int .u32 s.x7] 23)).alloc (.cells #[.int .u32 0, .int .u32 0, .int .u32 0, .int .u32 0, .int .u32 0, .int .u32 0, .int .u32 0, .int .u32 0] 23) = w0 := ⟨_, rfl⟩
  obtain ⟨hA0, hR0, hB0⟩ := start2 s w w0 hw0
  have HW := Lib.hid hw0
  clear hw0
  go_enter Tryd.func12, Tryd.ntmps12
  simp only [S8.val]
  go_wp2_with fail
  rw [HW.out]
  clear HW
  go_loopw [6] (fun i wr => ∃ (r : Nat) (x : S8), r ≤ 8 ∧ i = .int .u32 r ∧ x.ok ∧ Hid (x = mixN r s) ∧ Arr .u32 23 w.heap.size x.toL wr ∧ Arr .u32 23 (w.heap.size + 1) [0, 0, 0, 0, 0, 0, 0, 0] wr ∧ Below w.heap.size w wr) (fun i _ => 8 - (intOf i).toNat)
  case atStart => exact ⟨0, s, by omega, rfl, hs, rfl, hA0, hR0, hB0⟩
  case round =>
    clear hA0 hR0 hB0
    obtain ⟨r, x, hr, rfl, hx, HX, hA, hR, hBr⟩ := hrel
    by_cases hlt : r < 8
    · have hc0 : wr.cell? ⟨w.heap.size, 0, none⟩ = some (.int .u32 x.x0) := hA.cell (j := 0) (by rw [S8.toL_len]; decide)
      have hf0 := hA.fz 0
      have hd8 : decide ((r : Int) < 8) = true := by simp; omega
      have hR1 := hR.far (a := ⟨w.heap.size, 0, none⟩) (by simp) (.int .u32 ((x.x0 + 2654435769 * ((r : Int) + 1)) % 4294967296))
      have hB1 := hBr.setCell (p := ⟨w.heap.size, 0, none⟩) (Nat.le_refl _) (.int .u32 ((x.x0 + 2654435769 * ((r : Int) + 1)) % 4294967296))
      have hv : (x.x0 + 2654435769 * ((r : Int) + 1)) % 4294967296 = aw x.x0 (rc r) := by unfold aw rc; omega
      obtain ⟨L, hL⟩ : ∃ L, x.toL.set 0 (aw x.x0 (rc r)) = L := ⟨_, rfl⟩
      have hLn : L.length = 8 := by rw [← hL]; rfl
      have hLw : allW L := by rw [← hL]; exact (S8.toL_ok hx).put 0 (aw_bd _ _)
      have hA1 : Arr .u32 23 w.heap.size L (wr.setCell ⟨w.heap.size, 0, none⟩ (.int .u32 ((x.x0 + 2654435769 * ((r : Int) + 1)) % 4294967296))) := by
        rw [← hL, ← hv]; exact hA.set 0 _
      have HL := Lib.hid hL
      obtain ⟨g0, g1, g2, g3⟩ := (HT.out.below hB1).cells
      clear hL hv hA hR hBr
      go_wp2_with fail
      clear g0 g1 g2 g3
      generalize wr.setCell ⟨w.heap.size, 0, none⟩ (.int .u32 ((x.x0 + 2654435769 * ((r : Int) + 1)) % 4294967296)) = w2 at *
      clear hc0 hf0
      generalize (x.x0 + 2654435769 * ((r : Int) + 1) % 4294967296) % 4294967296 = z1
      generalize 2654435769 * ((r : Int) + 1) % 4294967296 = z2
      go_loopw [17] (fun i wi => ∃ k : Nat, k ≤ 4 ∧ i = .int .i64 k ∧ Arr .u32 23 w.heap.size (foldP k L) wi ∧ Arr .u32 23 (w.heap.size + 1) [0, 0, 0, 0, 0, 0, 0, 0] wi ∧ Below w.heap.size w wi) (fun i _ => 4 - (intOf i).toNat)
      case atStart => exact ⟨0, by omega, rfl, hA1, hR1, hB1⟩
      case round =>
        clear hA1 hR1 hB1
        obtain ⟨k, hk, rfl, hA, hR, hBk⟩ := hrel
        by_cases hlt4 : k < 4
        · have hMn : (foldP k L).length = 8 := by rw [foldP_len, hLn]
          have hMw := foldP_ok hLw k
          have HM : Hid (foldP (k + 1) L = stepP (kk k) k (foldP k L)) := rfl
          generalize foldP k L = M at *
          obtain ⟨a, ha⟩ : ∃ a, M.getD k 0 = a := ⟨_, rfl⟩
          obtain ⟨b, hb⟩ : ∃ b, M.getD (k + 4) 0 = b := ⟨_, rfl⟩
          have hc1 : wr.cell? ⟨w.heap.size, k, none⟩ = some (.int .u32 a) := by rw [← ha]; exact hA.cell (by omega)
          have hc2 : wr.cell? ⟨w.heap.size, k + 4, none⟩ = some (.int .u32 b) := by rw [← hb]; exact hA.cell (by omega)
          have hf1 := hA.fz k
          have hf2 := hA.fz (k + 4)
          have hk0 : (0 : Int) ≤ k := by omega
          have hk3 : (k : Int) < 4 := by omega
          have hix := index_turns hlt4 wr
          go_wp2_with fail
          clear hix
          go_region
          go_wp2_with fail
          have hA2 : Arr .u32 23 w.heap.size (M.set k (aw a b)) (wr.setCell ⟨w.heap.size, k, none⟩ (.int .u32 ((a + b) % 4294967296))).drew := hA.set k _
          have hR2 : Arr .u32 23 (w.heap.size + 1) [0, 0, 0, 0, 0, 0, 0, 0] (wr.setCell ⟨w.heap.size, k, none⟩ (.int .u32 ((a + b) % 4294967296))).drew := hR.far (a := ⟨w.heap.size, k, none⟩) (by simp) _
          have hB2 : Below w.heap.size w (wr.setCell ⟨w.heap.size, k, none⟩ (.int .u32 ((a + b) % 4294967296))).drew := (hBk.setCell (p := ⟨w.heap.size, k, none⟩) (Nat.le_refl _) _).drew
          generalize (wr.setCell ⟨w.heap.size, k, none⟩ (.int .u32 ((a + b) % 4294967296))).drew = w3 at *
          clear hc1 hc2 hf1 hf2 hA hR hBk
          have hc1 : w3.cell? ⟨w.heap.size, k, none⟩ = some (.int .u32 (aw a b)) := by
            have h := hA2.cell (j := k) (by rw [List.length_set]; omega)
            rw [h]; simp [List.getD, hMn, show k < 8 by omega]
          have hc2 : w3.cell? ⟨w.heap.size, k + 4, none⟩ = some (.int .u32 b) := by
            have h := hA2.cell (j := k + 4) (by rw [List.length_set]; omega)
            rw [h, ← hb]; simp [List.getD]
          have hf2 := hA2.fz (k + 4)
          have hbw : isW b := by rw [← hb]; exact hMw.get _
          have hcw : isW (aw a b) := aw_bd a b
          have hbx : isW (bits .xor .u32 b (aw a b)) := by rw [bits_xw hbw hcw]; exact xw_bd hbw hcw
          have HS : Hid (foldP (k + 1) L = (M.set k (aw a b)).set (k + 4) (rotI (bits .xor .u32 b (aw a b)) (kk k))) := by
            show _ = _
            rw [HM.out, bits_xw hbw hcw, stepP, ha, hb]
          generalize kk k = q at *
          generalize aw a b = c at *
          have e1 : IntKind.i64.wrap ((k : Int) + 4) = (k : Int) + 4 := IntWalk.i64_in _ (by omega)
          have e2 : (0 : Int) ≤ (k : Int) + 4 := by omega
          have e3 : ((k : Int) + 4).toNat = k + 4 := by omega
          have e4 : (k : Int) + 4 < 8 := by omega
          have e5 : (k : Int) < 8 := by omega
          go_still_tail 12, (by kernel_rfl)
          still_call (turn_code (bits .xor .u32 b c) q _ hbx)
          refine wpStill_nil ?_
          change wpList _ _ _ _ _ w3.drew
          have hA4 : Arr .u32 23 w.heap.size (M.set k c) w3.drew := hA2
          have hR4 : Arr .u32 23 (w.heap.size + 1) [0, 0, 0, 0, 0, 0, 0, 0] w3.drew := hR2
          have hB4 := hB2.drew
          have hc4 : w3.drew.cell? ⟨w.heap.size, k + 4, none⟩ = some (.int .u32 b) := hc2
          have hf4 : w3.drew.frozen? ⟨w.heap.size, k + 4, none⟩ = false := hf2
          generalize w3.drew = w4 at *
          clear hc1 hc2 hf2 hA2 hR2 hB2
          have hA5 := hA4.set (k + 4) (rotI (bits .xor .u32 b c) q)
          have hR5 := hR4.far (a := ⟨w.heap.size, k + 4, none⟩) (by simp) (.int .u32 (rotI (bits .xor .u32 b c) q))
          have hB5 := hB4.setCell (p := ⟨w.heap.size, k + 4, none⟩) (Nat.le_refl _) (.int .u32 (rotI (bits .xor .u32 b c) q))
          rw [← HS.out] at hA5
          clear hA4 hR4 hB4
          go_wp2_with fail
          go_roundw
          case rel => exact ⟨k + 1, by omega, by go_num, hA5, hR5, hB5⟩
          case measure => simp [intOf]; omega
        · have hk4 : k = 4 := by omega
          subst hk4
          obtain ⟨z, hz⟩ := toL_of (show (foldP 4 L).length = 8 by rw [foldP_len, hLn])
          have HY : Hid ((⟨z.x3, z.x4, z.x5, z.x6, z.x7, z.x0, z.x1, z.x2⟩ : S8) = mixN (r + 1) s) := by
            show _ = _
            rw [mixN_succ, ← HX.out]
            exact round_moved (by rw [HL.out]; exact hz)
          have hzo : (⟨z.x3, z.x4, z.x5, z.x6, z.x7, z.x0, z.x1, z.x2⟩ : S8).ok := by rw [HY.out, mixN_succ, ← HX.out]; exact rnd_ok r hx
          rw [hz] at hA
          clear hz
          obtain ⟨t0, t1, t2, t3, t4, t5, t6, t7⟩ := hA.c8
          obtain ⟨f0, f1, f2, f3, f4, f5, f6, f7⟩ := hA.f8
          have hAf := put8 (y := ⟨z.x3, z.x4, z.x5, z.x6, z.x7, z.x0, z.x1, z.x2⟩) hA rfl
          have hRf := far8 hR (by simp : w.heap.size + 1 ≠ w.heap.size) ⟨z.x3, z.x4, z.x5, z.x6, z.x7, z.x0, z.x1, z.x2⟩
          have hBf := below_put8 hBk (Nat.le_refl _) ⟨z.x3, z.x4, z.x5, z.x6, z.x7, z.x0, z.x1, z.x2⟩
          clear hA hR hBk
          go_wp2_with fail
          go_roundw
          case rel => exact ⟨r + 1, _, by omega, by go_num, hzo, HY, hAf, hRf, hBf⟩
          case measure => simp [intOf]; omega
    · have hr8 : r = 8 := by omega
      subst hr8
      obtain ⟨t0, t1, t2, t3, t4, t5, t6, t7⟩ := hA.c8
      obtain ⟨b0, b1, b2, b3, b4, b5, b6, b7⟩ := Arr.c8 (y := zeroS) hR
      obtain ⟨f0, f1, f2, f3, f4, f5, f6, f7⟩ := hR.f8
      have hRf := put8 (y := x) hR rfl
      have hBf := below_put8 hBr (Nat.le_succ _) x
      clear hA hR hBr
      go_wp2_with fail
      generalize ((((((((wr.setCell ⟨w.heap.size + 1, 0, none⟩ (.int .u32 x.x0)).setCell ⟨w.heap.size + 1, 1, none⟩ (.int .u32 x.x1)).setCell ⟨w.heap.size + 1, 2, none⟩ (.int .u32 x.x2)).setCell ⟨w.heap.size + 1, 3, none⟩ (.int .u32 x.x3)).setCell ⟨w.heap.size + 1, 4, none⟩ (.int .u32 x.x4)).setCell ⟨w.heap.size + 1, 5, none⟩ (.int .u32 x.x5)).setCell ⟨w.heap.size + 1, 6, none⟩ (.int .u32 x.x6)).setCell ⟨w.heap.size + 1, 7, none⟩ (.int .u32 x.x7)) = wf at *
      obtain ⟨r0, r1, r2, r3, r4, r5, r6, r7⟩ := hRf.c8
      refine bodyPost_ret (v := x.val) (by simp [results, Tryd.results12, go_sem, S8.val, r0, r1, r2, r3, r4, r5, r6, r7]) rfl ⟨by rw [← HX.out]; rfl, hBf⟩
end Go.Proofs.YtepcpjppogcjbaaDoor
