/-
  The contract of the code's Unmix.
-/
import Derived.Test.YtepcpjppogcjbaaDoorDgV
import Derived.Test.YtepcpjppogcjbaaDoorDgU
namespace Go.Proofs.YtepcpjppogcjbaaDoor
open Go.RowKit

/-- The code takes the four pairs from the first one on. -/
def foldF : Nat → List Int → List Int
  | 0, L => L
  | n + 1, L => stepB (kk n) n (foldF n L)
theorem foldF_len (n : Nat) (L : List Int) : (foldF n L).length = L.length := by
  induction n with
  | zero => rfl
  | succ n ih => rw [foldF, stepB_len, ih]
theorem foldF_ok {L : List Int} (h : allW L) (n : Nat) : allW (foldF n L) := by
  induction n with
  | zero => exact h
  | succ n ih => exact stepB_ok ih _ _
theorem foldF_list (z : S8) : foldF 4 z.toL = foldB 4 z.toL := by
  rw [foldB_list]
  simp [foldF, stepB, S8.toL, kk, pa, pb]
theorem foldF_round (r : Nat) (s : S8) (z : S8) (h : foldF 4 (S8.toL ⟨s.x5, s.x6, s.x7, s.x0, s.x1, s.x2, s.x3, s.x4⟩) = z.toL) : z.toL.set 0 (dw z.x0 (rc r)) = (unr r s).toL := by
  have e := round_back r s _ rfl
  rw [← foldF_list, h] at e
  exact e

set_option maxHeartbeats 4000000 in
theorem cunmix_any (s : S8) (w : World) (hs : s.ok) (hT : TurnsOk w) : Calls Tryd.prog 14 #[s.val] w fun e w' => e = .returned (unmN 8 s).val ∧ Below w.heap.size w w' := by
  have HT := Lib.hid hT
  clear hT
  obtain ⟨w0, hw0⟩ : ∃ w0, (w.alloc (.cells #[.int .u32 s.x0, .int .u32 s.x1, .int .u32 s.x2, .int .u32 s.x3, .int .u32 s.x4, .int .u32 s.x5, .int .u32 s.x6, .int .u32 s.x7] 23)).alloc (.cells #[.int .u32 0, .int .u32 0, .int .u32 0, .int .u32 0, .int .u32 0, .int .u32 0, .int .u32 0, .int .u32 0] 23) = w0 := ⟨_, rfl⟩
  obtain ⟨hA0, hR0, hB0⟩ := start2 s w w0 hw0
  have HW := Lib.hid hw0
  clear hw0
  go_enter Tryd.func14, Tryd.ntmps14
  simp only [S8.val]
  go_wp2_with fail
  rw [HW.out]
  clear HW
  go_loopw [3] (fun i wr => ∃ (r : Nat) (x : S8), r ≤ 8 ∧ i = .int .u32 r ∧ x.ok ∧ Hid (unmN r x = unmN 8 s) ∧ Arr .u32 23 w.heap.size x.toL wr ∧ Arr .u32 23 (w.heap.size + 1) [0, 0, 0, 0, 0, 0, 0, 0] wr ∧ Below w.heap.size w wr) (fun i _ => (intOf i).toNat)
  case atStart => exact ⟨8, s, by omega, rfl, hs, rfl, hA0, hR0, hB0⟩
  case round =>
    clear hA0 hR0 hB0
    obtain ⟨r1, x, hr, rfl, hx, HX, hA, hR, hBr⟩ := hrel
    by_cases hlt : 0 < r1
    · obtain ⟨r, rfl⟩ : ∃ r : Nat, r1 = r + 1 := ⟨r1 - 1, by omega⟩
      have hd8 : decide ((0 : Int) < (r : Int) + 1) = true := by simp <;> omega
      obtain ⟨t0, t1, t2, t3, t4, t5, t6, t7⟩ := hA.c8
      obtain ⟨f0, f1, f2, f3, f4, f5, f6, f7⟩ := hA.f8
      have hA1 := put8 (y := ⟨x.x5, x.x6, x.x7, x.x0, x.x1, x.x2, x.x3, x.x4⟩) hA rfl
      have hR1 := far8 hR (by simp : w.heap.size + 1 ≠ w.heap.size) ⟨x.x5, x.x6, x.x7, x.x0, x.x1, x.x2, x.x3, x.x4⟩
      have hB1 := below_put8 hBr (Nat.le_refl _) ⟨x.x5, x.x6, x.x7, x.x0, x.x1, x.x2, x.x3, x.x4⟩
      obtain ⟨g0, g1, g2, g3⟩ := (HT.out.below hB1).cells
      obtain ⟨h0, h1, h2, h3, h4, h5, h6, h7⟩ := hx
      have hxo : x.ok := ⟨h0, h1, h2, h3, h4, h5, h6, h7⟩
      have hyo : (⟨x.x5, x.x6, x.x7, x.x0, x.x1, x.x2, x.x3, x.x4⟩ : S8).ok := ⟨h5, h6, h7, h0, h1, h2, h3, h4⟩
      clear h0 h1 h2 h3 h4 h5 h6 h7 hA hR hBr
      have HX2 : Hid (unmN r (unr r x) = unmN 8 s) := by
        show _ = _
        rw [← unmN_succ]; exact HX.out
      have hUo := unr_ok r hxo
      go_wp2_with fail
      clear g0 g1 g2 g3 t0 t1 t2 t3 t4 t5 t6 t7 f0 f1 f2 f3 f4 f5 f6 f7
      generalize ((((((((wr.setCell ⟨w.heap.size, 0, none⟩ (.int .u32 x.x5)).setCell ⟨w.heap.size, 1, none⟩ (.int .u32 x.x6)).setCell ⟨w.heap.size, 2, none⟩ (.int .u32 x.x7)).setCell ⟨w.heap.size, 3, none⟩ (.int .u32 x.x0)).setCell ⟨w.heap.size, 4, none⟩ (.int .u32 x.x1)).setCell ⟨w.heap.size, 5, none⟩ (.int .u32 x.x2)).setCell ⟨w.heap.size, 6, none⟩ (.int .u32 x.x3)).setCell ⟨w.heap.size, 7, none⟩ (.int .u32 x.x4)) = w6 at *
      obtain ⟨Y, hY⟩ : ∃ Y, (⟨x.x5, x.x6, x.x7, x.x0, x.x1, x.x2, x.x3, x.x4⟩ : S8).toL = Y := ⟨_, rfl⟩
      have hYo : allW Y := by rw [← hY]; exact S8.toL_ok hyo
      have hYn : Y.length = 8 := by rw [← hY]; rfl
      have HYY := Lib.hid hY
      rw [hY] at hA1
      clear hY
      go_loopw [28] (fun i wi => ∃ k : Nat, k ≤ 4 ∧ i = .int .i64 k ∧ Arr .u32 23 w.heap.size (foldF k Y) wi ∧ Arr .u32 23 (w.heap.size + 1) [0, 0, 0, 0, 0, 0, 0, 0] wi ∧ Below w.heap.size w wi) (fun i _ => 4 - (intOf i).toNat)
      case atStart => exact ⟨0, by omega, rfl, hA1, hR1, hB1⟩
      case round =>
        clear hA1 hR1 hB1
        obtain ⟨k, hk, rfl, hA, hR, hBk⟩ := hrel
        by_cases hlt4 : k < 4
        · have hMn : (foldF k Y).length = 8 := by rw [foldF_len, hYn]
          have hMw := foldF_ok hYo k
          have HM : Hid (foldF (k + 1) Y = stepB (kk k) k (foldF k Y)) := rfl
          generalize foldF k Y = M at *
          obtain ⟨a, ha⟩ : ∃ a, M.getD k 0 = a := ⟨_, rfl⟩
          obtain ⟨b, hb⟩ : ∃ b, M.getD (k + 4) 0 = b := ⟨_, rfl⟩
          have hc1 : wr.cell? ⟨w.heap.size, k, none⟩ = some (.int .u32 a) := by rw [← ha]; exact hA.cell (by omega)
          have hc2 : wr.cell? ⟨w.heap.size, k + 4, none⟩ = some (.int .u32 b) := by rw [← hb]; exact hA.cell (by omega)
          have hf1 := hA.fz k
          have hf2 := hA.fz (k + 4)
          have hk0 : (0 : Int) ≤ k := by omega
          have hk3 : (k : Int) < 4 := by omega
          have hix := index_turns hlt4 wr
          go_wp2_with fail
          clear hix
          have hbw : isW b := by rw [← hb]; exact hMw.get _
          have haw : isW a := by rw [← ha]; exact hMw.get _
          have hbr : isW (rotI b (-(kk k))) := rot_bd hbw _
          have hq := kk_bd hlt4
          have HS : Hid (foldF (k + 1) Y = (M.set (k + 4) (bits .xor .u32 (rotI b (-(kk k))) a)).set k ((a - bits .xor .u32 (rotI b (-(kk k))) a) % 4294967296)) := by
            show _ = _
            rw [HM.out, bits_xw hbr haw, stepB, ha, hb]; rfl
          have e9 : IntKind.i64.wrap (-(kk k)) = -(kk k) := IntWalk.i64_in _ (by omega)
          generalize kk k = q at *
          have e1 : IntKind.i64.wrap ((k : Int) + 4) = (k : Int) + 4 := IntWalk.i64_in _ (by omega)
          have e2 : (0 : Int) ≤ (k : Int) + 4 := by omega
          have e3 : ((k : Int) + 4).toNat = k + 4 := by omega
          have e4 : (k : Int) + 4 < 8 := by omega
          have e5 : (k : Int) < 8 := by omega
          go_still_tail 13, (by kernel_rfl)
          still_call (turn_code b (-q) _ hbw)
          repeat still_step
          refine wpStill_nil ?_
          change wpList _ _ _ _ _ wr.drew
          have hA4 : Arr .u32 23 w.heap.size M wr.drew := hA
          have hR4 : Arr .u32 23 (w.heap.size + 1) [0, 0, 0, 0, 0, 0, 0, 0] wr.drew := hR
          have hB4 := hBk.drew
          have hc4 : wr.drew.cell? ⟨w.heap.size, k + 4, none⟩ = some (.int .u32 b) := hc2
          have hf4 : wr.drew.frozen? ⟨w.heap.size, k + 4, none⟩ = false := hf2
          generalize wr.drew = w4 at *
          clear hc1 hc2 hf1 hf2 hA hR hBk e1 e9
          go_wp2_with fail
          generalize bits .xor .u32 (rotI b (-q)) a = p at *
          have hA5 := hA4.set (k + 4) p
          have hR5 := hR4.far (a := ⟨w.heap.size, k + 4, none⟩) (by simp) (.int .u32 p)
          have hB5 := hB4.setCell (p := ⟨w.heap.size, k + 4, none⟩) (Nat.le_refl _) (.int .u32 p)
          generalize w4.setCell ⟨w.heap.size, k + 4, none⟩ (.int .u32 p) = w7 at *
          clear hA4 hR4 hB4 hc4 hf4
          have hc1 : w7.cell? ⟨w.heap.size, k, none⟩ = some (.int .u32 a) := by
            have h := hA5.cell (j := k) (by rw [List.length_set]; omega)
            rw [h, ← ha]; simp [List.getD]
          have hc2 : w7.cell? ⟨w.heap.size, k + 4, none⟩ = some (.int .u32 p) := by
            have h := hA5.cell (j := k + 4) (by rw [List.length_set]; omega)
            rw [h]; simp [List.getD, hMn, show k + 4 < 8 by omega]
          have hf1 := hA5.fz k
          have hA6 := hA5.set k ((a - p) % 4294967296)
          have hR6 := hR5.far (a := ⟨w.heap.size, k, none⟩) (by simp) (.int .u32 ((a - p) % 4294967296))
          have hB6 := hB5.setCell (p := ⟨w.heap.size, k, none⟩) (Nat.le_refl _) (.int .u32 ((a - p) % 4294967296))
          rw [← HS.out] at hA6
          go_wp2_with fail
          go_region
          go_wp2_with fail
          go_roundw
          case rel => exact ⟨k + 1, by omega, by go_num, hA6, hR6, hB6.drew⟩
          case measure => simp [intOf]; omega
        · have hk4 : k = 4 := by omega
          subst hk4
          obtain ⟨z, hz⟩ := toL_of (show (foldF 4 Y).length = 8 by rw [foldF_len, hYn])
          have HZ := Lib.hid (foldF_round r x z (by rw [HYY.out]; exact hz))
          rw [hz] at hA
          clear hz
          have hv : (z.x0 - 2654435769 * ((r : Int) + 1)) % 4294967296 = dw z.x0 (rc r) := by unfold dw rc; omega
          have hc0 : wr.cell? ⟨w.heap.size, 0, none⟩ = some (.int .u32 z.x0) := hA.cell (j := 0) (by rw [S8.toL_len]; decide)
          have hf0 := hA.fz 0
          have hA1 := hA.set 0 ((z.x0 - 2654435769 * ((r : Int) + 1)) % 4294967296)
          rw [hv, HZ.out, ← hv] at hA1
          have hR1 := hR.far (a := ⟨w.heap.size, 0, none⟩) (by simp) (.int .u32 ((z.x0 - 2654435769 * ((r : Int) + 1)) % 4294967296))
          have hB1 := hBk.setCell (p := ⟨w.heap.size, 0, none⟩) (Nat.le_refl _) (.int .u32 ((z.x0 - 2654435769 * ((r : Int) + 1)) % 4294967296))
          clear hv hA hR hBk
          go_wp2_with fail
          go_roundw
          case rel => exact ⟨r, _, by omega, rfl, hUo, HX2, hA1, hR1, hB1⟩
          case measure => simp [intOf]
    · have hr8 : r1 = 0 := by omega
      subst hr8
      obtain ⟨t0, t1, t2, t3, t4, t5, t6, t7⟩ := hA.c8
      obtain ⟨b0, b1, b2, b3, b4, b5, b6, b7⟩ := Arr.c8 (y := zeroS) hR
      obtain ⟨f0, f1, f2, f3, f4, f5, f6, f7⟩ := hR.f8
      have hRf := put8 (y := x) hR rfl
      have hBf := below_put8 hBr (Nat.le_succ _) x
      clear hA hR hBr
      go_wp2_with fail
      generalize ((((((((wr.setCell ⟨w.heap.size + 1, 0, none⟩ (.int .u32 x.x0)).setCell ⟨w.heap.size + 1, 1, none⟩ (.int .u32 x.x1)).setCell ⟨w.heap.size + 1, 2, none⟩ (.int .u32 x.x2)).setCell ⟨w.heap.size + 1, 3, none⟩ (.int .u32 x.x3)).setCell ⟨w.heap.size + 1, 4, none⟩ (.int .u32 x.x4)).setCell ⟨w.heap.size + 1, 5, none⟩ (.int .u32 x.x5)).setCell ⟨w.heap.size + 1, 6, none⟩ (.int .u32 x.x6)).setCell ⟨w.heap.size + 1, 7, none⟩ (.int .u32 x.x7)) = wf at *
      obtain ⟨r0, r1, r2, r3, r4, r5, r6, r7⟩ := hRf.c8
      refine bodyPost_ret (v := x.val) (by simp [results, Tryd.results14, go_sem, S8.val, r0, r1, r2, r3, r4, r5, r6, r7]) rfl ⟨by rw [← HX.out]; rfl, hBf⟩
end Go.Proofs.YtepcpjppogcjbaaDoor
