/-
  The contract of the document's Mix.
-/
import Derived.Test.YtepcpjppogcjbaaDoorDgA
import Derived.Test.YtepcpjppogcjbaaDoorRTurn
import Derived.Deep.RegionHeld3
import Derived.Lib.SmallJoins
import Derived.StillTailTactics
namespace Go.Proofs.YtepcpjppogcjbaaDoor
open Go.RowKit

theorem turns_any (w : World) : Calls Tryd.prog 26 #[] w fun e w' => e = .returned (.agg #[.int .i64 7, .int .i64 9, .int .i64 13, .int .i64 18]) ∧ Below w.heap.size w w' := by
  go_enter Tryd.func26, Tryd.ntmps26
  go_wp2
  refine bodyPost_ret (v := .agg #[.int .i64 7, .int .i64 9, .int .i64 13, .int .i64 18]) (by simp [results, Tryd.results26, go_sem]) rfl ⟨rfl, ?_⟩
  exact (Below.refl _ _).alloc (Nat.le_refl _) _
theorem bits_xw {a b : Int} (ha : isW a) (hb : isW b) : bits .xor .u32 a b = xw a b := u32_xor a b ha.1 ha.2 hb.1 hb.2
theorem turn_still (a n : Int) (w : World) (ha : isW a) : Calls Tryd.prog 27 #[.int .u32 a, .int .i64 n] w fun e w' => e = .returned (.int .u32 (rotI a n)) ∧ w' = w :=
  (refTurn_any a n w ha.1 ha.2).mono fun _ _ h => ⟨h.1, h.2.symm⟩
/-- A state as a value. -/
def S8.val (s : S8) : Value := .agg #[.int .u32 s.x0, .int .u32 s.x1, .int .u32 s.x2, .int .u32 s.x3, .int .u32 s.x4, .int .u32 s.x5, .int .u32 s.x6, .int .u32 s.x7]

theorem set8 {N : List Int} (h : N.length = 8) (y : S8) : (((((((N.set 0 y.x0).set 1 y.x1).set 2 y.x2).set 3 y.x3).set 4 y.x4).set 5 y.x5).set 6 y.x6).set 7 y.x7 = y.toL := by
  match N, h with
  | [_, _, _, _, _, _, _, _], _ => rfl
theorem put8 {t : TypeId} {b : Nat} {N : List Int} {w : World} {y : S8} (h : Arr .u32 t b N w) (hn : N.length = 8) :
    Arr .u32 t b y.toL ((((((((w.setCell ⟨b, 0, none⟩ (.int .u32 y.x0)).setCell ⟨b, 1, none⟩ (.int .u32 y.x1)).setCell ⟨b, 2, none⟩ (.int .u32 y.x2)).setCell ⟨b, 3, none⟩ (.int .u32 y.x3)).setCell ⟨b, 4, none⟩ (.int .u32 y.x4)).setCell ⟨b, 5, none⟩ (.int .u32 y.x5)).setCell ⟨b, 6, none⟩ (.int .u32 y.x6)).setCell ⟨b, 7, none⟩ (.int .u32 y.x7)) := by
  rw [← set8 hn y]
  exact (((((((h.set 0 _).set 1 _).set 2 _).set 3 _).set 4 _).set 5 _).set 6 _).set 7 _
set_option maxHeartbeats 4000000 in
theorem mix_any (s : S8) (w : World) (hs : s.ok) : Calls Tryd.prog 13 #[s.val] w fun e w' => e = .returned (mixN 8 s).val ∧ Below w.heap.size w w' := by
  go_enter Tryd.func13, Tryd.ntmps13
  simp only [S8.val]
  go_wp2_with fail
  refine (turns_any _).mono ?_
  rintro e w1 ⟨rfl, hB⟩
  go_wp2_with fail
  go_loopw [4] (fun i wr => ∃ (r : Nat) (x : S8), r ≤ 8 ∧ i = .int .i64 r ∧ x.ok ∧ Hid (x = mixN r s) ∧ Arr .u32 23 w.heap.size x.toL wr ∧ Arr .i64 42 w1.heap.size [7, 9, 13, 18] wr ∧ Arr .u32 23 (w.heap.size + 1) [0, 0, 0, 0, 0, 0, 0, 0] wr ∧ Below w.heap.size w wr) (fun i _ => 8 - (intOf i).toNat)
  case atStart =>
    refine ⟨0, s, by omega, rfl, hs, rfl, ?_, ?_, ?_, ?_⟩
    · have h := hB.block w.heap.size (by simp <;> omega)
      refine Arr.al ?_ _
      unfold Arr
      rw [h, Below.heap_alloc _ _ _ (by simp <;> omega)]
      exact heap_alloc_new w _
    · exact heap_alloc_new w1 _
    · have h := hB.block (w.heap.size + 1) (by simp <;> omega)
      refine Arr.al ?_ _
      unfold Arr
      rw [h]
      have e := heap_alloc_new (w.alloc (.cells #[.int .u32 s.x0, .int .u32 s.x1, .int .u32 s.x2, .int .u32 s.x3, .int .u32 s.x4, .int .u32 s.x5, .int .u32 s.x6, .int .u32 s.x7] 23)) (.cells #[.int .u32 0, .int .u32 0, .int .u32 0, .int .u32 0, .int .u32 0, .int .u32 0, .int .u32 0, .int .u32 0] 23)
      have e2 : (w.alloc (.cells #[.int .u32 s.x0, .int .u32 s.x1, .int .u32 s.x2, .int .u32 s.x3, .int .u32 s.x4, .int .u32 s.x5, .int .u32 s.x6, .int .u32 s.x7] 23)).heap.size = w.heap.size + 1 := by simp
      rw [e2] at e
      exact e
    · exact (((((Below.refl _ _).alloc (Nat.le_refl _) _).alloc (by simp) _).trans (hB.mono (by simp; omega)))).alloc (by have := hB.size; simp at this; omega) _
  case round =>
    obtain ⟨r, x, hr, rfl, hx, HX, hA, hK, hR, hBr⟩ := hrel
    by_cases hlt : r < 8
    · have hc0 : wr.cell? ⟨w.heap.size, 0, none⟩ = some (.int .u32 x.x0) := hA.cell (j := 0) (by rw [S8.toL_len]; decide)
      have hf0 := hA.fz 0
      have hd8 : decide ((r : Int) < 8) = true := by simp; omega
      have hne : w.heap.size ≠ w1.heap.size := by have := hB.size; simp at this; omega
      have hK1 := hK.far (a := ⟨w.heap.size, 0, none⟩) (Ne.symm hne) (.int .u32 ((x.x0 + 2654435769 * ((r : Int) + 1)) % 4294967296))
      have hR1 := hR.far (a := ⟨w.heap.size, 0, none⟩) (by simp) (.int .u32 ((x.x0 + 2654435769 * ((r : Int) + 1)) % 4294967296))
      have hB1 := hBr.setCell (p := ⟨w.heap.size, 0, none⟩) (Nat.le_refl _) (.int .u32 ((x.x0 + 2654435769 * ((r : Int) + 1)) % 4294967296))
      have hv : (x.x0 + 2654435769 * ((r : Int) + 1)) % 4294967296 = aw x.x0 (rc r) := by unfold aw rc; omega
      obtain ⟨L, hL⟩ : ∃ L, x.toL.set 0 (aw x.x0 (rc r)) = L := ⟨_, rfl⟩
      have hLn : L.length = 8 := by rw [← hL]; rfl
      have hLw : allW L := by rw [← hL]; exact (S8.toL_ok hx).put 0 (aw_bd _ _)
      have hA1 : Arr .u32 23 w.heap.size L (wr.setCell ⟨w.heap.size, 0, none⟩ (.int .u32 ((x.x0 + 2654435769 * ((r : Int) + 1)) % 4294967296))) := by
        rw [← hL, ← hv]; exact hA.set 0 _
      have HL := Lib.hid hL
      clear hL hv hA hK hR hBr
      go_wp2_with fail
      generalize wr.setCell ⟨w.heap.size, 0, none⟩ (.int .u32 ((x.x0 + 2654435769 * ((r : Int) + 1)) % 4294967296)) = w2 at *
      clear hc0 hf0
      generalize (x.x0 + 2654435769 * ((r : Int) + 1) % 4294967296) % 4294967296 = z1
      generalize 2654435769 * ((r : Int) + 1) % 4294967296 = z2
      go_loopw [5] (fun i wi => ∃ k : Nat, k ≤ 4 ∧ i = .int .i64 k ∧ Arr .u32 23 w.heap.size (foldP k L) wi ∧ Arr .i64 42 w1.heap.size [7, 9, 13, 18] wi ∧ Arr .u32 23 (w.heap.size + 1) [0, 0, 0, 0, 0, 0, 0, 0] wi ∧ Below w.heap.size w wi) (fun i _ => 4 - (intOf i).toNat)
      case atStart => exact ⟨0, by omega, rfl, hA1, hK1, hR1, hB1⟩
      case round =>
        clear hA1 hK1 hR1 hB1
        obtain ⟨k, hk, rfl, hA, hK, hR, hBk⟩ := hrel
        by_cases hlt4 : k < 4
        · have hMn : (foldP k L).length = 8 := by rw [foldP_len, hLn]
          have hMw := foldP_ok hLw k
          have HM : Hid (foldP (k + 1) L = stepP (kk k) k (foldP k L)) := rfl
          generalize foldP k L = M at *
          obtain ⟨a, ha⟩ : ∃ a, M.getD k 0 = a := ⟨_, rfl⟩
          obtain ⟨b, hb⟩ : ∃ b, M.getD (k + 4) 0 = b := ⟨_, rfl⟩
          have hc1 : wr.cell? ⟨w.heap.size, k, none⟩ = some (.int .u32 a) := by rw [← ha]; exact hA.cell (by omega)
          have hc2 : wr.cell? ⟨w.heap.size, k + 4, none⟩ = some (.int .u32 b) := by rw [← hb]; exact hA.cell (by omega)
          have hf1 := hA.fz k
          have hf2 := hA.fz (k + 4)
          have hk0 : (0 : Int) ≤ k := by omega
          have hk3 : (k : Int) < 4 := by omega
          go_wp2_with fail
          go_region
          go_wp2_with fail
          have hA2 : Arr .u32 23 w.heap.size (M.set k (aw a b)) (wr.setCell ⟨w.heap.size, k, none⟩ (.int .u32 ((a + b) % 4294967296))).drew := hA.set k _
          have hK2 : Arr .i64 42 w1.heap.size [7, 9, 13, 18] (wr.setCell ⟨w.heap.size, k, none⟩ (.int .u32 ((a + b) % 4294967296))).drew := hK.far (a := ⟨w.heap.size, k, none⟩) (Ne.symm hne) _
          have hR2 : Arr .u32 23 (w.heap.size + 1) [0, 0, 0, 0, 0, 0, 0, 0] (wr.setCell ⟨w.heap.size, k, none⟩ (.int .u32 ((a + b) % 4294967296))).drew := hR.far (a := ⟨w.heap.size, k, none⟩) (by simp) _
          have hB2 : Below w.heap.size w (wr.setCell ⟨w.heap.size, k, none⟩ (.int .u32 ((a + b) % 4294967296))).drew := (hBk.setCell (p := ⟨w.heap.size, k, none⟩) (Nat.le_refl _) _).drew
          generalize (wr.setCell ⟨w.heap.size, k, none⟩ (.int .u32 ((a + b) % 4294967296))).drew = w3 at *
          clear hc1 hc2 hf1 hf2 hA hK hR hBk
          have hc1 : w3.cell? ⟨w.heap.size, k, none⟩ = some (.int .u32 (aw a b)) := by
            have h := hA2.cell (j := k) (by rw [List.length_set]; omega)
            rw [h]; simp [List.getD, hMn, show k < 8 by omega]
          have hc2 : w3.cell? ⟨w.heap.size, k + 4, none⟩ = some (.int .u32 b) := by
            have h := hA2.cell (j := k + 4) (by rw [List.length_set]; omega)
            rw [h, ← hb]; simp [List.getD]
          have hc3 : w3.cell? ⟨w1.heap.size, k, none⟩ = some (.int .i64 (kk k)) := hK2.cell (j := k) (by simp; omega)
          have hf2 := hA2.fz (k + 4)
          have hbw : isW b := by rw [← hb]; exact hMw.get _
          have hcw : isW (aw a b) := aw_bd a b
          have hbx : isW (bits .xor .u32 b (aw a b)) := by rw [bits_xw hbw hcw]; exact xw_bd hbw hcw
          have HS : Hid (foldP (k + 1) L = (M.set k (aw a b)).set (k + 4) (rotI (bits .xor .u32 b (aw a b)) (kk k))) := by
            show _ = _
            rw [HM.out, bits_xw hbw hcw, stepP, ha, hb]
          generalize kk k = q at *
          generalize aw a b = c at *
          have e1 : IntKind.i64.wrap ((k : Int) + 4) = (k : Int) + 4 := IntWalk.i64_in _ (by omega)
          have e2 : (0 : Int) ≤ (k : Int) + 4 := by omega
          have e3 : ((k : Int) + 4).toNat = k + 4 := by omega
          have e4 : (k : Int) + 4 < 8 := by omega
          have e5 : (k : Int) < 8 := by omega
          go_still_tail 14, (by kernel_rfl)
          still_call (turn_still (bits .xor .u32 b c) q _ hbx)
          refine wpStill_nil ?_
          change wpList _ _ _ _ _ w3.drew
          have hA4 : Arr .u32 23 w.heap.size (M.set k c) w3.drew := hA2
          have hK4 : Arr .i64 42 w1.heap.size [7, 9, 13, 18] w3.drew := hK2
          have hR4 : Arr .u32 23 (w.heap.size + 1) [0, 0, 0, 0, 0, 0, 0, 0] w3.drew := hR2
          have hB4 := hB2.drew
          have hc4 : w3.drew.cell? ⟨w.heap.size, k + 4, none⟩ = some (.int .u32 b) := hc2
          have hf4 : w3.drew.frozen? ⟨w.heap.size, k + 4, none⟩ = false := hf2
          generalize w3.drew = w4 at *
          clear hc1 hc2 hc3 hf2 hA2 hK2 hR2 hB2
          have hA5 := hA4.set (k + 4) (rotI (bits .xor .u32 b c) q)
          have hK5 := hK4.far (a := ⟨w.heap.size, k + 4, none⟩) (Ne.symm hne) (.int .u32 (rotI (bits .xor .u32 b c) q))
          have hR5 := hR4.far (a := ⟨w.heap.size, k + 4, none⟩) (by simp) (.int .u32 (rotI (bits .xor .u32 b c) q))
          have hB5 := hB4.setCell (p := ⟨w.heap.size, k + 4, none⟩) (Nat.le_refl _) (.int .u32 (rotI (bits .xor .u32 b c) q))
          rw [← HS.out] at hA5
          clear hA4 hK4 hR4 hB4
          go_wp2_with fail
          go_roundw
          case rel => exact ⟨k + 1, by omega, by go_num, hA5, hK5, hR5, hB5⟩
          case measure => simp [intOf]; omega
        · have hk4 : k = 4 := by omega
          subst hk4
          obtain ⟨N, hN⟩ : ∃ N, foldP 4 L = N := ⟨_, rfl⟩
          have HN := Lib.hid hN
          have hNn : N.length = 8 := by rw [← hN, foldP_len, hLn]
          rw [hN] at hA
          clear hN
          have hTl := Nat.le_refl wr.heap.size
          have hT : Arr .u32 23 wr.heap.size [0, 0, 0, 0, 0, 0, 0, 0] (wr.alloc (.cells #[.int .u32 0, .int .u32 0, .int .u32 0, .int .u32 0, .int .u32 0, .int .u32 0, .int .u32 0, .int .u32 0] 23)) := by
            exact heap_alloc_new wr _
          have hA0 := hA.al (.cells #[.int .u32 0, .int .u32 0, .int .u32 0, .int .u32 0, .int .u32 0, .int .u32 0, .int .u32 0, .int .u32 0] 23)
          have hK0 := hK.al (.cells #[.int .u32 0, .int .u32 0, .int .u32 0, .int .u32 0, .int .u32 0, .int .u32 0, .int .u32 0, .int .u32 0] 23)
          have hR0 := hR.al (.cells #[.int .u32 0, .int .u32 0, .int .u32 0, .int .u32 0, .int .u32 0, .int .u32 0, .int .u32 0, .int .u32 0] 23)
          have hB0 := hBk.alloc hBk.size (.cells #[.int .u32 0, .int .u32 0, .int .u32 0, .int .u32 0, .int .u32 0, .int .u32 0, .int .u32 0, .int .u32 0] 23)
          have n1 : w.heap.size ≠ wr.heap.size := by have := hA.lt; omega
          have n2 : w1.heap.size ≠ wr.heap.size := by have := hK.lt; omega
          have n4 : w.heap.size + 1 ≠ wr.heap.size := by have := hR.lt; omega
          have n3 : w.heap.size ≤ wr.heap.size := hBk.size
          go_wp2_with fail
          generalize wr.alloc (.cells #[.int .u32 0, .int .u32 0, .int .u32 0, .int .u32 0, .int .u32 0, .int .u32 0, .int .u32 0, .int .u32 0] 23) = w5 at *
          generalize wr.heap.size = B at *
          clear hA hK hR hBk hTl
          go_loopw [7] (fun j wj => ∃ m : Nat, m ≤ 8 ∧ j = .int .i64 m ∧ Arr .u32 23 w.heap.size N wj ∧ Arr .u32 23 B (movP N m) wj ∧ Arr .i64 42 w1.heap.size [7, 9, 13, 18] wj ∧ Arr .u32 23 (w.heap.size + 1) [0, 0, 0, 0, 0, 0, 0, 0] wj ∧ Below w.heap.size w wj) (fun j _ => 8 - (intOf j).toNat)
          case atStart => exact ⟨0, by omega, rfl, hA0, hT, hK0, hR0, hB0⟩
          case round =>
            clear hA0 hT hK0 hR0 hB0
            obtain ⟨m, hm, rfl, hA, hT, hK, hR, hBm⟩ := hrel
            by_cases hm8 : m < 8
            · have hmd : decide ((m : Int) < 8) = true := by simp; omega
              have hTn := movP_len N m
              have HP : Hid (movP N (m + 1) = (movP N m).set m (N.getD ((m + 3) % 8) 0)) := rfl
              generalize movP N m = T at *
              have hc1 : wr.cell? ⟨w.heap.size, (m + 3) % 8, none⟩ = some (.int .u32 (N.getD ((m + 3) % 8) 0)) := hA.cell (by omega)
              have hc2 : wr.cell? ⟨B, m, none⟩ = some (.int .u32 (T.getD m 0)) := hT.cell (by omega)
              have hf2 := hT.fz m
              have e6 : (((m : Int) + 3) % 8).toNat = (m + 3) % 8 := by omega
              have e7 : (0 : Int) ≤ ((m : Int) + 3) % 8 := by omega
              have e8 : ((m : Int) + 3) % 8 < 8 := by omega
              go_wp2_with fail
              go_roundw
              case rel =>
                refine ⟨m + 1, by omega, by go_num, hA.far n1 _, ?_, hK.far n2 _, hR.far n4 _, hBm.setCell (p := ⟨B, m, none⟩) n3 _⟩
                rw [HP.out]
                exact hT.set m _
              case measure => simp [intOf]; omega
            · have hm8 : m = 8 := by omega
              subst hm8
              obtain ⟨y, hy⟩ : ∃ y, rnd r x = y := ⟨_, rfl⟩
              have hNy : movP N 8 = y.toL := by rw [← hy, ← HN.out, ← HL.out]; exact round_list r x
              have hyo : y.ok := by rw [← hy]; exact rnd_ok r hx
              have HY : Hid (y = mixN (r + 1) s) := by
                show y = _
                rw [mixN_succ, ← HX.out, hy]
              rw [hNy] at hT
              clear hNy hy
              have t0 : wr.cell? ⟨B, 0, none⟩ = some (.int .u32 y.x0) := hT.cell (j := 0) (by rw [S8.toL_len]; decide)
              have t1 : wr.cell? ⟨B, 1, none⟩ = some (.int .u32 y.x1) := hT.cell (j := 1) (by rw [S8.toL_len]; decide)
              have t2 : wr.cell? ⟨B, 2, none⟩ = some (.int .u32 y.x2) := hT.cell (j := 2) (by rw [S8.toL_len]; decide)
              have t3 : wr.cell? ⟨B, 3, none⟩ = some (.int .u32 y.x3) := hT.cell (j := 3) (by rw [S8.toL_len]; decide)
              have t4 : wr.cell? ⟨B, 4, none⟩ = some (.int .u32 y.x4) := hT.cell (j := 4) (by rw [S8.toL_len]; decide)
              have t5 : wr.cell? ⟨B, 5, none⟩ = some (.int .u32 y.x5) := hT.cell (j := 5) (by rw [S8.toL_len]; decide)
              have t6 : wr.cell? ⟨B, 6, none⟩ = some (.int .u32 y.x6) := hT.cell (j := 6) (by rw [S8.toL_len]; decide)
              have t7 : wr.cell? ⟨B, 7, none⟩ = some (.int .u32 y.x7) := hT.cell (j := 7) (by rw [S8.toL_len]; decide)
              have b0 := hA.cell (j := 0) (by omega)
              have f0 := hA.fz 0
              have b1 := hA.cell (j := 1) (by omega)
              have f1 := hA.fz 1
              have b2 := hA.cell (j := 2) (by omega)
              have f2 := hA.fz 2
              have b3 := hA.cell (j := 3) (by omega)
              have f3 := hA.fz 3
              have b4 := hA.cell (j := 4) (by omega)
              have f4 := hA.fz 4
              have b5 := hA.cell (j := 5) (by omega)
              have f5 := hA.fz 5
              have b6 := hA.cell (j := 6) (by omega)
              have f6 := hA.fz 6
              have b7 := hA.cell (j := 7) (by omega)
              have f7 := hA.fz 7
              have hAf := put8 (y := y) hA hNn
              have hKf := ((((((((hK).far (a := ⟨w.heap.size, 0, none⟩) (Ne.symm hne) (.int .u32 y.x0)).far (a := ⟨w.heap.size, 1, none⟩) (Ne.symm hne) (.int .u32 y.x1)).far (a := ⟨w.heap.size, 2, none⟩) (Ne.symm hne) (.int .u32 y.x2)).far (a := ⟨w.heap.size, 3, none⟩) (Ne.symm hne) (.int .u32 y.x3)).far (a := ⟨w.heap.size, 4, none⟩) (Ne.symm hne) (.int .u32 y.x4)).far (a := ⟨w.heap.size, 5, none⟩) (Ne.symm hne) (.int .u32 y.x5)).far (a := ⟨w.heap.size, 6, none⟩) (Ne.symm hne) (.int .u32 y.x6)).far (a := ⟨w.heap.size, 7, none⟩) (Ne.symm hne) (.int .u32 y.x7)
              have hRf := ((((((((hR).far (a := ⟨w.heap.size, 0, none⟩) (by simp) (.int .u32 y.x0)).far (a := ⟨w.heap.size, 1, none⟩) (by simp) (.int .u32 y.x1)).far (a := ⟨w.heap.size, 2, none⟩) (by simp) (.int .u32 y.x2)).far (a := ⟨w.heap.size, 3, none⟩) (by simp) (.int .u32 y.x3)).far (a := ⟨w.heap.size, 4, none⟩) (by simp) (.int .u32 y.x4)).far (a := ⟨w.heap.size, 5, none⟩) (by simp) (.int .u32 y.x5)).far (a := ⟨w.heap.size, 6, none⟩) (by simp) (.int .u32 y.x6)).far (a := ⟨w.heap.size, 7, none⟩) (by simp) (.int .u32 y.x7)
              have hBf := ((((((((hBm).setCell (p := ⟨w.heap.size, 0, none⟩) (Nat.le_refl _) (.int .u32 y.x0)).setCell (p := ⟨w.heap.size, 1, none⟩) (Nat.le_refl _) (.int .u32 y.x1)).setCell (p := ⟨w.heap.size, 2, none⟩) (Nat.le_refl _) (.int .u32 y.x2)).setCell (p := ⟨w.heap.size, 3, none⟩) (Nat.le_refl _) (.int .u32 y.x3)).setCell (p := ⟨w.heap.size, 4, none⟩) (Nat.le_refl _) (.int .u32 y.x4)).setCell (p := ⟨w.heap.size, 5, none⟩) (Nat.le_refl _) (.int .u32 y.x5)).setCell (p := ⟨w.heap.size, 6, none⟩) (Nat.le_refl _) (.int .u32 y.x6)).setCell (p := ⟨w.heap.size, 7, none⟩) (Nat.le_refl _) (.int .u32 y.x7)
              go_wp2_with fail
              go_roundw
              case rel => exact ⟨r + 1, y, by omega, by go_num, hyo, HY, hAf, hKf, hRf, hBf⟩
              case measure => simp [intOf]; omega
    · have hr8 : r = 8 := by omega
      subst hr8
      have t0 : wr.cell? ⟨w.heap.size, 0, none⟩ = some (.int .u32 x.x0) := hA.cell (j := 0) (by rw [S8.toL_len]; decide)
      have t1 : wr.cell? ⟨w.heap.size, 1, none⟩ = some (.int .u32 x.x1) := hA.cell (j := 1) (by rw [S8.toL_len]; decide)
      have t2 : wr.cell? ⟨w.heap.size, 2, none⟩ = some (.int .u32 x.x2) := hA.cell (j := 2) (by rw [S8.toL_len]; decide)
      have t3 : wr.cell? ⟨w.heap.size, 3, none⟩ = some (.int .u32 x.x3) := hA.cell (j := 3) (by rw [S8.toL_len]; decide)
      have t4 : wr.cell? ⟨w.heap.size, 4, none⟩ = some (.int .u32 x.x4) := hA.cell (j := 4) (by rw [S8.toL_len]; decide)
      have t5 : wr.cell? ⟨w.heap.size, 5, none⟩ = some (.int .u32 x.x5) := hA.cell (j := 5) (by rw [S8.toL_len]; decide)
      have t6 : wr.cell? ⟨w.heap.size, 6, none⟩ = some (.int .u32 x.x6) := hA.cell (j := 6) (by rw [S8.toL_len]; decide)
      have t7 : wr.cell? ⟨w.heap.size, 7, none⟩ = some (.int .u32 x.x7) := hA.cell (j := 7) (by rw [S8.toL_len]; decide)
      have b0 : wr.cell? ⟨w.heap.size + 1, 0, none⟩ = some (.int .u32 0) := hR.cell (j := 0) (by decide)
      have f0 := hR.fz 0
      have b1 : wr.cell? ⟨w.heap.size + 1, 1, none⟩ = some (.int .u32 0) := hR.cell (j := 1) (by decide)
      have f1 := hR.fz 1
      have b2 : wr.cell? ⟨w.heap.size + 1, 2, none⟩ = some (.int .u32 0) := hR.cell (j := 2) (by decide)
      have f2 := hR.fz 2
      have b3 : wr.cell? ⟨w.heap.size + 1, 3, none⟩ = some (.int .u32 0) := hR.cell (j := 3) (by decide)
      have f3 := hR.fz 3
      have b4 : wr.cell? ⟨w.heap.size + 1, 4, none⟩ = some (.int .u32 0) := hR.cell (j := 4) (by decide)
      have f4 := hR.fz 4
      have b5 : wr.cell? ⟨w.heap.size + 1, 5, none⟩ = some (.int .u32 0) := hR.cell (j := 5) (by decide)
      have f5 := hR.fz 5
      have b6 : wr.cell? ⟨w.heap.size + 1, 6, none⟩ = some (.int .u32 0) := hR.cell (j := 6) (by decide)
      have f6 := hR.fz 6
      have b7 : wr.cell? ⟨w.heap.size + 1, 7, none⟩ = some (.int .u32 0) := hR.cell (j := 7) (by decide)
      have f7 := hR.fz 7
      go_wp2_with fail
      have hRf := put8 (y := x) hR rfl
      have hBf := ((((((((hBr).setCell (p := ⟨w.heap.size + 1, 0, none⟩) (Nat.le_succ _) (.int .u32 x.x0)).setCell (p := ⟨w.heap.size + 1, 1, none⟩) (Nat.le_succ _) (.int .u32 x.x1)).setCell (p := ⟨w.heap.size + 1, 2, none⟩) (Nat.le_succ _) (.int .u32 x.x2)).setCell (p := ⟨w.heap.size + 1, 3, none⟩) (Nat.le_succ _) (.int .u32 x.x3)).setCell (p := ⟨w.heap.size + 1, 4, none⟩) (Nat.le_succ _) (.int .u32 x.x4)).setCell (p := ⟨w.heap.size + 1, 5, none⟩) (Nat.le_succ _) (.int .u32 x.x5)).setCell (p := ⟨w.heap.size + 1, 6, none⟩) (Nat.le_succ _) (.int .u32 x.x6)).setCell (p := ⟨w.heap.size + 1, 7, none⟩) (Nat.le_succ _) (.int .u32 x.x7)
      generalize ((((((((wr.setCell ⟨w.heap.size + 1, 0, none⟩ (.int .u32 x.x0)).setCell ⟨w.heap.size + 1, 1, none⟩ (.int .u32 x.x1)).setCell ⟨w.heap.size + 1, 2, none⟩ (.int .u32 x.x2)).setCell ⟨w.heap.size + 1, 3, none⟩ (.int .u32 x.x3)).setCell ⟨w.heap.size + 1, 4, none⟩ (.int .u32 x.x4)).setCell ⟨w.heap.size + 1, 5, none⟩ (.int .u32 x.x5)).setCell ⟨w.heap.size + 1, 6, none⟩ (.int .u32 x.x6)).setCell ⟨w.heap.size + 1, 7, none⟩ (.int .u32 x.x7)) = wf at *
      have r0 : wf.cell? ⟨w.heap.size + 1, 0, none⟩ = some (.int .u32 x.x0) := hRf.cell (j := 0) (by rw [S8.toL_len]; decide)
      have r1 : wf.cell? ⟨w.heap.size + 1, 1, none⟩ = some (.int .u32 x.x1) := hRf.cell (j := 1) (by rw [S8.toL_len]; decide)
      have r2 : wf.cell? ⟨w.heap.size + 1, 2, none⟩ = some (.int .u32 x.x2) := hRf.cell (j := 2) (by rw [S8.toL_len]; decide)
      have r3 : wf.cell? ⟨w.heap.size + 1, 3, none⟩ = some (.int .u32 x.x3) := hRf.cell (j := 3) (by rw [S8.toL_len]; decide)
      have r4 : wf.cell? ⟨w.heap.size + 1, 4, none⟩ = some (.int .u32 x.x4) := hRf.cell (j := 4) (by rw [S8.toL_len]; decide)
      have r5 : wf.cell? ⟨w.heap.size + 1, 5, none⟩ = some (.int .u32 x.x5) := hRf.cell (j := 5) (by rw [S8.toL_len]; decide)
      have r6 : wf.cell? ⟨w.heap.size + 1, 6, none⟩ = some (.int .u32 x.x6) := hRf.cell (j := 6) (by rw [S8.toL_len]; decide)
      have r7 : wf.cell? ⟨w.heap.size + 1, 7, none⟩ = some (.int .u32 x.x7) := hRf.cell (j := 7) (by rw [S8.toL_len]; decide)
      have hm := HX.out
      subst hm
      refine bodyPost_ret (v := (mixN 8 s).val) (by simp [results, Tryd.results13, go_sem, S8.val, r0, r1, r2, r3, r4, r5, r6, r7]) rfl ⟨rfl, hBf⟩
end Go.Proofs.YtepcpjppogcjbaaDoor
