/-
  The contract of the document's Unmix.
-/
import Derived.Test.YtepcpjppogcjbaaDoorDgM
namespace Go.Proofs.YtepcpjppogcjbaaDoor
open Go.RowKit

/-- The words moved back; a pair of words, back; four of them, the last one first. -/
def movB (L : List Int) : Nat → List Int
  | 0 => [0, 0, 0, 0, 0, 0, 0, 0]
  | n + 1 => (movB L n).set ((n + 3) % 8) (L.getD n 0)
def stepB (k : Int) (i : Nat) (L : List Int) : List Int := (L.set (i + 4) (xw (rotI (L.getD (i + 4) 0) (-k)) (L.getD i 0))).set i (dw (L.getD i 0) (xw (rotI (L.getD (i + 4) 0) (-k)) (L.getD i 0)))
def foldB : Nat → List Int → List Int
  | 0, L => L
  | n + 1, L => stepB (kk (3 - n)) (3 - n) (foldB n L)
theorem stepB_len (k : Int) (i : Nat) (L : List Int) : (stepB k i L).length = L.length := by simp [stepB]
theorem foldB_len (n : Nat) (L : List Int) : (foldB n L).length = L.length := by
  induction n with
  | zero => rfl
  | succ n ih => rw [foldB, stepB_len, ih]
theorem stepB_ok {L : List Int} (h : allW L) (k : Int) (i : Nat) : allW (stepB k i L) := by
  unfold stepB
  exact (h.put (i + 4) (xw_bd (rot_bd (h.get _) _) (h.get _))).put i (dw_bd _ _)
theorem foldB_ok {L : List Int} (h : allW L) (n : Nat) : allW (foldB n L) := by
  induction n with
  | zero => exact h
  | succ n ih => exact stepB_ok ih _ _
theorem movB_len (L : List Int) (n : Nat) : (movB L n).length = 8 := by
  induction n with
  | zero => rfl
  | succ n ih => rw [movB, List.length_set, ih]
theorem foldB_list (z : S8) : foldB 4 z.toL = S8.toL ⟨pa 7 z.x0 z.x4, pa 9 z.x1 z.x5, pa 13 z.x2 z.x6, pa 18 z.x3 z.x7, pb 7 z.x0 z.x4, pb 9 z.x1 z.x5, pb 13 z.x2 z.x6, pb 18 z.x3 z.x7⟩ := by
  simp [foldB, stepB, S8.toL, kk, pa, pb]
theorem round_back (r : Nat) (s y : S8) (hy : (⟨s.x5, s.x6, s.x7, s.x0, s.x1, s.x2, s.x3, s.x4⟩ : S8) = y) : (foldB 4 y.toL).set 0 (dw ((foldB 4 y.toL).getD 0 0) (rc r)) = (unr r s).toL := by
  subst hy
  rw [foldB_list]
  simp [S8.toL, unr]
theorem movB_list (s : S8) : movB s.toL 8 = S8.toL ⟨s.x5, s.x6, s.x7, s.x0, s.x1, s.x2, s.x3, s.x4⟩ := by
  rfl
theorem kk_bd {k : Nat} (h : k < 4) : 0 ≤ kk k ∧ kk k ≤ 18 := by
  match k, h with
  | 0, _ => exact ⟨by decide, by decide⟩
  | 1, _ => exact ⟨by decide, by decide⟩
  | 2, _ => exact ⟨by decide, by decide⟩
  | 3, _ => exact ⟨by decide, by decide⟩

set_option maxHeartbeats 4000000 in
theorem unmix_any (s : S8) (w : World) (hs : s.ok) : Calls Tryd.prog 15 #[s.val] w fun e w' => e = .returned (unmN 8 s).val ∧ Below w.heap.size w w' := by
  go_enter Tryd.func15, Tryd.ntmps15
  simp only [S8.val]
  go_wp2_with fail
  refine (turns_any _).mono ?_
  rintro e w1 ⟨rfl, hB⟩
  go_wp2_with fail
  go_loopw [4] (fun i wr => ∃ (c : Nat) (x : S8), c ≤ 8 ∧ i = .int .i64 (7 - (c : Int)) ∧ x.ok ∧ Hid (unmN (8 - c) x = unmN 8 s) ∧ Arr .u32 23 w.heap.size x.toL wr ∧ Arr .i64 42 w1.heap.size [7, 9, 13, 18] wr ∧ Arr .u32 23 (w.heap.size + 1) [0, 0, 0, 0, 0, 0, 0, 0] wr ∧ Below w.heap.size w wr) (fun i _ => (intOf i + 1).toNat)
  case atStart =>
    refine ⟨0, s, by omega, rfl, hs, rfl, ?_, ?_, ?_, ?_⟩
    · have h := hB.block w.heap.size (by simp <;> omega)
      refine Arr.al ?_ _
      unfold Arr
      rw [h, Below.heap_alloc _ _ _ (by simp <;> omega)]
      exact heap_alloc_new w _
    · exact heap_alloc_new w1 _
    · have h := hB.block (w.heap.size + 1) (by simp <;> omega)
      refine Arr.al ?_ _
      unfold Arr
      rw [h]
      have e := heap_alloc_new (w.alloc (.cells #[.int .u32 s.x0, .int .u32 s.x1, .int .u32 s.x2, .int .u32 s.x3, .int .u32 s.x4, .int .u32 s.x5, .int .u32 s.x6, .int .u32 s.x7] 23)) (.cells #[.int .u32 0, .int .u32 0, .int .u32 0, .int .u32 0, .int .u32 0, .int .u32 0, .int .u32 0, .int .u32 0] 23)
      have e2 : (w.alloc (.cells #[.int .u32 s.x0, .int .u32 s.x1, .int .u32 s.x2, .int .u32 s.x3, .int .u32 s.x4, .int .u32 s.x5, .int .u32 s.x6, .int .u32 s.x7] 23)).heap.size = w.heap.size + 1 := by simp
      rw [e2] at e
      exact e
    · exact (((((Below.refl _ _).alloc (Nat.le_refl _) _).alloc (by simp) _).trans (hB.mono (by simp; omega)))).alloc (by have := hB.size; simp at this; omega) _
  case round =>
    obtain ⟨c, x, hc, rfl, hx, HX, hA, hK, hR, hBr⟩ := hrel
    by_cases hlt : c < 8
    · obtain ⟨r, hr⟩ : ∃ r : Nat, (7 : Int) - (c : Int) = r := ⟨7 - c, by omega⟩
      have HX2 : Hid (unmN (8 - (c + 1)) (unr r x) = unmN 8 s) := by
        show _ = _
        rw [← HX.out, show 8 - c = r + 1 by omega, unmN_succ, show 8 - (c + 1) = r by omega]
      have HR := Lib.hid hr
      have hr7 : r ≤ 7 := by omega
      rw [hr]
      clear hr
      have hd8 : decide ((0 : Int) ≤ (r : Int)) = true := by simp
      have hne : w.heap.size ≠ w1.heap.size := by have := hB.size; simp at this; omega
      obtain ⟨L, hL⟩ : ∃ L, x.toL = L := ⟨_, rfl⟩
      have hLn : L.length = 8 := by rw [← hL]; rfl
      rw [hL] at hA
      have HL := Lib.hid hL
      clear hL
      have hT : Arr .u32 23 wr.heap.size [0, 0, 0, 0, 0, 0, 0, 0] (wr.alloc (.cells #[.int .u32 0, .int .u32 0, .int .u32 0, .int .u32 0, .int .u32 0, .int .u32 0, .int .u32 0, .int .u32 0] 23)) := by
        exact heap_alloc_new wr _
      have hA0 := hA.al (.cells #[.int .u32 0, .int .u32 0, .int .u32 0, .int .u32 0, .int .u32 0, .int .u32 0, .int .u32 0, .int .u32 0] 23)
      have hK0 := hK.al (.cells #[.int .u32 0, .int .u32 0, .int .u32 0, .int .u32 0, .int .u32 0, .int .u32 0, .int .u32 0, .int .u32 0] 23)
      have hR0 := hR.al (.cells #[.int .u32 0, .int .u32 0, .int .u32 0, .int .u32 0, .int .u32 0, .int .u32 0, .int .u32 0, .int .u32 0] 23)
      have hB0 := hBr.alloc hBr.size (.cells #[.int .u32 0, .int .u32 0, .int .u32 0, .int .u32 0, .int .u32 0, .int .u32 0, .int .u32 0, .int .u32 0] 23)
      have n1 : w.heap.size ≠ wr.heap.size := by have := hA.lt; omega
      have n2 : w1.heap.size ≠ wr.heap.size := by have := hK.lt; omega
      have n4 : w.heap.size + 1 ≠ wr.heap.size := by have := hR.lt; omega
      have n3 : w.heap.size ≤ wr.heap.size := hBr.size
      go_wp2_with fail
      generalize wr.alloc (.cells #[.int .u32 0, .int .u32 0, .int .u32 0, .int .u32 0, .int .u32 0, .int .u32 0, .int .u32 0, .int .u32 0] 23) = w5 at *
      generalize wr.heap.size = B at *
      clear hA hK hR hBr
      go_loopw [6] (fun j wj => ∃ m : Nat, m ≤ 8 ∧ j = .int .i64 m ∧ Arr .u32 23 w.heap.size L wj ∧ Arr .u32 23 B (movB L m) wj ∧ Arr .i64 42 w1.heap.size [7, 9, 13, 18] wj ∧ Arr .u32 23 (w.heap.size + 1) [0, 0, 0, 0, 0, 0, 0, 0] wj ∧ Below w.heap.size w wj) (fun j _ => 8 - (intOf j).toNat)
      case atStart => exact ⟨0, by omega, rfl, hA0, hT, hK0, hR0, hB0⟩
      case round =>
        clear hA0 hT hK0 hR0 hB0
        obtain ⟨m, hm, rfl, hA, hT, hK, hR, hBm⟩ := hrel
        by_cases hm8 : m < 8
        · have hmd : decide ((m : Int) < 8) = true := by simp; omega
          have hTn := movB_len L m
          have HP : Hid (movB L (m + 1) = (movB L m).set ((m + 3) % 8) (L.getD m 0)) := rfl
          generalize movB L m = N at *
          have hc1 : wr.cell? ⟨w.heap.size, m, none⟩ = some (.int .u32 (L.getD m 0)) := hA.cell (by omega)
          generalize L.getD m 0 = v at *
          have hc2 : wr.cell? ⟨B, (m + 3) % 8, none⟩ = some (.int .u32 (N.getD ((m + 3) % 8) 0)) := hT.cell (by omega)
          have hf2 := hT.fz ((m + 3) % 8)
          have e6 : (((m : Int) + 3) % 8).toNat = (m + 3) % 8 := by omega
          have e7 : (0 : Int) ≤ ((m : Int) + 3) % 8 := by omega
          have e8 : ((m : Int) + 3) % 8 < 8 := by omega
          go_wp2_with fail
          go_roundw
          case rel =>
            refine ⟨m + 1, by omega, by go_num, hA.far n1 _, ?_, hK.far n2 _, hR.far n4 _, hBm.setCell (p := ⟨B, (m + 3) % 8, none⟩) n3 _⟩
            rw [HP.out]
            exact hT.set ((m + 3) % 8) _
          case measure => simp [intOf]; omega
        · have hm8 : m = 8 := by omega
          subst hm8
          rw [show ((8 : Nat) : Int) = 8 from rfl]
          obtain ⟨y, hy⟩ : ∃ y : S8, (⟨x.x5, x.x6, x.x7, x.x0, x.x1, x.x2, x.x3, x.x4⟩ : S8) = y := ⟨_, rfl⟩
          have hNy : movB L 8 = y.toL := by rw [← hy, ← HL.out]; exact movB_list x
          have hyo : y.ok := by
            obtain ⟨h0, h1, h2, h3, h4, h5, h6, h7⟩ := hx
            rw [← hy]
            exact ⟨h5, h6, h7, h0, h1, h2, h3, h4⟩
          have HF : Hid ((foldB 4 y.toL).set 0 (dw ((foldB 4 y.toL).getD 0 0) (rc r)) = (unr r x).toL) := by
            exact round_back r x y hy
          rw [hNy] at hT
          clear hNy hy
          have t0 : wr.cell? ⟨B, 0, none⟩ = some (.int .u32 y.x0) := hT.cell (j := 0) (by rw [S8.toL_len]; decide)
          have t1 : wr.cell? ⟨B, 1, none⟩ = some (.int .u32 y.x1) := hT.cell (j := 1) (by rw [S8.toL_len]; decide)
          have t2 : wr.cell? ⟨B, 2, none⟩ = some (.int .u32 y.x2) := hT.cell (j := 2) (by rw [S8.toL_len]; decide)
          have t3 : wr.cell? ⟨B, 3, none⟩ = some (.int .u32 y.x3) := hT.cell (j := 3) (by rw [S8.toL_len]; decide)
          have t4 : wr.cell? ⟨B, 4, none⟩ = some (.int .u32 y.x4) := hT.cell (j := 4) (by rw [S8.toL_len]; decide)
          have t5 : wr.cell? ⟨B, 5, none⟩ = some (.int .u32 y.x5) := hT.cell (j := 5) (by rw [S8.toL_len]; decide)
          have t6 : wr.cell? ⟨B, 6, none⟩ = some (.int .u32 y.x6) := hT.cell (j := 6) (by rw [S8.toL_len]; decide)
          have t7 : wr.cell? ⟨B, 7, none⟩ = some (.int .u32 y.x7) := hT.cell (j := 7) (by rw [S8.toL_len]; decide)
          have b0 := hA.cell (j := 0) (by omega)
          have f0 := hA.fz 0
          have b1 := hA.cell (j := 1) (by omega)
          have f1 := hA.fz 1
          have b2 := hA.cell (j := 2) (by omega)
          have f2 := hA.fz 2
          have b3 := hA.cell (j := 3) (by omega)
          have f3 := hA.fz 3
          have b4 := hA.cell (j := 4) (by omega)
          have f4 := hA.fz 4
          have b5 := hA.cell (j := 5) (by omega)
          have f5 := hA.fz 5
          have b6 := hA.cell (j := 6) (by omega)
          have f6 := hA.fz 6
          have b7 := hA.cell (j := 7) (by omega)
          have f7 := hA.fz 7
          have hA1 := put8 (y := y) hA hLn
          have hK1 := ((((((((hK).far (a := ⟨w.heap.size, 0, none⟩) (Ne.symm hne) (.int .u32 y.x0)).far (a := ⟨w.heap.size, 1, none⟩) (Ne.symm hne) (.int .u32 y.x1)).far (a := ⟨w.heap.size, 2, none⟩) (Ne.symm hne) (.int .u32 y.x2)).far (a := ⟨w.heap.size, 3, none⟩) (Ne.symm hne) (.int .u32 y.x3)).far (a := ⟨w.heap.size, 4, none⟩) (Ne.symm hne) (.int .u32 y.x4)).far (a := ⟨w.heap.size, 5, none⟩) (Ne.symm hne) (.int .u32 y.x5)).far (a := ⟨w.heap.size, 6, none⟩) (Ne.symm hne) (.int .u32 y.x6)).far (a := ⟨w.heap.size, 7, none⟩) (Ne.symm hne) (.int .u32 y.x7)
          have hR1 := ((((((((hR).far (a := ⟨w.heap.size, 0, none⟩) (by simp) (.int .u32 y.x0)).far (a := ⟨w.heap.size, 1, none⟩) (by simp) (.int .u32 y.x1)).far (a := ⟨w.heap.size, 2, none⟩) (by simp) (.int .u32 y.x2)).far (a := ⟨w.heap.size, 3, none⟩) (by simp) (.int .u32 y.x3)).far (a := ⟨w.heap.size, 4, none⟩) (by simp) (.int .u32 y.x4)).far (a := ⟨w.heap.size, 5, none⟩) (by simp) (.int .u32 y.x5)).far (a := ⟨w.heap.size, 6, none⟩) (by simp) (.int .u32 y.x6)).far (a := ⟨w.heap.size, 7, none⟩) (by simp) (.int .u32 y.x7)
          have hB1 := ((((((((hBm).setCell (p := ⟨w.heap.size, 0, none⟩) (Nat.le_refl _) (.int .u32 y.x0)).setCell (p := ⟨w.heap.size, 1, none⟩) (Nat.le_refl _) (.int .u32 y.x1)).setCell (p := ⟨w.heap.size, 2, none⟩) (Nat.le_refl _) (.int .u32 y.x2)).setCell (p := ⟨w.heap.size, 3, none⟩) (Nat.le_refl _) (.int .u32 y.x3)).setCell (p := ⟨w.heap.size, 4, none⟩) (Nat.le_refl _) (.int .u32 y.x4)).setCell (p := ⟨w.heap.size, 5, none⟩) (Nat.le_refl _) (.int .u32 y.x5)).setCell (p := ⟨w.heap.size, 6, none⟩) (Nat.le_refl _) (.int .u32 y.x6)).setCell (p := ⟨w.heap.size, 7, none⟩) (Nat.le_refl _) (.int .u32 y.x7)
          have hMl := S8.toL_len y
          have hMo := S8.toL_ok hyo
          go_wp2_with fail
          generalize ((((((((wr.setCell ⟨w.heap.size, 0, none⟩ (.int .u32 y.x0)).setCell ⟨w.heap.size, 1, none⟩ (.int .u32 y.x1)).setCell ⟨w.heap.size, 2, none⟩ (.int .u32 y.x2)).setCell ⟨w.heap.size, 3, none⟩ (.int .u32 y.x3)).setCell ⟨w.heap.size, 4, none⟩ (.int .u32 y.x4)).setCell ⟨w.heap.size, 5, none⟩ (.int .u32 y.x5)).setCell ⟨w.heap.size, 6, none⟩ (.int .u32 y.x6)).setCell ⟨w.heap.size, 7, none⟩ (.int .u32 y.x7)) = w6 at *
          clear t0 b0 f0 t1 b1 f1 t2 b2 f2 t3 b3 f3 t4 b4 f4 t5 b5 f5 t6 b6 f6 t7 b7 f7 hA hT hK hR hBm
          generalize y.toL = Y at *
          go_loopw [7] (fun i wi => ∃ d : Nat, d ≤ 4 ∧ i = .int .i64 (3 - (d : Int)) ∧ Arr .u32 23 w.heap.size (foldB d Y) wi ∧ Arr .i64 42 w1.heap.size [7, 9, 13, 18] wi ∧ Arr .u32 23 (w.heap.size + 1) [0, 0, 0, 0, 0, 0, 0, 0] wi ∧ Below w.heap.size w wi) (fun i _ => (intOf i + 1).toNat)
          case atStart => exact ⟨0, by omega, rfl, hA1, hK1, hR1, hB1⟩
          case round =>
            clear hA1 hK1 hR1 hB1
            obtain ⟨d, hd, rfl, hA, hK, hR, hBk⟩ := hrel
            by_cases hd4 : d < 4
            · obtain ⟨k, hk⟩ : ∃ k : Nat, (3 : Int) - (d : Int) = k := ⟨3 - d, by omega⟩
              have hk3' : k < 4 := by omega
              have HM : Hid (foldB (d + 1) Y = stepB (kk k) k (foldB d Y)) := by
                show _ = _
                rw [foldB, show 3 - d = k by omega]
              have HK := Lib.hid hk
              rw [hk]
              clear hk
              have hkd : decide ((0 : Int) ≤ (k : Int)) = true := by simp
              have hMn : (foldB d Y).length = 8 := by rw [foldB_len, hMl]
              have hMw := foldB_ok hMo d
              generalize foldB d Y = M at *
              obtain ⟨a, ha⟩ : ∃ a, M.getD k 0 = a := ⟨_, rfl⟩
              obtain ⟨b, hb⟩ : ∃ b, M.getD (k + 4) 0 = b := ⟨_, rfl⟩
              have hc1 : wr.cell? ⟨w.heap.size, k, none⟩ = some (.int .u32 a) := by rw [← ha]; exact hA.cell (by omega)
              have hc2 : wr.cell? ⟨w.heap.size, k + 4, none⟩ = some (.int .u32 b) := by rw [← hb]; exact hA.cell (by omega)
              have hc3 : wr.cell? ⟨w1.heap.size, k, none⟩ = some (.int .i64 (kk k)) := hK.cell (j := k) (by simp; omega)
              have hf1 := hA.fz k
              have hf2 := hA.fz (k + 4)
              have hbw : isW b := by rw [← hb]; exact hMw.get _
              have haw : isW a := by rw [← ha]; exact hMw.get _
              have hbr : isW (rotI b (-(kk k))) := rot_bd hbw _
              have hq := kk_bd hk3'
              have HS : Hid (foldB (d + 1) Y = (M.set (k + 4) (bits .xor .u32 (rotI b (-(kk k))) a)).set k ((a - bits .xor .u32 (rotI b (-(kk k))) a) % 4294967296)) := by
                show _ = _
                rw [HM.out, bits_xw hbr haw, stepB, ha, hb]; rfl
              have e9 : IntKind.i64.wrap (-(kk k)) = -(kk k) := IntWalk.i64_in _ (by omega)
              generalize kk k = q at *
              have e1 : IntKind.i64.wrap ((k : Int) + 4) = (k : Int) + 4 := IntWalk.i64_in _ (by omega)
              have e2 : (0 : Int) ≤ (k : Int) + 4 := by omega
              have e3 : ((k : Int) + 4).toNat = k + 4 := by omega
              have e4 : (k : Int) + 4 < 8 := by omega
              have e5 : (k : Int) < 8 := by omega
              have e10 : (k : Int) < 4 := by omega
              go_wp2_with fail
              go_still_tail 15, (by kernel_rfl)
              still_call (turn_still b (-q) _ hbw)
              repeat still_step
              refine wpStill_nil ?_
              change wpList _ _ _ _ _ wr.drew
              have hA4 : Arr .u32 23 w.heap.size M wr.drew := hA
              have hK4 : Arr .i64 42 w1.heap.size [7, 9, 13, 18] wr.drew := hK
              have hR4 : Arr .u32 23 (w.heap.size + 1) [0, 0, 0, 0, 0, 0, 0, 0] wr.drew := hR
              have hB4 := hBk.drew
              have hc4 : wr.drew.cell? ⟨w.heap.size, k + 4, none⟩ = some (.int .u32 b) := hc2
              have hf4 : wr.drew.frozen? ⟨w.heap.size, k + 4, none⟩ = false := hf2
              generalize wr.drew = w4 at *
              clear hc1 hc2 hc3 hf1 hf2 hA hK hR hBk e1 e9
              go_wp2_with fail
              generalize bits .xor .u32 (rotI b (-q)) a = p at *
              have hA5 := hA4.set (k + 4) p
              have hK5 := hK4.far (a := ⟨w.heap.size, k + 4, none⟩) (Ne.symm hne) (.int .u32 p)
              have hR5 := hR4.far (a := ⟨w.heap.size, k + 4, none⟩) (by simp) (.int .u32 p)
              have hB5 := hB4.setCell (p := ⟨w.heap.size, k + 4, none⟩) (Nat.le_refl _) (.int .u32 p)
              generalize w4.setCell ⟨w.heap.size, k + 4, none⟩ (.int .u32 p) = w7 at *
              clear hA4 hK4 hR4 hB4 hc4 hf4
              have hc1 : w7.cell? ⟨w.heap.size, k, none⟩ = some (.int .u32 a) := by
                have h := hA5.cell (j := k) (by rw [List.length_set]; omega)
                rw [h, ← ha]; simp [List.getD]
              have hc2 : w7.cell? ⟨w.heap.size, k + 4, none⟩ = some (.int .u32 p) := by
                have h := hA5.cell (j := k + 4) (by rw [List.length_set]; omega)
                rw [h]; simp [List.getD, hMn, show k + 4 < 8 by omega]
              have hf1 := hA5.fz k
              have hA6 := hA5.set k ((a - p) % 4294967296)
              have hK6 := hK5.far (a := ⟨w.heap.size, k, none⟩) (Ne.symm hne) (.int .u32 ((a - p) % 4294967296))
              have hR6 := hR5.far (a := ⟨w.heap.size, k, none⟩) (by simp) (.int .u32 ((a - p) % 4294967296))
              have hB6 := hB5.setCell (p := ⟨w.heap.size, k, none⟩) (Nat.le_refl _) (.int .u32 ((a - p) % 4294967296))
              rw [← HS.out] at hA6
              go_wp2_with fail
              go_region
              go_wp2_with fail
              go_roundw
              case rel => exact ⟨d + 1, by omega, congrArg (Value.int .i64) (by have := HK.out; omega), hA6, hK6, hR6, hB6.drew⟩
              case measure => simp [intOf]
            · have hd4 : d = 4 := by omega
              subst hd4
              rw [show (3 : Int) - ((4 : Nat) : Int) = -1 from rfl]
              have hc0 : wr.cell? ⟨w.heap.size, 0, none⟩ = some (.int .u32 ((foldB 4 Y).getD 0 0)) := hA.cell (by rw [foldB_len]; omega)
              have hf0 := hA.fz 0
              have hv : ((foldB 4 Y).getD 0 0 - 2654435769 * ((r : Int) + 1)) % 4294967296 = dw ((foldB 4 Y).getD 0 0) (rc r) := by unfold dw rc; omega
              have hA1 : Arr .u32 23 w.heap.size (unr r x).toL (wr.setCell ⟨w.heap.size, 0, none⟩ (.int .u32 (((foldB 4 Y).getD 0 0 - 2654435769 * ((r : Int) + 1)) % 4294967296))) := by
                rw [← HF.out, ← hv]; exact hA.set 0 _
              have hK1 := hK.far (a := ⟨w.heap.size, 0, none⟩) (Ne.symm hne) (.int .u32 (((foldB 4 Y).getD 0 0 - 2654435769 * ((r : Int) + 1)) % 4294967296))
              have hR1 := hR.far (a := ⟨w.heap.size, 0, none⟩) (by simp) (.int .u32 (((foldB 4 Y).getD 0 0 - 2654435769 * ((r : Int) + 1)) % 4294967296))
              have hB1 := hBk.setCell (p := ⟨w.heap.size, 0, none⟩) (Nat.le_refl _) (.int .u32 (((foldB 4 Y).getD 0 0 - 2654435769 * ((r : Int) + 1)) % 4294967296))
              have hxo := unr_ok r hx
              clear hv
              generalize (foldB 4 Y).getD 0 0 = z0 at *
              go_wp2_with fail
              go_roundw
              case rel => exact ⟨c + 1, unr r x, by omega, congrArg (Value.int .i64) (by have := HR.out; omega), hxo, HX2, hA1, hK1, hR1, hB1⟩
              case measure => simp [intOf]
    · have hc8 : c = 8 := by omega
      subst hc8
      rw [show (7 : Int) - ((8 : Nat) : Int) = -1 from rfl]
      have t0 : wr.cell? ⟨w.heap.size, 0, none⟩ = some (.int .u32 x.x0) := hA.cell (j := 0) (by rw [S8.toL_len]; decide)
      have t1 : wr.cell? ⟨w.heap.size, 1, none⟩ = some (.int .u32 x.x1) := hA.cell (j := 1) (by rw [S8.toL_len]; decide)
      have t2 : wr.cell? ⟨w.heap.size, 2, none⟩ = some (.int .u32 x.x2) := hA.cell (j := 2) (by rw [S8.toL_len]; decide)
      have t3 : wr.cell? ⟨w.heap.size, 3, none⟩ = some (.int .u32 x.x3) := hA.cell (j := 3) (by rw [S8.toL_len]; decide)
      have t4 : wr.cell? ⟨w.heap.size, 4, none⟩ = some (.int .u32 x.x4) := hA.cell (j := 4) (by rw [S8.toL_len]; decide)
      have t5 : wr.cell? ⟨w.heap.size, 5, none⟩ = some (.int .u32 x.x5) := hA.cell (j := 5) (by rw [S8.toL_len]; decide)
      have t6 : wr.cell? ⟨w.heap.size, 6, none⟩ = some (.int .u32 x.x6) := hA.cell (j := 6) (by rw [S8.toL_len]; decide)
      have t7 : wr.cell? ⟨w.heap.size, 7, none⟩ = some (.int .u32 x.x7) := hA.cell (j := 7) (by rw [S8.toL_len]; decide)
      have b0 : wr.cell? ⟨w.heap.size + 1, 0, none⟩ = some (.int .u32 0) := hR.cell (j := 0) (by decide)
      have f0 := hR.fz 0
      have b1 : wr.cell? ⟨w.heap.size + 1, 1, none⟩ = some (.int .u32 0) := hR.cell (j := 1) (by decide)
      have f1 := hR.fz 1
      have b2 : wr.cell? ⟨w.heap.size + 1, 2, none⟩ = some (.int .u32 0) := hR.cell (j := 2) (by decide)
      have f2 := hR.fz 2
      have b3 : wr.cell? ⟨w.heap.size + 1, 3, none⟩ = some (.int .u32 0) := hR.cell (j := 3) (by decide)
      have f3 := hR.fz 3
      have b4 : wr.cell? ⟨w.heap.size + 1, 4, none⟩ = some (.int .u32 0) := hR.cell (j := 4) (by decide)
      have f4 := hR.fz 4
      have b5 : wr.cell? ⟨w.heap.size + 1, 5, none⟩ = some (.int .u32 0) := hR.cell (j := 5) (by decide)
      have f5 := hR.fz 5
      have b6 : wr.cell? ⟨w.heap.size + 1, 6, none⟩ = some (.int .u32 0) := hR.cell (j := 6) (by decide)
      have f6 := hR.fz 6
      have b7 : wr.cell? ⟨w.heap.size + 1, 7, none⟩ = some (.int .u32 0) := hR.cell (j := 7) (by decide)
      have f7 := hR.fz 7
      go_wp2_with fail
      have hRf := put8 (y := x) hR rfl
      have hBf := ((((((((hBr).setCell (p := ⟨w.heap.size + 1, 0, none⟩) (Nat.le_succ _) (.int .u32 x.x0)).setCell (p := ⟨w.heap.size + 1, 1, none⟩) (Nat.le_succ _) (.int .u32 x.x1)).setCell (p := ⟨w.heap.size + 1, 2, none⟩) (Nat.le_succ _) (.int .u32 x.x2)).setCell (p := ⟨w.heap.size + 1, 3, none⟩) (Nat.le_succ _) (.int .u32 x.x3)).setCell (p := ⟨w.heap.size + 1, 4, none⟩) (Nat.le_succ _) (.int .u32 x.x4)).setCell (p := ⟨w.heap.size + 1, 5, none⟩) (Nat.le_succ _) (.int .u32 x.x5)).setCell (p := ⟨w.heap.size + 1, 6, none⟩) (Nat.le_succ _) (.int .u32 x.x6)).setCell (p := ⟨w.heap.size + 1, 7, none⟩) (Nat.le_succ _) (.int .u32 x.x7)
      generalize ((((((((wr.setCell ⟨w.heap.size + 1, 0, none⟩ (.int .u32 x.x0)).setCell ⟨w.heap.size + 1, 1, none⟩ (.int .u32 x.x1)).setCell ⟨w.heap.size + 1, 2, none⟩ (.int .u32 x.x2)).setCell ⟨w.heap.size + 1, 3, none⟩ (.int .u32 x.x3)).setCell ⟨w.heap.size + 1, 4, none⟩ (.int .u32 x.x4)).setCell ⟨w.heap.size + 1, 5, none⟩ (.int .u32 x.x5)).setCell ⟨w.heap.size + 1, 6, none⟩ (.int .u32 x.x6)).setCell ⟨w.heap.size + 1, 7, none⟩ (.int .u32 x.x7)) = wf at *
      have r0 : wf.cell? ⟨w.heap.size + 1, 0, none⟩ = some (.int .u32 x.x0) := hRf.cell (j := 0) (by rw [S8.toL_len]; decide)
      have r1 : wf.cell? ⟨w.heap.size + 1, 1, none⟩ = some (.int .u32 x.x1) := hRf.cell (j := 1) (by rw [S8.toL_len]; decide)
      have r2 : wf.cell? ⟨w.heap.size + 1, 2, none⟩ = some (.int .u32 x.x2) := hRf.cell (j := 2) (by rw [S8.toL_len]; decide)
      have r3 : wf.cell? ⟨w.heap.size + 1, 3, none⟩ = some (.int .u32 x.x3) := hRf.cell (j := 3) (by rw [S8.toL_len]; decide)
      have r4 : wf.cell? ⟨w.heap.size + 1, 4, none⟩ = some (.int .u32 x.x4) := hRf.cell (j := 4) (by rw [S8.toL_len]; decide)
      have r5 : wf.cell? ⟨w.heap.size + 1, 5, none⟩ = some (.int .u32 x.x5) := hRf.cell (j := 5) (by rw [S8.toL_len]; decide)
      have r6 : wf.cell? ⟨w.heap.size + 1, 6, none⟩ = some (.int .u32 x.x6) := hRf.cell (j := 6) (by rw [S8.toL_len]; decide)
      have r7 : wf.cell? ⟨w.heap.size + 1, 7, none⟩ = some (.int .u32 x.x7) := hRf.cell (j := 7) (by rw [S8.toL_len]; decide)
      have hm : x = unmN 8 s := HX.out
      subst hm
      refine bodyPost_ret (v := (unmN 8 s).val) (by simp [results, Tryd.results15, go_sem, S8.val, r0, r1, r2, r3, r4, r5, r6, r7]) rfl ⟨rfl, hBf⟩
end Go.Proofs.YtepcpjppogcjbaaDoor
