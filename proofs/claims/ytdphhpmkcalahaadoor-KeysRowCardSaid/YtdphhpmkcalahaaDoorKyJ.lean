/-
  The code's list of public keys, Public and New of layer 6 (written by gen_cpub.py).
-/
import Derived.Test.YtdphhpmkcalahaaDoorKyI
import Derived.Test.YtdphhpmkcalahaaDoorKyB
import Derived.Test.YtdphhpmkcalahaaDoorMkC2
namespace Go.Proofs.YtdphhpmkcalahaaDoor
open Go.RowKit

theorem dCells_zeros : ∀ N : Nat, dCells (List.replicate N zeroD) = List.replicate (N * 4) (.int .u32 0)
  | 0 => rfl
  | N + 1 => by
    rw [show (N + 1) * 4 = N * 4 + 1 + 1 + 1 + 1 by omega]
    simp only [List.replicate_succ]
    show (.int .u32 0 :: .int .u32 0 :: .int .u32 0 :: .int .u32 0 :: dCells (List.replicate N zeroD)) = _
    rw [dCells_zeros N]
theorem madeN (f : Nat → D4) (N : Nat) : (madeCells (Value.agg #[.int .u32 0, .int .u32 0, .int .u32 0, .int .u32 0]).cells (N * 4)).toList = dCells (fillR f N 0) := by
  rw [fillR_none, dCells_zeros]
  apply List.ext_getElem
  · simp [madeCells]
  · intro i h1 h2
    have h4 : i % 4 < 4 := Nat.mod_lt _ (by decide)
    simp only [madeCells, Value.cells, Array.getElem_toList, Array.getElem_map, Array.getElem_range, List.getElem_replicate]
    show #[Value.int .u32 0, .int .u32 0, .int .u32 0, .int .u32 0][i % 4]! = _
    generalize i % 4 = m at h4
    match m, h4 with
    | 0, _ => rfl
    | 1, _ => rfl
    | 2, _ => rfl
    | 3, _ => rfl
theorem cpub_nm (seed v : D4) (w : World) (hs : seed.ok) (hT : TurnsOk w) (hv : publicD seed = v) :
    Calls Tryd.prog 49 #[.agg #[.int .u32 seed.d0, .int .u32 seed.d1, .int .u32 seed.d2, .int .u32 seed.d3]] w fun e w' => e = .returned (.agg #[.int .u32 v.d0, .int .u32 v.d1, .int .u32 v.d2, .int .u32 v.d3]) ∧ Below w.heap.size w w' := cpub_any seed v w hs hT hv
theorem croot_nm (l : List D4) (y : D4) (b o n cap : Nat) (w : World) (hle : l.length ≤ 1000000) (hok : allD4 l) (hr : RdL w b o l) (hn : n = l.length) (hc : n ≤ cap) (hm : cap ≤ maxLen) (hT : TurnsOk w) (hy : rootD l = y) :
    Calls Tryd.prog 27 #[.slice (some ⟨b, o, none⟩) n cap] w fun e w' => e = .returned (.agg #[.int .u32 y.d0, .int .u32 y.d1, .int .u32 y.d2, .int .u32 y.d3]) ∧ Below w.heap.size w w' :=
  croot_val l (croot_any l hle hok) y b o n cap w hr hn (by omega) hm hT hy
set_option maxHeartbeats 4000000 in
set_option maxRecDepth 100000 in
theorem cpublics_any (s : D4) (h : Nat) (l : List D4) (N : Nat) (w : World) (hs : s.ok) (hh : h ≤ 4) (hl : keysL s h = l) (hN : l.length = N) (hT : TurnsOk w) :
    Calls Tryd.prog 28 #[.agg #[.int .u32 s.d0, .int .u32 s.d1, .int .u32 s.d2, .int .u32 s.d3], .int .i64 (h : Int)] w fun e w' => ∃ b, e = .returned (.slice (some ⟨b, 0, none⟩) N N) ∧ RdL w' b 0 l ∧ Below w.heap.size w w' := by
  obtain ⟨i0, hinf, hz0, hz1, hz2⟩ := info_parts info_dg
  have hn16 : 2 ^ h ≤ 16 := pow_le16 (Nat.le_refl _) hh
  have hn1 : 0 < 2 ^ h := Nat.two_pow_pos h
  have hNN : 2 ^ h = N := by rw [← hN, ← hl, keysL_len]
  rw [hNN] at hn16 hn1
  have hsh : wrap64 ((2 : Int) ^ h) = (N : Int) := by
    rw [show ((2 : Int) ^ h) = (N : Int) by rw [← hNN]; simp]
    exact IntWalk.wrap64_in _ (by omega)
  have HL : Hid (mapR (keyK s) N = l) := by show _ = _; rw [← hNN]; exact hl
  have HS := Lib.hid hs
  have HT := Lib.hid hT
  obtain ⟨w0, hw0⟩ : ∃ w0, w.alloc (.cells #[.int .u32 s.d0, .int .u32 s.d1, .int .u32 s.d2, .int .u32 s.d3] 24) = w0 := ⟨_, rfl⟩
  have hA0 : Arr .u32 24 w.heap.size s.toL w0 := by rw [← hw0]; exact heap_alloc_new w _
  have hB0 : Below w.heap.size w w0 := by rw [← hw0]; exact (Below.refl _ _).alloc (Nat.le_refl _) _
  have hs1 := hA0.lt
  have hT0 := hT.below hB0
  have hgT : 0 < w0.heap.size := tab_low hT0 gTrn
  clear hl hN hs hNN hT
  go_enter Tryd.func28, Tryd.ntmps28
  go_wp2_with (at_make; refine wpList_make_full _ rfl _ _ 35 rfl w0.heap.size 24 i0 (.agg #[.int .u32 0, .int .u32 0, .int .u32 0, .int .u32 0]) 4 Tryd.underlying35 hinf hz0 hz1 .i64 .i64 _ _ N rfl rfl hsh hsh (by rw [hz2]; omega) (by unfold maxLen; omega) (Nat.le_refl _) ?_; intro w1 hown1 hg1)
  rw [madeN (keyK s) N] at hown1
  have hO1 : OwnsD w0.heap.size (.slice (some ⟨w0.heap.size, 0, none⟩) N N) (fillR (keyK s) N 0) w1 := by unfold OwnsD; rw [fillR_len]; exact hown1
  have hC1 : Below w0.heap.size w0 w1 := (Below.refl _ _).grown hg1 (Nat.le_refl _) (fun k hk => by cases hk)
  clear hown1 hg1 hw0 hsh
  go_loopw [12] (fun i wr => ∃ k : Nat, k ≤ N ∧ i = .int .i64 (k : Int) ∧ OwnsD w0.heap.size (.slice (some ⟨w0.heap.size, 0, none⟩) N N) (fillR (keyK s) N k) wr ∧ Below w0.heap.size w0 wr) (fun i _ => N - (intOf i).toNat)
  case atStart => exact ⟨0, Nat.zero_le _, rfl, hO1, hC1⟩
  case round =>
    clear hO1 hC1
    obtain ⟨k, hk, rfl, hO, hC⟩ := hrel
    have hA := hA0.thr hC hs1
    have hTr := turns_far hT0 hgT hC
    obtain ⟨l0, l1, l2, l3⟩ := Arr.c4 hA
    by_cases hlt : k < N
    · have hkd : decide ((k : Int) < (N : Int)) = true := by simp; omega
      have hk0 : (0 : Int) ≤ (k : Int) := by omega
      have hk1 : (k : Int) < (N : Int) := by omega
      obtain ⟨z, hz⟩ : ∃ z, seedK s k = z := ⟨_, rfl⟩
      have hzo : z.ok := by rw [← hz]; exact seedK_ok s k
      obtain ⟨y, hy⟩ : ∃ y, publicD z = y := ⟨_, rfl⟩
      have HY : Hid (keyK s k = y) := by show _ = _; rw [keyK, hz, hy]
      have HZ0 := Lib.hid hz
      have HY0 := Lib.hid hy
      have HZO := Lib.hid hzo
      clear hz hy hzo
      go_wp2_with fail
      refine (ckeyseed_any s z k wr HS.out (by omega) hTr HZ0.out).mono ?_
      rintro e w1 ⟨rfl, hD⟩
      have hT1 := hTr.below hD
      go_wp2_with fail
      refine (cpub_nm z y w1 HZO.out hT1 HY0.out).mono ?_
      rintro e w2 ⟨rfl, hE⟩
      have hD2 := hD.trans (hE.mono hD.size)
      have hO2 := hO.on hD2
      have hC2 := hC.trans (hD2.mono hC.size)
      have hfl := fillR_len (keyK s) N k
      clear hA hTr hD hT1 hE hO hC hD2 l0 l1 l2 l3
      obtain ⟨c0, c1, c2, c3⟩ := hO2.at hfl (i := k) (by omega)
      have f0 := hO2.fz hfl (k * 4)
      have f1 := hO2.fz hfl (k * 4 + 1)
      have f2 := hO2.fz hfl (k * 4 + 2)
      have f3 := hO2.fz hfl (k * 4 + 3)
      have hO3 := hO2.put hfl (i := k) (by omega) y
      have hC3 := below_row4 (j := k * 4) hC2 (Nat.le_refl _) y
      rw [← HY.out, fillR_step (keyK s) N k, HY.out] at hO3
      clear hO2 hC2
      go_wp2_with fail
      generalize (((w2.setCell ⟨w0.heap.size, k * 4, none⟩ (.int .u32 y.d0)).setCell ⟨w0.heap.size, k * 4 + 1, none⟩ (.int .u32 y.d1)).setCell ⟨w0.heap.size, k * 4 + 2, none⟩ (.int .u32 y.d2)).setCell ⟨w0.heap.size, k * 4 + 3, none⟩ (.int .u32 y.d3) = w3 at *
      go_roundw
      case rel => exact ⟨k + 1, by omega, by go_num, hO3, hC3⟩
      case measure => simp [intOf]; omega
    · have hkN : k = N := by omega
      subst hkN
      rw [fillR_full, HL.out] at hO
      have hml : l.length = k := by rw [← HL.out]; exact mapR_len _ _
      have hrd := hO.reads hml hn1
      have hB := hB0.trans (hC.mono hB0.size)
      clear hO hA hC l0 l1 l2 l3 hml
      go_wp2_with fail
      go_ret
      exact ⟨_, rfl, hrd, hB⟩
set_option maxHeartbeats 4000000 in
set_option maxRecDepth 100000 in
theorem cpub6_no (s : D4) (h : Int) (w : World) (hh : h < 0 ∨ 4 < h) :
    Calls Tryd.prog 11 #[.agg #[.int .u32 s.d0, .int .u32 s.d1, .int .u32 s.d2, .int .u32 s.d3], .int .i64 h] w fun e w' => e = .returned (.tuple #[zeroD.val, .int .i64 2]) ∧ Below w.heap.size w w' := by
  obtain ⟨w0, hw0⟩ : ∃ w0, (w.alloc (.cells #[.int .u32 s.d0, .int .u32 s.d1, .int .u32 s.d2, .int .u32 s.d3] 24)).alloc (.cells #[.int .u32 0, .int .u32 0, .int .u32 0, .int .u32 0] 24) = w0 := ⟨_, rfl⟩
  obtain ⟨hM0, hR0, hB0⟩ := start46 s w w0 hw0
  obtain ⟨b0, b1, b2, b3⟩ := Arr.c4 (d := zeroD) hR0
  obtain ⟨f0, f1, f2, f3⟩ := hR0.f4
  have hRf := put4 (d := zeroD) hR0 rfl
  have hBf := below_put4 hB0 (show w.heap.size ≤ w.heap.size + 1 by omega) zeroD
  simp only [zeroD] at b0 b1 b2 b3 hRf hBf
  have hall : (decide (0 ≤ h) && decide (h ≤ 4)) = false := by
    rw [Bool.and_eq_false_iff]
    rcases hh with q | q
    · left; exact decide_eq_false (by omega)
    · right; exact decide_eq_false (by omega)
  have HALL := Lib.hid hall
  clear hh hall
  go_enter Tryd.func11, Tryd.ntmps11
  go_wp2_with fail
  refine (ishigh_any h w0).mono ?_
  rintro e w1 ⟨rfl, rfl⟩
  rw [HALL.out]
  clear hw0
  go_wp2_with fail
  generalize (((w0.setCell ⟨w.heap.size + 1, 0, none⟩ (.int .u32 0)).setCell ⟨w.heap.size + 1, 1, none⟩ (.int .u32 0)).setCell ⟨w.heap.size + 1, 2, none⟩ (.int .u32 0)).setCell ⟨w.heap.size + 1, 3, none⟩ (.int .u32 0) = wf at *
  obtain ⟨r0, r1, r2, r3⟩ := hRf.c4
  simp only at r0 r1 r2 r3
  refine bodyPost_ret (v := .tuple #[zeroD.val, .int .i64 2]) (by simp [results, Tryd.results11, go_sem, D4.val, zeroD, r0, r1, r2, r3]) rfl ⟨rfl, hBf⟩
set_option maxHeartbeats 4000000 in
set_option maxRecDepth 100000 in
theorem cpub6_yes (s v : D4) (h : Nat) (w : World) (hs : s.ok) (hh : h ≤ 4) (hT : TurnsOk w) (hv : pubK s h = v) :
    Calls Tryd.prog 11 #[.agg #[.int .u32 s.d0, .int .u32 s.d1, .int .u32 s.d2, .int .u32 s.d3], .int .i64 (h : Int)] w fun e w' => e = .returned (.tuple #[v.val, .int .i64 0]) ∧ Below w.heap.size w w' := by
  obtain ⟨l, hl⟩ : ∃ l, keysL s h = l := ⟨_, rfl⟩
  obtain ⟨N, hN⟩ : ∃ N, l.length = N := ⟨_, rfl⟩
  have hNb : N ≤ 16 := by rw [← hN, ← hl, keysL_len]; exact pow_le16 (Nat.le_refl _) hh
  have HLO := Lib.hid (show allD4 l by rw [← hl]; exact keysL_ok s h)
  have HV : Hid (rootD l = v) := by show _ = _; rw [← hl]; exact hv
  have HL := Lib.hid hl
  have HN := Lib.hid hN
  have HNL := Lib.hid (show l.length ≤ 1000000 by omega)
  have HALL := Lib.hid (show (decide (0 ≤ (h : Int)) && decide ((h : Int) ≤ 4)) = true by simp; omega)
  have HT := Lib.hid hT
  clear hl hN hv hT
  obtain ⟨w0, hw0⟩ : ∃ w0, (w.alloc (.cells #[.int .u32 s.d0, .int .u32 s.d1, .int .u32 s.d2, .int .u32 s.d3] 24)).alloc (.cells #[.int .u32 0, .int .u32 0, .int .u32 0, .int .u32 0] 24) = w0 := ⟨_, rfl⟩
  obtain ⟨hM0, hR0, hB0⟩ := start46 s w w0 hw0
  obtain ⟨l0, l1, l2, l3⟩ := Arr.c4 hM0
  have hT0 := HT.out.below hB0
  go_enter Tryd.func11, Tryd.ntmps11
  go_wp2_with fail
  clear hw0
  refine (ishigh_any h w0).mono ?_
  rintro e w1 ⟨rfl, rfl⟩
  rw [HALL.out]
  go_wp2_with fail
  refine (cpublics_any s h l N w0 hs hh HL.out HN.out hT0).mono ?_
  rintro e w1 ⟨b, rfl, hrd, hD⟩
  have hR1 := hR0.on hD
  have hB1 := hB0.trans (hD.mono hB0.size)
  have hT1 := hT0.below hD
  clear hM0 hR0 hB0 l0 l1 l2 l3 hD hT0
  go_wp2_with fail
  refine (croot_nm l v b 0 N N w1 HNL.out HLO.out hrd HN.out.symm (Nat.le_refl _) (by unfold maxLen; omega) hT1 HV.out).mono ?_
  rintro e w2 ⟨rfl, hE⟩
  have hR2 := hR1.on hE
  have hB2 := hB1.trans (hE.mono hB1.size)
  obtain ⟨b0, b1, b2, b3⟩ := Arr.c4 (d := zeroD) hR2
  obtain ⟨f0, f1, f2, f3⟩ := hR2.f4
  have hRf := put4 (d := v) hR2 rfl
  have hBf := below_put4 hB2 (show w.heap.size ≤ w.heap.size + 1 by omega) v
  clear hR1 hB1 hR2 hB2 hE hrd hT1
  go_wp2_with fail
  generalize (((w2.setCell ⟨w.heap.size + 1, 0, none⟩ (.int .u32 v.d0)).setCell ⟨w.heap.size + 1, 1, none⟩ (.int .u32 v.d1)).setCell ⟨w.heap.size + 1, 2, none⟩ (.int .u32 v.d2)).setCell ⟨w.heap.size + 1, 3, none⟩ (.int .u32 v.d3) = wf at *
  obtain ⟨r0, r1, r2, r3⟩ := hRf.c4
  refine bodyPost_ret (v := .tuple #[v.val, .int .i64 0]) (by simp [results, Tryd.results11, go_sem, D4.val, r0, r1, r2, r3]) rfl ⟨rfl, hBf⟩
end Go.Proofs.YtdphhpmkcalahaaDoor
