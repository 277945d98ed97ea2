/-
  The contracts of the code's take and first.
-/
import Derived.Test.YtepcpjppogcjbaaDoorDgW
import Derived.Laws.Cover3
namespace Go.Proofs.YtepcpjppogcjbaaDoor
open Go.RowKit

theorem index_four (d : D4) {k : Nat} (h : k < 4) (w : World) : Sem.run Tryd.prog (Instr.index 28 (.agg #[.int .u32 d.d0, .int .u32 d.d1, .int .u32 d.d2, .int .u32 d.d3]) (.int .i64 (k : Int))) w = Result.ok (.int .u32 (d.toL.getD k 0)) w := by
  match k, h with
  | 0, _ => simp [Instr.index, run_underlying Tryd.underlying28, asIntOf, go_sem, D4.toL]
  | 1, _ => simp [Instr.index, run_underlying Tryd.underlying28, asIntOf, go_sem, D4.toL]
  | 2, _ => simp [Instr.index, run_underlying Tryd.underlying28, asIntOf, go_sem, D4.toL]
  | 3, _ => simp [Instr.index, run_underlying Tryd.underlying28, asIntOf, go_sem, D4.toL]
theorem index_dig (d : D4) {k : Nat} (h : k < 4) (w : World) : Sem.run Tryd.prog (Instr.index 29 (.agg #[.int .u32 d.d0, .int .u32 d.d1, .int .u32 d.d2, .int .u32 d.d3]) (.int .i64 (k : Int))) w = Result.ok (.int .u32 (d.toL.getD k 0)) w := by
  match k, h with
  | 0, _ => simp [Instr.index, run_underlying Tryd.underlying29, asIntOf, go_sem, D4.toL]
  | 1, _ => simp [Instr.index, run_underlying Tryd.underlying29, asIntOf, go_sem, D4.toL]
  | 2, _ => simp [Instr.index, run_underlying Tryd.underlying29, asIntOf, go_sem, D4.toL]
  | 3, _ => simp [Instr.index, run_underlying Tryd.underlying29, asIntOf, go_sem, D4.toL]

/-- A state and a block boxed, and room for another state. -/
theorem start3 (s : S8) (d : D4) (w w0 : World) (h : ((w.alloc (.cells #[.int .u32 s.x0, .int .u32 s.x1, .int .u32 s.x2, .int .u32 s.x3, .int .u32 s.x4, .int .u32 s.x5, .int .u32 s.x6, .int .u32 s.x7] 23)).alloc (.cells #[.int .u32 d.d0, .int .u32 d.d1, .int .u32 d.d2, .int .u32 d.d3] 28)).alloc (.cells #[.int .u32 0, .int .u32 0, .int .u32 0, .int .u32 0, .int .u32 0, .int .u32 0, .int .u32 0, .int .u32 0] 23) = w0) :
    Arr .u32 23 w.heap.size s.toL w0 ∧ Arr .u32 28 (w.heap.size + 1) d.toL w0 ∧ Arr .u32 23 (w.heap.size + 1 + 1) [0, 0, 0, 0, 0, 0, 0, 0] w0 ∧ Below w.heap.size w w0 := by
  subst h
  obtain ⟨w1, h1⟩ : ∃ w1, w.alloc (.cells #[.int .u32 s.x0, .int .u32 s.x1, .int .u32 s.x2, .int .u32 s.x3, .int .u32 s.x4, .int .u32 s.x5, .int .u32 s.x6, .int .u32 s.x7] 23) = w1 := ⟨_, rfl⟩
  have hA1 : Arr .u32 23 w.heap.size s.toL w1 := by rw [← h1]; exact heap_alloc_new w _
  have a1 : w1.heap.size = w.heap.size + 1 := by rw [← h1]; simp
  have B1 : Below w.heap.size w w1 := by rw [← h1]; exact (Below.refl _ _).alloc (Nat.le_refl _) _
  rw [h1]
  obtain ⟨w2, h2⟩ : ∃ w2, w1.alloc (.cells #[.int .u32 d.d0, .int .u32 d.d1, .int .u32 d.d2, .int .u32 d.d3] 28) = w2 := ⟨_, rfl⟩
  have hD2 : Arr .u32 28 w1.heap.size d.toL w2 := by rw [← h2]; exact heap_alloc_new w1 _
  have hA2 : Arr .u32 23 w.heap.size s.toL w2 := by rw [← h2]; exact hA1.al _
  have a2 : w2.heap.size = w.heap.size + 1 + 1 := by rw [← h2]; simp [a1]
  have B2 : Below w.heap.size w w2 := by rw [← h2]; exact B1.alloc (by omega) _
  rw [h2]
  refine ⟨hA2.al _, by rw [← a1]; exact hD2.al _, ?_, B2.alloc (by omega) _⟩
  rw [← a2]
  exact heap_alloc_new w2 _

set_option maxHeartbeats 4000000 in
theorem ctake_any (s : S8) (d : D4) (w : World) (hs : s.ok) (hd : d.ok) (hT : TurnsOk w) : Calls Tryd.prog 33 #[s.val, d.val] w fun e w' => e = .returned (takeS s d).val ∧ Below w.heap.size w w' := by
  have HT := Lib.hid hT
  clear hT
  obtain ⟨w0, hw0⟩ : ∃ w0, ((w.alloc (.cells #[.int .u32 s.x0, .int .u32 s.x1, .int .u32 s.x2, .int .u32 s.x3, .int .u32 s.x4, .int .u32 s.x5, .int .u32 s.x6, .int .u32 s.x7] 23)).alloc (.cells #[.int .u32 d.d0, .int .u32 d.d1, .int .u32 d.d2, .int .u32 d.d3] 28)).alloc (.cells #[.int .u32 0, .int .u32 0, .int .u32 0, .int .u32 0, .int .u32 0, .int .u32 0, .int .u32 0, .int .u32 0] 23) = w0 := ⟨_, rfl⟩
  obtain ⟨hA0, hD0, hR0, hB0⟩ := start3 s d w w0 hw0
  have HW := Lib.hid hw0
  clear hw0
  go_enter Tryd.func33, Tryd.ntmps33
  simp only [S8.val, D4.val]
  go_wp2_with fail
  rw [HW.out]
  clear HW
  go_loopw [8] (fun i wr => ∃ k : Nat, k ≤ 4 ∧ i = .int .i64 k ∧ Arr .u32 23 w.heap.size (xorP s.toL d.toL k) wr ∧ Arr .u32 23 (w.heap.size + 1 + 1) [0, 0, 0, 0, 0, 0, 0, 0] wr ∧ Below w.heap.size w wr) (fun i _ => 4 - (intOf i).toNat)
  case atStart => exact ⟨0, by omega, rfl, hA0, hR0, hB0⟩
  case round =>
    clear hA0 hD0 hR0 hB0
    obtain ⟨k, hk, rfl, hA, hR, hB⟩ := hrel
    by_cases hlt : k < 4
    · have hkd : decide ((k : Int) < 4) = true := by simp; omega
      have hMn : (xorP s.toL d.toL k).length = 8 := by rw [xorP_len]; rfl
      have hMo := xorP_ok (S8.toL_ok hs) (D4.toL_ok hd) k
      have hix := index_four d hlt wr
      obtain ⟨a, ha⟩ : ∃ a, (xorP s.toL d.toL k).getD k 0 = a := ⟨_, rfl⟩
      obtain ⟨b, hb⟩ : ∃ b, d.toL.getD k 0 = b := ⟨_, rfl⟩
      have haw : isW a := by rw [← ha]; exact hMo.get k
      have hbw : isW b := by rw [← hb]; exact (D4.toL_ok hd).get k
      have HP : Hid (xorP s.toL d.toL (k + 1) = (xorP s.toL d.toL k).set k (bits .xor .u32 a b)) := by
        show _ = _
        rw [xorP, ha, hb, bits_xw haw hbw]
      rw [hb] at hix
      generalize xorP s.toL d.toL k = M at *
      have hc1 : wr.cell? ⟨w.heap.size, k, none⟩ = some (.int .u32 a) := by rw [← ha]; exact hA.cell (by omega)
      clear ha hb
      have hf1 := hA.fz k
      have hA1 := hA.set k (bits .xor .u32 a b)
      have hR1 := hR.far (a := ⟨w.heap.size, k, none⟩) (by show w.heap.size + 1 + 1 ≠ w.heap.size; omega) (.int .u32 (bits .xor .u32 a b))
      have hB1 := hB.setCell (p := ⟨w.heap.size, k, none⟩) (Nat.le_refl _) (.int .u32 (bits .xor .u32 a b))
      rw [← HP.out] at hA1
      clear hA hR hB
      go_wp2_with fail
      go_roundw
      case rel => exact ⟨k + 1, by omega, by go_num, hA1, hR1, hB1⟩
      case measure => simp [intOf]; omega
    · have hk4 : k = 4 := by omega
      subst hk4
      obtain ⟨z, hz⟩ : ∃ z, xorS s d = z := ⟨_, rfl⟩
      have hzo : z.ok := by rw [← hz]; exact xorS_ok hs hd
      rw [xorP_list, hz] at hA
      have HZ : Hid (takeS s d = mixN 8 z) := by show _ = _; rw [takeS, hz]
      clear hz
      obtain ⟨t0, t1, t2, t3, t4, t5, t6, t7⟩ := hA.c8
      have HT2 := Lib.hid (HT.out.below hB)
      go_wp2_with fail
      refine (cmix_any z _ hzo HT2.out).mono ?_
      obtain ⟨y, hy⟩ : ∃ y, mixN 8 z = y := ⟨_, rfl⟩
      rw [hy]
      rw [hy] at HZ
      simp only [S8.val]
      rintro e w1 ⟨rfl, hBm⟩
      have hB1 := hB.trans (hBm.mono hB.size)
      have hR1 := hR.on hBm
      clear hA hB hBm hR t0 t1 t2 t3 t4 t5 t6 t7
      obtain ⟨b0, b1, b2, b3, b4, b5, b6, b7⟩ := Arr.c8 (y := zeroS) hR1
      obtain ⟨f0, f1, f2, f3, f4, f5, f6, f7⟩ := hR1.f8
      go_wp2_with fail
      have hRf := put8 (y := y) hR1 rfl
      have hBf := below_put8 hB1 (by omega : w.heap.size ≤ w.heap.size + 1 + 1) y
      generalize ((((((((w1.setCell ⟨w.heap.size + 1 + 1, 0, none⟩ (.int .u32 y.x0)).setCell ⟨w.heap.size + 1 + 1, 1, none⟩ (.int .u32 y.x1)).setCell ⟨w.heap.size + 1 + 1, 2, none⟩ (.int .u32 y.x2)).setCell ⟨w.heap.size + 1 + 1, 3, none⟩ (.int .u32 y.x3)).setCell ⟨w.heap.size + 1 + 1, 4, none⟩ (.int .u32 y.x4)).setCell ⟨w.heap.size + 1 + 1, 5, none⟩ (.int .u32 y.x5)).setCell ⟨w.heap.size + 1 + 1, 6, none⟩ (.int .u32 y.x6)).setCell ⟨w.heap.size + 1 + 1, 7, none⟩ (.int .u32 y.x7)) = wf at *
      obtain ⟨r0, r1, r2, r3, r4, r5, r6, r7⟩ := hRf.c8
      refine bodyPost_ret (v := y.val) (by simp [results, Tryd.results33, go_sem, S8.val, r0, r1, r2, r3, r4, r5, r6, r7]) rfl ⟨by rw [HZ.out]; rfl, hBf⟩

def frontS (s : S8) : D4 := ⟨s.x0, s.x1, s.x2, s.x3⟩
theorem frontS_ok {s : S8} (h : s.ok) : (frontS s).ok := ⟨h.1, h.2.1, h.2.2.1, h.2.2.2.1⟩
/-- A state boxed, and room for a digest. -/
theorem start84 (s : S8) (w w0 : World) (h : (w.alloc (.cells #[.int .u32 s.x0, .int .u32 s.x1, .int .u32 s.x2, .int .u32 s.x3, .int .u32 s.x4, .int .u32 s.x5, .int .u32 s.x6, .int .u32 s.x7] 23)).alloc (.cells #[.int .u32 0, .int .u32 0, .int .u32 0, .int .u32 0] 29) = w0) :
    Arr .u32 23 w.heap.size s.toL w0 ∧ Arr .u32 29 (w.heap.size + 1) [0, 0, 0, 0] w0 ∧ Below w.heap.size w w0 := by
  subst h
  obtain ⟨w1, h1⟩ : ∃ w1, w.alloc (.cells #[.int .u32 s.x0, .int .u32 s.x1, .int .u32 s.x2, .int .u32 s.x3, .int .u32 s.x4, .int .u32 s.x5, .int .u32 s.x6, .int .u32 s.x7] 23) = w1 := ⟨_, rfl⟩
  have hA1 : Arr .u32 23 w.heap.size s.toL w1 := by rw [← h1]; exact heap_alloc_new w _
  have a1 : w1.heap.size = w.heap.size + 1 := by rw [← h1]; simp
  have B1 : Below w.heap.size w w1 := by rw [← h1]; exact (Below.refl _ _).alloc (Nat.le_refl _) _
  rw [h1]
  refine ⟨hA1.al _, ?_, B1.alloc (by omega) _⟩
  rw [← a1]
  exact heap_alloc_new w1 _
set_option maxHeartbeats 4000000 in
theorem cfirst_any (s : S8) (w : World) : Calls Tryd.prog 29 #[s.val] w fun e w' => e = .returned (frontS s).val ∧ Below w.heap.size w w' := by
  obtain ⟨w0, hw0⟩ : ∃ w0, (w.alloc (.cells #[.int .u32 s.x0, .int .u32 s.x1, .int .u32 s.x2, .int .u32 s.x3, .int .u32 s.x4, .int .u32 s.x5, .int .u32 s.x6, .int .u32 s.x7] 23)).alloc (.cells #[.int .u32 0, .int .u32 0, .int .u32 0, .int .u32 0] 29) = w0 := ⟨_, rfl⟩
  obtain ⟨hA, hR, hB⟩ := start84 s w w0 hw0
  obtain ⟨t0, t1, t2, t3, t4, t5, t6, t7⟩ := hA.c8
  obtain ⟨b0, b1, b2, b3⟩ := Arr.c4 (d := zeroD) hR
  obtain ⟨f0, f1, f2, f3⟩ := hR.f4
  have har := run_arrayAt (P := Tryd.prog) (w := w0) 29 22 4 (some ⟨w.heap.size, 0, none⟩) 4 8 Tryd.underlying29 (by decide)
  have hRf := put4 (d := frontS s) hR rfl
  have hBf := below_put4 hB (by omega : w.heap.size ≤ w.heap.size + 1) (frontS s)
  clear hR hB
  go_enter Tryd.func29, Tryd.ntmps29
  simp only [S8.val]
  go_wp2_with fail
  clear hw0
  simp only [frontS] at hRf hBf
  generalize (((w0.setCell ⟨w.heap.size + 1, 0, none⟩ (.int .u32 s.x0)).setCell ⟨w.heap.size + 1, 1, none⟩ (.int .u32 s.x1)).setCell ⟨w.heap.size + 1, 2, none⟩ (.int .u32 s.x2)).setCell ⟨w.heap.size + 1, 3, none⟩ (.int .u32 s.x3) = wf at *
  obtain ⟨r0, r1, r2, r3⟩ := Arr.c4 (d := ⟨s.x0, s.x1, s.x2, s.x3⟩) hRf
  simp only at r0 r1 r2 r3
  refine bodyPost_ret (v := (frontS s).val) (by simp [results, Tryd.results29, go_sem, D4.val, frontS, r0, r1, r2, r3]) rfl ⟨rfl, hBf⟩
end Go.Proofs.YtepcpjppogcjbaaDoor
