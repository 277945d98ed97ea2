/-
  The contract of the document's take: a block taken into a state.
-/
import Derived.Test.YtepcpjppogcjbaaDoorDgU
namespace Go.Proofs.YtepcpjppogcjbaaDoor
open Go.RowKit

/-- A digest: four words. -/
structure D4 where
  (d0 d1 d2 d3 : Int)
def D4.ok (d : D4) : Prop := isW d.d0 ∧ isW d.d1 ∧ isW d.d2 ∧ isW d.d3
def D4.val (d : D4) : Value := .agg #[.int .u32 d.d0, .int .u32 d.d1, .int .u32 d.d2, .int .u32 d.d3]
def D4.toL (d : D4) : List Int := [d.d0, d.d1, d.d2, d.d3]
def xorS (s : S8) (d : D4) : S8 := ⟨xw s.x0 d.d0, xw s.x1 d.d1, xw s.x2 d.d2, xw s.x3 d.d3, s.x4, s.x5, s.x6, s.x7⟩
/-- The state with a block taken in. -/
def takeS (s : S8) (d : D4) : S8 := mixN 8 (xorS s d)
theorem xorS_ok {s : S8} {d : D4} (hs : s.ok) (hd : d.ok) : (xorS s d).ok := by
  obtain ⟨h0, h1, h2, h3, h4, h5, h6, h7⟩ := hs
  obtain ⟨e0, e1, e2, e3⟩ := hd
  exact ⟨xw_bd h0 e0, xw_bd h1 e1, xw_bd h2 e2, xw_bd h3 e3, h4, h5, h6, h7⟩
theorem takeS_ok {s : S8} {d : D4} (hs : s.ok) (hd : d.ok) : (takeS s d).ok := mixN_ok 8 (xorS_ok hs hd)
def xorP (L D : List Int) : Nat → List Int
  | 0 => L
  | n + 1 => (xorP L D n).set n (xw ((xorP L D n).getD n 0) (D.getD n 0))
theorem xorP_list (s : S8) (d : D4) : xorP s.toL d.toL 4 = (xorS s d).toL := by
  simp [xorP, S8.toL, D4.toL, xorS]
theorem xorP_len (L D : List Int) (n : Nat) : (xorP L D n).length = L.length := by
  induction n with
  | zero => rfl
  | succ n ih => rw [xorP, List.length_set, ih]
theorem xorP_ok {L D : List Int} (hL : allW L) (hD : allW D) (n : Nat) : allW (xorP L D n) := by
  induction n with
  | zero => exact hL
  | succ n ih => exact ih.put n (xw_bd (ih.get n) (hD.get n))
theorem D4.toL_ok {d : D4} (h : d.ok) : allW d.toL := by
  obtain ⟨h0, h1, h2, h3⟩ := h
  intro x hx
  simp only [D4.toL, List.mem_cons, List.not_mem_nil, or_false] at hx
  rcases hx with rfl | rfl | rfl | rfl <;> assumption

set_option maxHeartbeats 4000000 in
theorem take_any (s : S8) (d : D4) (w : World) (hs : s.ok) (hd : d.ok) : Calls Tryd.prog 32 #[s.val, d.val] w fun e w' => e = .returned (takeS s d).val ∧ Below w.heap.size w w' := by
  go_enter Tryd.func32, Tryd.ntmps32
  simp only [S8.val, D4.val]
  go_wp2_with fail
  go_loopw [5] (fun i wr => ∃ k : Nat, k ≤ 4 ∧ i = .int .i64 k ∧ Arr .u32 23 w.heap.size (xorP s.toL d.toL k) wr ∧ Arr .u32 29 (w.heap.size + 1) d.toL wr ∧ Arr .u32 23 (w.heap.size + 1 + 1) [0, 0, 0, 0, 0, 0, 0, 0] wr ∧ Below w.heap.size w wr) (fun i _ => 4 - (intOf i).toNat)
  case atStart =>
    have a1 : (w.alloc (.cells #[.int .u32 s.x0, .int .u32 s.x1, .int .u32 s.x2, .int .u32 s.x3, .int .u32 s.x4, .int .u32 s.x5, .int .u32 s.x6, .int .u32 s.x7] 23)).heap.size = w.heap.size + 1 := by simp
    have a2 : ((w.alloc (.cells #[.int .u32 s.x0, .int .u32 s.x1, .int .u32 s.x2, .int .u32 s.x3, .int .u32 s.x4, .int .u32 s.x5, .int .u32 s.x6, .int .u32 s.x7] 23)).alloc (.cells #[.int .u32 d.d0, .int .u32 d.d1, .int .u32 d.d2, .int .u32 d.d3] 29)).heap.size = w.heap.size + 1 + 1 := by simp
    refine ⟨0, by omega, rfl, ?_, ?_, ?_, ?_⟩
    · exact ((show Arr .u32 23 w.heap.size s.toL (w.alloc (.cells #[.int .u32 s.x0, .int .u32 s.x1, .int .u32 s.x2, .int .u32 s.x3, .int .u32 s.x4, .int .u32 s.x5, .int .u32 s.x6, .int .u32 s.x7] 23)) from heap_alloc_new w _).al _).al _
    · have h : Arr .u32 29 (w.alloc (.cells #[.int .u32 s.x0, .int .u32 s.x1, .int .u32 s.x2, .int .u32 s.x3, .int .u32 s.x4, .int .u32 s.x5, .int .u32 s.x6, .int .u32 s.x7] 23)).heap.size d.toL ((w.alloc (.cells #[.int .u32 s.x0, .int .u32 s.x1, .int .u32 s.x2, .int .u32 s.x3, .int .u32 s.x4, .int .u32 s.x5, .int .u32 s.x6, .int .u32 s.x7] 23)).alloc (.cells #[.int .u32 d.d0, .int .u32 d.d1, .int .u32 d.d2, .int .u32 d.d3] 29)) := heap_alloc_new (w.alloc (.cells #[.int .u32 s.x0, .int .u32 s.x1, .int .u32 s.x2, .int .u32 s.x3, .int .u32 s.x4, .int .u32 s.x5, .int .u32 s.x6, .int .u32 s.x7] 23)) _
      rw [a1] at h
      exact h.al _
    · have h : Arr .u32 23 ((w.alloc (.cells #[.int .u32 s.x0, .int .u32 s.x1, .int .u32 s.x2, .int .u32 s.x3, .int .u32 s.x4, .int .u32 s.x5, .int .u32 s.x6, .int .u32 s.x7] 23)).alloc (.cells #[.int .u32 d.d0, .int .u32 d.d1, .int .u32 d.d2, .int .u32 d.d3] 29)).heap.size [0, 0, 0, 0, 0, 0, 0, 0] (((w.alloc (.cells #[.int .u32 s.x0, .int .u32 s.x1, .int .u32 s.x2, .int .u32 s.x3, .int .u32 s.x4, .int .u32 s.x5, .int .u32 s.x6, .int .u32 s.x7] 23)).alloc (.cells #[.int .u32 d.d0, .int .u32 d.d1, .int .u32 d.d2, .int .u32 d.d3] 29)).alloc (.cells #[.int .u32 0, .int .u32 0, .int .u32 0, .int .u32 0, .int .u32 0, .int .u32 0, .int .u32 0, .int .u32 0] 23)) := heap_alloc_new ((w.alloc (.cells #[.int .u32 s.x0, .int .u32 s.x1, .int .u32 s.x2, .int .u32 s.x3, .int .u32 s.x4, .int .u32 s.x5, .int .u32 s.x6, .int .u32 s.x7] 23)).alloc (.cells #[.int .u32 d.d0, .int .u32 d.d1, .int .u32 d.d2, .int .u32 d.d3] 29)) _
      rw [a2] at h
      exact h
    · exact (((Below.refl _ _).alloc (Nat.le_refl _) _).alloc (by rw [a1]; omega) _).alloc (by rw [a2]; omega) _
  case round =>
    obtain ⟨k, hk, rfl, hA, hD, hR, hB⟩ := hrel
    by_cases hlt : k < 4
    · have hkd : decide ((k : Int) < 4) = true := by simp; omega
      have hMn : (xorP s.toL d.toL k).length = 8 := by rw [xorP_len]; rfl
      have hMo := xorP_ok (S8.toL_ok hs) (D4.toL_ok hd) k
      have hDn : d.toL.length = 4 := rfl
      obtain ⟨a, ha⟩ : ∃ a, (xorP s.toL d.toL k).getD k 0 = a := ⟨_, rfl⟩
      obtain ⟨b, hb⟩ : ∃ b, d.toL.getD k 0 = b := ⟨_, rfl⟩
      have haw : isW a := by rw [← ha]; exact hMo.get k
      have hbw : isW b := by rw [← hb]; exact (D4.toL_ok hd).get k
      have HP : Hid (xorP s.toL d.toL (k + 1) = (xorP s.toL d.toL k).set k (bits .xor .u32 a b)) := by
        show _ = _
        rw [xorP, ha, hb, bits_xw haw hbw]
      generalize xorP s.toL d.toL k = M at *
      have hc1 : wr.cell? ⟨w.heap.size, k, none⟩ = some (.int .u32 a) := by rw [← ha]; exact hA.cell (by omega)
      have hc2 : wr.cell? ⟨w.heap.size + 1, k, none⟩ = some (.int .u32 b) := by rw [← hb]; exact hD.cell (by omega)
      have hf1 := hA.fz k
      have hA1 := hA.set k (bits .xor .u32 a b)
      have hD1 := hD.far (a := ⟨w.heap.size, k, none⟩) (by simp) (.int .u32 (bits .xor .u32 a b))
      have hR1 := hR.far (a := ⟨w.heap.size, k, none⟩) (by show w.heap.size + 1 + 1 ≠ w.heap.size; omega) (.int .u32 (bits .xor .u32 a b))
      have hB1 := hB.setCell (p := ⟨w.heap.size, k, none⟩) (Nat.le_refl _) (.int .u32 (bits .xor .u32 a b))
      rw [← HP.out] at hA1
      go_wp2_with fail
      go_region
      go_wp2_with fail
      go_roundw
      case rel => exact ⟨k + 1, by omega, by go_num, hA1, hD1, hR1, hB1.drew⟩
      case measure => simp [intOf]; omega
    · have hk4 : k = 4 := by omega
      subst hk4
      obtain ⟨z, hz⟩ : ∃ z, xorS s d = z := ⟨_, rfl⟩
      have hzo : z.ok := by rw [← hz]; exact xorS_ok hs hd
      rw [xorP_list, hz] at hA
      have HZ : Hid (takeS s d = mixN 8 z) := by show _ = _; rw [takeS, hz]
      clear hz
      have t0 : wr.cell? ⟨w.heap.size, 0, none⟩ = some (.int .u32 z.x0) := hA.cell (j := 0) (by rw [S8.toL_len]; decide)
      have t1 : wr.cell? ⟨w.heap.size, 1, none⟩ = some (.int .u32 z.x1) := hA.cell (j := 1) (by rw [S8.toL_len]; decide)
      have t2 : wr.cell? ⟨w.heap.size, 2, none⟩ = some (.int .u32 z.x2) := hA.cell (j := 2) (by rw [S8.toL_len]; decide)
      have t3 : wr.cell? ⟨w.heap.size, 3, none⟩ = some (.int .u32 z.x3) := hA.cell (j := 3) (by rw [S8.toL_len]; decide)
      have t4 : wr.cell? ⟨w.heap.size, 4, none⟩ = some (.int .u32 z.x4) := hA.cell (j := 4) (by rw [S8.toL_len]; decide)
      have t5 : wr.cell? ⟨w.heap.size, 5, none⟩ = some (.int .u32 z.x5) := hA.cell (j := 5) (by rw [S8.toL_len]; decide)
      have t6 : wr.cell? ⟨w.heap.size, 6, none⟩ = some (.int .u32 z.x6) := hA.cell (j := 6) (by rw [S8.toL_len]; decide)
      have t7 : wr.cell? ⟨w.heap.size, 7, none⟩ = some (.int .u32 z.x7) := hA.cell (j := 7) (by rw [S8.toL_len]; decide)
      go_wp2_with fail
      refine (mix_any z _ hzo).mono ?_
      obtain ⟨y, hy⟩ : ∃ y, mixN 8 z = y := ⟨_, rfl⟩
      rw [hy]
      rw [hy] at HZ
      simp only [S8.val]
      rintro e w1 ⟨rfl, hBm⟩
      have hB1 := hB.trans (hBm.mono hB.size)
      have hR1 : Arr .u32 23 (w.heap.size + 1 + 1) [0, 0, 0, 0, 0, 0, 0, 0] w1 := by
        unfold Arr
        rw [hBm.block _ hR.lt]
        exact hR
      clear hA hD hB hBm hR t0 t1 t2 t3 t4 t5 t6 t7
      have b0 : w1.cell? ⟨w.heap.size + 1 + 1, 0, none⟩ = some (.int .u32 0) := hR1.cell (j := 0) (by decide)
      have f0 := hR1.fz 0
      have b1 : w1.cell? ⟨w.heap.size + 1 + 1, 1, none⟩ = some (.int .u32 0) := hR1.cell (j := 1) (by decide)
      have f1 := hR1.fz 1
      have b2 : w1.cell? ⟨w.heap.size + 1 + 1, 2, none⟩ = some (.int .u32 0) := hR1.cell (j := 2) (by decide)
      have f2 := hR1.fz 2
      have b3 : w1.cell? ⟨w.heap.size + 1 + 1, 3, none⟩ = some (.int .u32 0) := hR1.cell (j := 3) (by decide)
      have f3 := hR1.fz 3
      have b4 : w1.cell? ⟨w.heap.size + 1 + 1, 4, none⟩ = some (.int .u32 0) := hR1.cell (j := 4) (by decide)
      have f4 := hR1.fz 4
      have b5 : w1.cell? ⟨w.heap.size + 1 + 1, 5, none⟩ = some (.int .u32 0) := hR1.cell (j := 5) (by decide)
      have f5 := hR1.fz 5
      have b6 : w1.cell? ⟨w.heap.size + 1 + 1, 6, none⟩ = some (.int .u32 0) := hR1.cell (j := 6) (by decide)
      have f6 := hR1.fz 6
      have b7 : w1.cell? ⟨w.heap.size + 1 + 1, 7, none⟩ = some (.int .u32 0) := hR1.cell (j := 7) (by decide)
      have f7 := hR1.fz 7
      go_wp2_with fail
      have hRf := put8 (y := y) hR1 rfl
      have hBf := ((((((((hB1).setCell (p := ⟨w.heap.size + 1 + 1, 0, none⟩) (by show _ ≤ w.heap.size + 1 + 1; omega) (.int .u32 y.x0)).setCell (p := ⟨w.heap.size + 1 + 1, 1, none⟩) (by show _ ≤ w.heap.size + 1 + 1; omega) (.int .u32 y.x1)).setCell (p := ⟨w.heap.size + 1 + 1, 2, none⟩) (by show _ ≤ w.heap.size + 1 + 1; omega) (.int .u32 y.x2)).setCell (p := ⟨w.heap.size + 1 + 1, 3, none⟩) (by show _ ≤ w.heap.size + 1 + 1; omega) (.int .u32 y.x3)).setCell (p := ⟨w.heap.size + 1 + 1, 4, none⟩) (by show _ ≤ w.heap.size + 1 + 1; omega) (.int .u32 y.x4)).setCell (p := ⟨w.heap.size + 1 + 1, 5, none⟩) (by show _ ≤ w.heap.size + 1 + 1; omega) (.int .u32 y.x5)).setCell (p := ⟨w.heap.size + 1 + 1, 6, none⟩) (by show _ ≤ w.heap.size + 1 + 1; omega) (.int .u32 y.x6)).setCell (p := ⟨w.heap.size + 1 + 1, 7, none⟩) (by show _ ≤ w.heap.size + 1 + 1; omega) (.int .u32 y.x7)
      generalize ((((((((w1.setCell ⟨w.heap.size + 1 + 1, 0, none⟩ (.int .u32 y.x0)).setCell ⟨w.heap.size + 1 + 1, 1, none⟩ (.int .u32 y.x1)).setCell ⟨w.heap.size + 1 + 1, 2, none⟩ (.int .u32 y.x2)).setCell ⟨w.heap.size + 1 + 1, 3, none⟩ (.int .u32 y.x3)).setCell ⟨w.heap.size + 1 + 1, 4, none⟩ (.int .u32 y.x4)).setCell ⟨w.heap.size + 1 + 1, 5, none⟩ (.int .u32 y.x5)).setCell ⟨w.heap.size + 1 + 1, 6, none⟩ (.int .u32 y.x6)).setCell ⟨w.heap.size + 1 + 1, 7, none⟩ (.int .u32 y.x7)) = wf at *
      have r0 : wf.cell? ⟨w.heap.size + 1 + 1, 0, none⟩ = some (.int .u32 y.x0) := hRf.cell (j := 0) (by rw [S8.toL_len]; decide)
      have r1 : wf.cell? ⟨w.heap.size + 1 + 1, 1, none⟩ = some (.int .u32 y.x1) := hRf.cell (j := 1) (by rw [S8.toL_len]; decide)
      have r2 : wf.cell? ⟨w.heap.size + 1 + 1, 2, none⟩ = some (.int .u32 y.x2) := hRf.cell (j := 2) (by rw [S8.toL_len]; decide)
      have r3 : wf.cell? ⟨w.heap.size + 1 + 1, 3, none⟩ = some (.int .u32 y.x3) := hRf.cell (j := 3) (by rw [S8.toL_len]; decide)
      have r4 : wf.cell? ⟨w.heap.size + 1 + 1, 4, none⟩ = some (.int .u32 y.x4) := hRf.cell (j := 4) (by rw [S8.toL_len]; decide)
      have r5 : wf.cell? ⟨w.heap.size + 1 + 1, 5, none⟩ = some (.int .u32 y.x5) := hRf.cell (j := 5) (by rw [S8.toL_len]; decide)
      have r6 : wf.cell? ⟨w.heap.size + 1 + 1, 6, none⟩ = some (.int .u32 y.x6) := hRf.cell (j := 6) (by rw [S8.toL_len]; decide)
      have r7 : wf.cell? ⟨w.heap.size + 1 + 1, 7, none⟩ = some (.int .u32 y.x7) := hRf.cell (j := 7) (by rw [S8.toL_len]; decide)
      have hm : takeS s d = y := HZ.out
      rw [hm]
      refine bodyPost_ret (v := y.val) (by simp [results, Tryd.results32, go_sem, S8.val, r0, r1, r2, r3, r4, r5, r6, r7]) rfl ⟨rfl, hBf⟩
end Go.Proofs.YtepcpjppogcjbaaDoor
