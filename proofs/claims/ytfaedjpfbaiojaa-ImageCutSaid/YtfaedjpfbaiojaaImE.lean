/-
  The document's Read of bytes that are no image's (written by gen_imE.py).
-/
import Derived.Test.YtfaedjpfbaiojaaImD
namespace Go.Proofs.Ytfaedjpfbaiojaa
open Go.RowKit

theorem getD_atI (t : ByteArray) (j : Nat) (h : j < t.size) : t.data.toList.getD j 0 = t[j] := by
  have h' : j < t.data.toList.length := by rw [len_toList]; exact h
  simp [List.getD, List.getElem?_eq_getElem h']
  rfl
set_option maxHeartbeats 8000000 in
set_option maxRecDepth 100000 in
theorem read_a (s : ByteArray) (h : s.size < 12) (w : World) : Calls Try.prog 18 #[.string s] w fun e w' => e = .returned (.tuple #[.agg #[.slice none 0 0, .int .i64 0], .int .i64 7]) ∧ Below w.heap.size w w' := by
  have hl12 : decide ((s.size : Int) < 12) = true := decide_eq_true (by omega)
  clear h
  obtain ⟨w1, hw1⟩ : ∃ w', w.alloc (.cells #[.slice none 0 0, .int .i64 0] 24) = w' := ⟨_, rfl⟩
  have hR : Box 24 w.heap.size [.slice none 0 0, .int .i64 0] w1 := by rw [← hw1]; exact Box.new 24 [.slice none 0 0, .int .i64 0] w
  have hD : Below w.heap.size w w1 := by rw [← hw1]; exact (Below.refl _ _).alloc (Nat.le_refl _) _
  have hB := hD
  clear hD
  go_enter Try.func18, Try.ntmps18
  have d0 := hR.cell (j := 0) (v := .slice none 0 0) rfl
  have f0 := hR.fz 0
  have d1 := hR.cell (j := 1) (v := .int .i64 0) rfl
  have f1 := hR.fz 1
  have hF : Box 24 (w.heap.size) [.slice none 0 0, .int .i64 0] ((w1.setCell ⟨w.heap.size, 0, none⟩ (.slice none 0 0)).setCell ⟨w.heap.size, 1, none⟩ (.int .i64 0)) := ((hR.set 0 (.slice none 0 0)).set 1 (.int .i64 0))
  have hBf := ((hB.setCell (p := ⟨w.heap.size, 0, none⟩) (Nat.le_refl _) (.slice none 0 0)).setCell (p := ⟨w.heap.size, 1, none⟩) (Nat.le_refl _) (.int .i64 0))
  go_wp2_with fail
  clear hw1
  clear d0 f0 d1 f1
  generalize ((w1.setCell ⟨w.heap.size, 0, none⟩ (.slice none 0 0)).setCell ⟨w.heap.size, 1, none⟩ (.int .i64 0)) = wf at *
  have r0 := hF.cell (j := 0) (v := .slice none 0 0) rfl
  have r1 := hF.cell (j := 1) (v := .int .i64 0) rfl
  refine bodyPost_ret (v := .tuple #[.agg #[.slice none 0 0, .int .i64 0], .int .i64 7]) (by simp [results, Try.results18, go_sem, r0, r1]) rfl ⟨rfl, hBf⟩
set_option maxHeartbeats 8000000 in
set_option maxRecDepth 100000 in
theorem read_b0 (s : ByteArray) (h : 12 ≤ s.size) (cb : ¬ (s[0]'(by omega)).toNat = 83) (w : World) : Calls Try.prog 18 #[.string s] w fun e w' => e = .returned (.tuple #[.agg #[.slice none 0 0, .int .i64 0], .int .i64 7]) ∧ Below w.heap.size w w' := by
  have hl12 : decide ((s.size : Int) < 12) = false := decide_eq_false (by omega)
  have j0 : (0 : Int) < (s.size : Int) := by omega
  have j1 : (1 : Int) < (s.size : Int) := by omega
  have j2 : (2 : Int) < (s.size : Int) := by omega
  have j3 : (3 : Int) < (s.size : Int) := by omega
  have n0 : 0 < s.size := by omega
  have n1 : 1 < s.size := by omega
  have n2 : 2 < s.size := by omega
  have n3 : 3 < s.size := by omega
  have hb : (((s[0]'n0).toNat : Int) != 83) = true := by rw [bne_iff_ne]; omega
  clear cb
  obtain ⟨w1, hw1⟩ : ∃ w', w.alloc (.cells #[.slice none 0 0, .int .i64 0] 24) = w' := ⟨_, rfl⟩
  have hR : Box 24 w.heap.size [.slice none 0 0, .int .i64 0] w1 := by rw [← hw1]; exact Box.new 24 [.slice none 0 0, .int .i64 0] w
  have hD : Below w.heap.size w w1 := by rw [← hw1]; exact (Below.refl _ _).alloc (Nat.le_refl _) _
  have hB := hD
  clear hD
  go_enter Try.func18, Try.ntmps18
  have d0 := hR.cell (j := 0) (v := .slice none 0 0) rfl
  have f0 := hR.fz 0
  have d1 := hR.cell (j := 1) (v := .int .i64 0) rfl
  have f1 := hR.fz 1
  have hF : Box 24 (w.heap.size) [.slice none 0 0, .int .i64 0] ((w1.setCell ⟨w.heap.size, 0, none⟩ (.slice none 0 0)).setCell ⟨w.heap.size, 1, none⟩ (.int .i64 0)) := ((hR.set 0 (.slice none 0 0)).set 1 (.int .i64 0))
  have hBf := ((hB.setCell (p := ⟨w.heap.size, 0, none⟩) (Nat.le_refl _) (.slice none 0 0)).setCell (p := ⟨w.heap.size, 1, none⟩) (Nat.le_refl _) (.int .i64 0))
  go_wp2_with fail
  clear hw1
  clear d0 f0 d1 f1
  generalize ((w1.setCell ⟨w.heap.size, 0, none⟩ (.slice none 0 0)).setCell ⟨w.heap.size, 1, none⟩ (.int .i64 0)) = wf at *
  have r0 := hF.cell (j := 0) (v := .slice none 0 0) rfl
  have r1 := hF.cell (j := 1) (v := .int .i64 0) rfl
  refine bodyPost_ret (v := .tuple #[.agg #[.slice none 0 0, .int .i64 0], .int .i64 7]) (by simp [results, Try.results18, go_sem, r0, r1]) rfl ⟨rfl, hBf⟩
set_option maxHeartbeats 8000000 in
set_option maxRecDepth 100000 in
theorem read_b1 (s : ByteArray) (h : 12 ≤ s.size) (c0 : (s[0]'(by omega)).toNat = 83) (cb : ¬ (s[1]'(by omega)).toNat = 69) (w : World) : Calls Try.prog 18 #[.string s] w fun e w' => e = .returned (.tuple #[.agg #[.slice none 0 0, .int .i64 0], .int .i64 7]) ∧ Below w.heap.size w w' := by
  have hl12 : decide ((s.size : Int) < 12) = false := decide_eq_false (by omega)
  have j0 : (0 : Int) < (s.size : Int) := by omega
  have j1 : (1 : Int) < (s.size : Int) := by omega
  have j2 : (2 : Int) < (s.size : Int) := by omega
  have j3 : (3 : Int) < (s.size : Int) := by omega
  have n0 : 0 < s.size := by omega
  have n1 : 1 < s.size := by omega
  have n2 : 2 < s.size := by omega
  have n3 : 3 < s.size := by omega
  have hb : (((s[1]'n1).toNat : Int) != 69) = true := by rw [bne_iff_ne]; omega
  clear cb
  obtain ⟨w1, hw1⟩ : ∃ w', w.alloc (.cells #[.slice none 0 0, .int .i64 0] 24) = w' := ⟨_, rfl⟩
  have hR : Box 24 w.heap.size [.slice none 0 0, .int .i64 0] w1 := by rw [← hw1]; exact Box.new 24 [.slice none 0 0, .int .i64 0] w
  have hD : Below w.heap.size w w1 := by rw [← hw1]; exact (Below.refl _ _).alloc (Nat.le_refl _) _
  have hB := hD
  clear hD
  go_enter Try.func18, Try.ntmps18
  have d0 := hR.cell (j := 0) (v := .slice none 0 0) rfl
  have f0 := hR.fz 0
  have d1 := hR.cell (j := 1) (v := .int .i64 0) rfl
  have f1 := hR.fz 1
  have hF : Box 24 (w.heap.size) [.slice none 0 0, .int .i64 0] ((w1.setCell ⟨w.heap.size, 0, none⟩ (.slice none 0 0)).setCell ⟨w.heap.size, 1, none⟩ (.int .i64 0)) := ((hR.set 0 (.slice none 0 0)).set 1 (.int .i64 0))
  have hBf := ((hB.setCell (p := ⟨w.heap.size, 0, none⟩) (Nat.le_refl _) (.slice none 0 0)).setCell (p := ⟨w.heap.size, 1, none⟩) (Nat.le_refl _) (.int .i64 0))
  go_wp2_with fail
  clear hw1
  clear d0 f0 d1 f1
  generalize ((w1.setCell ⟨w.heap.size, 0, none⟩ (.slice none 0 0)).setCell ⟨w.heap.size, 1, none⟩ (.int .i64 0)) = wf at *
  have r0 := hF.cell (j := 0) (v := .slice none 0 0) rfl
  have r1 := hF.cell (j := 1) (v := .int .i64 0) rfl
  refine bodyPost_ret (v := .tuple #[.agg #[.slice none 0 0, .int .i64 0], .int .i64 7]) (by simp [results, Try.results18, go_sem, r0, r1]) rfl ⟨rfl, hBf⟩
set_option maxHeartbeats 8000000 in
set_option maxRecDepth 100000 in
theorem read_b2 (s : ByteArray) (h : 12 ≤ s.size) (c0 : (s[0]'(by omega)).toNat = 83) (c1 : (s[1]'(by omega)).toNat = 69) (cb : ¬ (s[2]'(by omega)).toNat = 69) (w : World) : Calls Try.prog 18 #[.string s] w fun e w' => e = .returned (.tuple #[.agg #[.slice none 0 0, .int .i64 0], .int .i64 7]) ∧ Below w.heap.size w w' := by
  have hl12 : decide ((s.size : Int) < 12) = false := decide_eq_false (by omega)
  have j0 : (0 : Int) < (s.size : Int) := by omega
  have j1 : (1 : Int) < (s.size : Int) := by omega
  have j2 : (2 : Int) < (s.size : Int) := by omega
  have j3 : (3 : Int) < (s.size : Int) := by omega
  have n0 : 0 < s.size := by omega
  have n1 : 1 < s.size := by omega
  have n2 : 2 < s.size := by omega
  have n3 : 3 < s.size := by omega
  have hb : (((s[2]'n2).toNat : Int) != 69) = true := by rw [bne_iff_ne]; omega
  clear cb
  obtain ⟨w1, hw1⟩ : ∃ w', w.alloc (.cells #[.slice none 0 0, .int .i64 0] 24) = w' := ⟨_, rfl⟩
  have hR : Box 24 w.heap.size [.slice none 0 0, .int .i64 0] w1 := by rw [← hw1]; exact Box.new 24 [.slice none 0 0, .int .i64 0] w
  have hD : Below w.heap.size w w1 := by rw [← hw1]; exact (Below.refl _ _).alloc (Nat.le_refl _) _
  have hB := hD
  clear hD
  go_enter Try.func18, Try.ntmps18
  have d0 := hR.cell (j := 0) (v := .slice none 0 0) rfl
  have f0 := hR.fz 0
  have d1 := hR.cell (j := 1) (v := .int .i64 0) rfl
  have f1 := hR.fz 1
  have hF : Box 24 (w.heap.size) [.slice none 0 0, .int .i64 0] ((w1.setCell ⟨w.heap.size, 0, none⟩ (.slice none 0 0)).setCell ⟨w.heap.size, 1, none⟩ (.int .i64 0)) := ((hR.set 0 (.slice none 0 0)).set 1 (.int .i64 0))
  have hBf := ((hB.setCell (p := ⟨w.heap.size, 0, none⟩) (Nat.le_refl _) (.slice none 0 0)).setCell (p := ⟨w.heap.size, 1, none⟩) (Nat.le_refl _) (.int .i64 0))
  go_wp2_with fail
  clear hw1
  clear d0 f0 d1 f1
  generalize ((w1.setCell ⟨w.heap.size, 0, none⟩ (.slice none 0 0)).setCell ⟨w.heap.size, 1, none⟩ (.int .i64 0)) = wf at *
  have r0 := hF.cell (j := 0) (v := .slice none 0 0) rfl
  have r1 := hF.cell (j := 1) (v := .int .i64 0) rfl
  refine bodyPost_ret (v := .tuple #[.agg #[.slice none 0 0, .int .i64 0], .int .i64 7]) (by simp [results, Try.results18, go_sem, r0, r1]) rfl ⟨rfl, hBf⟩
set_option maxHeartbeats 8000000 in
set_option maxRecDepth 100000 in
theorem read_b3 (s : ByteArray) (h : 12 ≤ s.size) (c0 : (s[0]'(by omega)).toNat = 83) (c1 : (s[1]'(by omega)).toNat = 69) (c2 : (s[2]'(by omega)).toNat = 69) (cb : ¬ (s[3]'(by omega)).toNat = 68) (w : World) : Calls Try.prog 18 #[.string s] w fun e w' => e = .returned (.tuple #[.agg #[.slice none 0 0, .int .i64 0], .int .i64 7]) ∧ Below w.heap.size w w' := by
  have hl12 : decide ((s.size : Int) < 12) = false := decide_eq_false (by omega)
  have j0 : (0 : Int) < (s.size : Int) := by omega
  have j1 : (1 : Int) < (s.size : Int) := by omega
  have j2 : (2 : Int) < (s.size : Int) := by omega
  have j3 : (3 : Int) < (s.size : Int) := by omega
  have n0 : 0 < s.size := by omega
  have n1 : 1 < s.size := by omega
  have n2 : 2 < s.size := by omega
  have n3 : 3 < s.size := by omega
  have hb : (((s[3]'n3).toNat : Int) != 68) = true := by rw [bne_iff_ne]; omega
  clear cb
  obtain ⟨w1, hw1⟩ : ∃ w', w.alloc (.cells #[.slice none 0 0, .int .i64 0] 24) = w' := ⟨_, rfl⟩
  have hR : Box 24 w.heap.size [.slice none 0 0, .int .i64 0] w1 := by rw [← hw1]; exact Box.new 24 [.slice none 0 0, .int .i64 0] w
  have hD : Below w.heap.size w w1 := by rw [← hw1]; exact (Below.refl _ _).alloc (Nat.le_refl _) _
  have hB := hD
  clear hD
  go_enter Try.func18, Try.ntmps18
  have d0 := hR.cell (j := 0) (v := .slice none 0 0) rfl
  have f0 := hR.fz 0
  have d1 := hR.cell (j := 1) (v := .int .i64 0) rfl
  have f1 := hR.fz 1
  have hF : Box 24 (w.heap.size) [.slice none 0 0, .int .i64 0] ((w1.setCell ⟨w.heap.size, 0, none⟩ (.slice none 0 0)).setCell ⟨w.heap.size, 1, none⟩ (.int .i64 0)) := ((hR.set 0 (.slice none 0 0)).set 1 (.int .i64 0))
  have hBf := ((hB.setCell (p := ⟨w.heap.size, 0, none⟩) (Nat.le_refl _) (.slice none 0 0)).setCell (p := ⟨w.heap.size, 1, none⟩) (Nat.le_refl _) (.int .i64 0))
  go_wp2_with fail
  clear hw1
  clear d0 f0 d1 f1
  generalize ((w1.setCell ⟨w.heap.size, 0, none⟩ (.slice none 0 0)).setCell ⟨w.heap.size, 1, none⟩ (.int .i64 0)) = wf at *
  have r0 := hF.cell (j := 0) (v := .slice none 0 0) rfl
  have r1 := hF.cell (j := 1) (v := .int .i64 0) rfl
  refine bodyPost_ret (v := .tuple #[.agg #[.slice none 0 0, .int .i64 0], .int .i64 7]) (by simp [results, Try.results18, go_sem, r0, r1]) rfl ⟨rfl, hBf⟩
set_option maxHeartbeats 8000000 in
set_option maxRecDepth 100000 in
theorem read_c (s : ByteArray) (h : 12 ≤ s.size) (hm : s.size ≤ 1000000) (c0 : (s[0]'(by omega)).toNat = 83) (c1 : (s[1]'(by omega)).toNat = 69) (c2 : (s[2]'(by omega)).toNat = 69) (c3 : (s[3]'(by omega)).toNat = 68) (x y : Int) (hx : fw (s[4]'(by omega)) (s[5]'(by omega)) (s[6]'(by omega)) (s[7]'(by omega)) = x) (hy : fw (s[8]'(by omega)) (s[9]'(by omega)) (s[10]'(by omega)) (s[11]'(by omega)) = y) (g : 16384 < x) (w : World) : Calls Try.prog 18 #[.string s] w fun e w' => e = .returned (.tuple #[.agg #[.slice none 0 0, .int .i64 0], .int .i64 7]) ∧ Below w.heap.size w w' := by
  have hl12 : decide ((s.size : Int) < 12) = false := decide_eq_false (by omega)
  have j0 : (0 : Int) < (s.size : Int) := by omega
  have j1 : (1 : Int) < (s.size : Int) := by omega
  have j2 : (2 : Int) < (s.size : Int) := by omega
  have j3 : (3 : Int) < (s.size : Int) := by omega
  have n0 : 0 < s.size := by omega
  have n1 : 1 < s.size := by omega
  have n2 : 2 < s.size := by omega
  have n3 : 3 < s.size := by omega
  have HNW : Hid (∀ w : World, Calls Try.prog 25 #[.string s, .int .i64 4] w fun e w' => e = .returned (.int .u32 x) ∧ Below w.heap.size w w') := fun w => rword_val s 4 x w (by omega) hm hx
  have HDW : Hid (∀ w : World, Calls Try.prog 25 #[.string s, .int .i64 8] w fun e w' => e = .returned (.int .u32 y) ∧ Below w.heap.size w w') := fun w => rword_val s 8 y w (by omega) hm hy
  clear hx hy
  have g1 : decide ((16384 : Int) < x) = true := decide_eq_true g
  obtain ⟨w1, hw1⟩ : ∃ w', w.alloc (.cells #[.slice none 0 0, .int .i64 0] 24) = w' := ⟨_, rfl⟩
  have hR : Box 24 w.heap.size [.slice none 0 0, .int .i64 0] w1 := by rw [← hw1]; exact Box.new 24 [.slice none 0 0, .int .i64 0] w
  have hD : Below w.heap.size w w1 := by rw [← hw1]; exact (Below.refl _ _).alloc (Nat.le_refl _) _
  have hB := hD
  clear hD
  go_enter Try.func18, Try.ntmps18
  go_wp2_with fail
  clear hw1
  refine (HNW.out w1).mono ?_
  rintro e w2 ⟨rfl, hD⟩
  replace hR := hR.on hD
  replace hB := hB.trans (hD.mono hB.size)
  clear hD
  go_wp2_with fail
  refine (HDW.out w2).mono ?_
  rintro e w3 ⟨rfl, hD⟩
  replace hR := hR.on hD
  replace hB := hB.trans (hD.mono hB.size)
  clear hD
  have d0 := hR.cell (j := 0) (v := .slice none 0 0) rfl
  have f0 := hR.fz 0
  have d1 := hR.cell (j := 1) (v := .int .i64 0) rfl
  have f1 := hR.fz 1
  have hF : Box 24 (w.heap.size) [.slice none 0 0, .int .i64 0] ((w3.setCell ⟨w.heap.size, 0, none⟩ (.slice none 0 0)).setCell ⟨w.heap.size, 1, none⟩ (.int .i64 0)) := ((hR.set 0 (.slice none 0 0)).set 1 (.int .i64 0))
  have hBf := ((hB.setCell (p := ⟨w.heap.size, 0, none⟩) (Nat.le_refl _) (.slice none 0 0)).setCell (p := ⟨w.heap.size, 1, none⟩) (Nat.le_refl _) (.int .i64 0))
  go_wp2_with fail
  clear d0 f0 d1 f1
  generalize ((w3.setCell ⟨w.heap.size, 0, none⟩ (.slice none 0 0)).setCell ⟨w.heap.size, 1, none⟩ (.int .i64 0)) = wf at *
  have r0 := hF.cell (j := 0) (v := .slice none 0 0) rfl
  have r1 := hF.cell (j := 1) (v := .int .i64 0) rfl
  refine bodyPost_ret (v := .tuple #[.agg #[.slice none 0 0, .int .i64 0], .int .i64 7]) (by simp [results, Try.results18, go_sem, r0, r1]) rfl ⟨rfl, hBf⟩
set_option maxHeartbeats 8000000 in
set_option maxRecDepth 100000 in
theorem read_d (s : ByteArray) (h : 12 ≤ s.size) (hm : s.size ≤ 1000000) (c0 : (s[0]'(by omega)).toNat = 83) (c1 : (s[1]'(by omega)).toNat = 69) (c2 : (s[2]'(by omega)).toNat = 69) (c3 : (s[3]'(by omega)).toNat = 68) (x y : Int) (hx : fw (s[4]'(by omega)) (s[5]'(by omega)) (s[6]'(by omega)) (s[7]'(by omega)) = x) (hy : fw (s[8]'(by omega)) (s[9]'(by omega)) (s[10]'(by omega)) (s[11]'(by omega)) = y) (g : x ≤ 16384) (g' : 32768 < y) (w : World) : Calls Try.prog 18 #[.string s] w fun e w' => e = .returned (.tuple #[.agg #[.slice none 0 0, .int .i64 0], .int .i64 7]) ∧ Below w.heap.size w w' := by
  have hl12 : decide ((s.size : Int) < 12) = false := decide_eq_false (by omega)
  have j0 : (0 : Int) < (s.size : Int) := by omega
  have j1 : (1 : Int) < (s.size : Int) := by omega
  have j2 : (2 : Int) < (s.size : Int) := by omega
  have j3 : (3 : Int) < (s.size : Int) := by omega
  have n0 : 0 < s.size := by omega
  have n1 : 1 < s.size := by omega
  have n2 : 2 < s.size := by omega
  have n3 : 3 < s.size := by omega
  have HNW : Hid (∀ w : World, Calls Try.prog 25 #[.string s, .int .i64 4] w fun e w' => e = .returned (.int .u32 x) ∧ Below w.heap.size w w') := fun w => rword_val s 4 x w (by omega) hm hx
  have HDW : Hid (∀ w : World, Calls Try.prog 25 #[.string s, .int .i64 8] w fun e w' => e = .returned (.int .u32 y) ∧ Below w.heap.size w w') := fun w => rword_val s 8 y w (by omega) hm hy
  clear hx hy
  have g1 : decide ((16384 : Int) < x) = false := decide_eq_false (by omega)
  have g2 : decide ((32768 : Int) < y) = true := decide_eq_true g'
  obtain ⟨w1, hw1⟩ : ∃ w', w.alloc (.cells #[.slice none 0 0, .int .i64 0] 24) = w' := ⟨_, rfl⟩
  have hR : Box 24 w.heap.size [.slice none 0 0, .int .i64 0] w1 := by rw [← hw1]; exact Box.new 24 [.slice none 0 0, .int .i64 0] w
  have hD : Below w.heap.size w w1 := by rw [← hw1]; exact (Below.refl _ _).alloc (Nat.le_refl _) _
  have hB := hD
  clear hD
  go_enter Try.func18, Try.ntmps18
  go_wp2_with fail
  clear hw1
  refine (HNW.out w1).mono ?_
  rintro e w2 ⟨rfl, hD⟩
  replace hR := hR.on hD
  replace hB := hB.trans (hD.mono hB.size)
  clear hD
  go_wp2_with fail
  refine (HDW.out w2).mono ?_
  rintro e w3 ⟨rfl, hD⟩
  replace hR := hR.on hD
  replace hB := hB.trans (hD.mono hB.size)
  clear hD
  have d0 := hR.cell (j := 0) (v := .slice none 0 0) rfl
  have f0 := hR.fz 0
  have d1 := hR.cell (j := 1) (v := .int .i64 0) rfl
  have f1 := hR.fz 1
  have hF : Box 24 (w.heap.size) [.slice none 0 0, .int .i64 0] ((w3.setCell ⟨w.heap.size, 0, none⟩ (.slice none 0 0)).setCell ⟨w.heap.size, 1, none⟩ (.int .i64 0)) := ((hR.set 0 (.slice none 0 0)).set 1 (.int .i64 0))
  have hBf := ((hB.setCell (p := ⟨w.heap.size, 0, none⟩) (Nat.le_refl _) (.slice none 0 0)).setCell (p := ⟨w.heap.size, 1, none⟩) (Nat.le_refl _) (.int .i64 0))
  go_wp2_with fail
  clear d0 f0 d1 f1
  generalize ((w3.setCell ⟨w.heap.size, 0, none⟩ (.slice none 0 0)).setCell ⟨w.heap.size, 1, none⟩ (.int .i64 0)) = wf at *
  have r0 := hF.cell (j := 0) (v := .slice none 0 0) rfl
  have r1 := hF.cell (j := 1) (v := .int .i64 0) rfl
  refine bodyPost_ret (v := .tuple #[.agg #[.slice none 0 0, .int .i64 0], .int .i64 7]) (by simp [results, Try.results18, go_sem, r0, r1]) rfl ⟨rfl, hBf⟩
set_option maxHeartbeats 8000000 in
set_option maxRecDepth 100000 in
theorem read_e (s : ByteArray) (h : 12 ≤ s.size) (hm : s.size ≤ 1000000) (c0 : (s[0]'(by omega)).toNat = 83) (c1 : (s[1]'(by omega)).toNat = 69) (c2 : (s[2]'(by omega)).toNat = 69) (c3 : (s[3]'(by omega)).toNat = 68) (x y : Int) (hx : fw (s[4]'(by omega)) (s[5]'(by omega)) (s[6]'(by omega)) (s[7]'(by omega)) = x) (hy : fw (s[8]'(by omega)) (s[9]'(by omega)) (s[10]'(by omega)) (s[11]'(by omega)) = y) (x0 : 0 ≤ x) (g : x ≤ 16384) (g' : y ≤ 32768) (ge : ¬ (s.size : Int) = 12 + 4 * x) (w : World) : Calls Try.prog 18 #[.string s] w fun e w' => e = .returned (.tuple #[.agg #[.slice none 0 0, .int .i64 0], .int .i64 7]) ∧ Below w.heap.size w w' := by
  have hl12 : decide ((s.size : Int) < 12) = false := decide_eq_false (by omega)
  have j0 : (0 : Int) < (s.size : Int) := by omega
  have j1 : (1 : Int) < (s.size : Int) := by omega
  have j2 : (2 : Int) < (s.size : Int) := by omega
  have j3 : (3 : Int) < (s.size : Int) := by omega
  have n0 : 0 < s.size := by omega
  have n1 : 1 < s.size := by omega
  have n2 : 2 < s.size := by omega
  have n3 : 3 < s.size := by omega
  have HNW : Hid (∀ w : World, Calls Try.prog 25 #[.string s, .int .i64 4] w fun e w' => e = .returned (.int .u32 x) ∧ Below w.heap.size w w') := fun w => rword_val s 4 x w (by omega) hm hx
  have HDW : Hid (∀ w : World, Calls Try.prog 25 #[.string s, .int .i64 8] w fun e w' => e = .returned (.int .u32 y) ∧ Below w.heap.size w w') := fun w => rword_val s 8 y w (by omega) hm hy
  clear hx hy
  have g1 : decide ((16384 : Int) < x) = false := decide_eq_false (by omega)
  have g2 : decide ((32768 : Int) < y) = false := decide_eq_false (by omega)
  have g3 : ((s.size : Int) == 12 + 4 * x) = false := beq_eq_false_iff_ne.2 ge
  have g4 : ((s.size : Int) != 12 + 4 * x) = true := bne_iff_ne.2 ge
  clear ge
  obtain ⟨w1, hw1⟩ : ∃ w', w.alloc (.cells #[.slice none 0 0, .int .i64 0] 24) = w' := ⟨_, rfl⟩
  have hR : Box 24 w.heap.size [.slice none 0 0, .int .i64 0] w1 := by rw [← hw1]; exact Box.new 24 [.slice none 0 0, .int .i64 0] w
  have hD : Below w.heap.size w w1 := by rw [← hw1]; exact (Below.refl _ _).alloc (Nat.le_refl _) _
  have hB := hD
  clear hD
  go_enter Try.func18, Try.ntmps18
  go_wp2_with fail
  clear hw1
  refine (HNW.out w1).mono ?_
  rintro e w2 ⟨rfl, hD⟩
  replace hR := hR.on hD
  replace hB := hB.trans (hD.mono hB.size)
  clear hD
  go_wp2_with fail
  refine (HDW.out w2).mono ?_
  rintro e w3 ⟨rfl, hD⟩
  replace hR := hR.on hD
  replace hB := hB.trans (hD.mono hB.size)
  clear hD
  have d0 := hR.cell (j := 0) (v := .slice none 0 0) rfl
  have f0 := hR.fz 0
  have d1 := hR.cell (j := 1) (v := .int .i64 0) rfl
  have f1 := hR.fz 1
  have hF : Box 24 (w.heap.size) [.slice none 0 0, .int .i64 0] ((w3.setCell ⟨w.heap.size, 0, none⟩ (.slice none 0 0)).setCell ⟨w.heap.size, 1, none⟩ (.int .i64 0)) := ((hR.set 0 (.slice none 0 0)).set 1 (.int .i64 0))
  have hBf := ((hB.setCell (p := ⟨w.heap.size, 0, none⟩) (Nat.le_refl _) (.slice none 0 0)).setCell (p := ⟨w.heap.size, 1, none⟩) (Nat.le_refl _) (.int .i64 0))
  go_wp2_with fail
  clear d0 f0 d1 f1
  generalize ((w3.setCell ⟨w.heap.size, 0, none⟩ (.slice none 0 0)).setCell ⟨w.heap.size, 1, none⟩ (.int .i64 0)) = wf at *
  have r0 := hF.cell (j := 0) (v := .slice none 0 0) rfl
  have r1 := hF.cell (j := 1) (v := .int .i64 0) rfl
  refine bodyPost_ret (v := .tuple #[.agg #[.slice none 0 0, .int .i64 0], .int .i64 7]) (by simp [results, Try.results18, go_sem, r0, r1]) rfl ⟨rfl, hBf⟩
/-- Some image's bytes? -/
def isImg (s : ByteArray) : Prop := ∃ n d xs, ImgAt s n d xs
theorem rread8_no (s : ByteArray) (w : World) (hm : s.size ≤ 1000000) (h : ¬ isImg s) : Calls Try.prog 18 #[.string s] w fun e w' => e = .returned (.tuple #[.agg #[.slice none 0 0, .int .i64 0], .int .i64 7]) ∧ Below w.heap.size w w' := by
  by_cases h12 : s.size < 12
  · exact read_a s h12 w
  have h12 : 12 ≤ s.size := by omega
  by_cases c0 : (s[0]'(by omega)).toNat = 83
  case neg => exact read_b0 s h12 c0 w
  by_cases c1 : (s[1]'(by omega)).toNat = 69
  case neg => exact read_b1 s h12 c0 c1 w
  by_cases c2 : (s[2]'(by omega)).toNat = 69
  case neg => exact read_b2 s h12 c0 c1 c2 w
  by_cases c3 : (s[3]'(by omega)).toNat = 68
  case neg => exact read_b3 s h12 c0 c1 c2 c3 w
  obtain ⟨x, hx⟩ : ∃ x, fw (s[4]'(by omega)) (s[5]'(by omega)) (s[6]'(by omega)) (s[7]'(by omega)) = x := ⟨_, rfl⟩
  obtain ⟨y, hy⟩ : ∃ y, fw (s[8]'(by omega)) (s[9]'(by omega)) (s[10]'(by omega)) (s[11]'(by omega)) = y := ⟨_, rfl⟩
  have bx : 0 ≤ x := by rw [← hx]; exact (fw_bd _ _ _ _).1
  have by0 : 0 ≤ y := by rw [← hy]; exact (fw_bd _ _ _ _).1
  by_cases g : 16384 < x
  · exact read_c s h12 hm c0 c1 c2 c3 x y hx hy g w
  by_cases g' : 32768 < y
  · exact read_d s h12 hm c0 c1 c2 c3 x y hx hy (by omega) g' w
  by_cases ge : (s.size : Int) = 12 + 4 * x
  case neg => exact read_e s h12 hm c0 c1 c2 c3 x y hx hy bx (by omega) (by omega) ge w
  refine absurd ⟨x.toNat, y, (List.range x.toNat).map fun k => wAt s.data.toList (3 + k), ⟨by omega, by omega, by omega, c0, c1, c2, c3, by rw [hx]; omega, hy, by simp, fun k hk => ?_⟩⟩ h
  have hz : s.size = 12 + 4 * x.toNat := by omega
  rw [List.getD_eq_getElem?_getD, List.getElem?_map, List.getElem?_range hk]
  show _ = wAt s.data.toList (3 + k)
  unfold wAt
  rw [getD_atI s (4 * (3 + k)) (by omega), getD_atI s (4 * (3 + k) + 1) (by omega), getD_atI s (4 * (3 + k) + 2) (by omega), getD_atI s (4 * (3 + k) + 3) (by omega)]
  congr 2 <;> omega
end Go.Proofs.Ytfaedjpfbaiojaa
