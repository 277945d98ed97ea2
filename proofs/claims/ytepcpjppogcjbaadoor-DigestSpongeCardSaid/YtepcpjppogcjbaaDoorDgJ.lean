/-
  The contract of the code's Of.
-/
import Derived.Test.YtepcpjppogcjbaaDoorDgI
import Derived.Test.YtepcpjppogcjbaaDoorDgZ
namespace Go.Proofs.YtepcpjppogcjbaaDoor
open Go.RowKit

theorem ctakeAll_named (s y : S8) (t : ByteArray) (w : World) (hs : s.ok) (ht : t.size ≤ 1000000) (h16 : t.size % 16 = 0) (hT : TurnsOk w) (hy : absorb s (wordsR t.data.toList) = y) : Calls Tryd.prog 28 #[.agg #[.int .u32 s.x0, .int .u32 s.x1, .int .u32 s.x2, .int .u32 s.x3, .int .u32 s.x4, .int .u32 s.x5, .int .u32 s.x6, .int .u32 s.x7], .string t] w fun e w' => e = .returned (.agg #[.int .u32 y.x0, .int .u32 y.x1, .int .u32 y.x2, .int .u32 y.x3, .int .u32 y.x4, .int .u32 y.x5, .int .u32 y.x6, .int .u32 y.x7]) ∧ Below w.heap.size w w' := by
  subst hy; exact ctakeAll_any s t w hs ht h16 hT
theorem ctakeAll_one (y : S8) (t : ByteArray) (w : World) (ht : t.size ≤ 1000000) (h16 : t.size % 16 = 0) (hT : TurnsOk w) (hy : absorb oneS (wordsR t.data.toList) = y) : Calls Tryd.prog 28 #[.agg #[.int .u32 1, .int .u32 0, .int .u32 0, .int .u32 0, .int .u32 0, .int .u32 0, .int .u32 0, .int .u32 0], .string t] w fun e w' => e = .returned (.agg #[.int .u32 y.x0, .int .u32 y.x1, .int .u32 y.x2, .int .u32 y.x3, .int .u32 y.x4, .int .u32 y.x5, .int .u32 y.x6, .int .u32 y.x7]) ∧ Below w.heap.size w w' := ctakeAll_named oneS y t w oneS_ok ht h16 hT hy
theorem padding_named (n : Nat) (t : ByteArray) (w : World) (hn : n ≤ 1000000) (ht : t.data.toList = padB n ++ wbytes [(n : Int), 0]) : Calls Tryd.prog 30 #[.int .i64 (n : Int)] w fun e w' => e = .returned (.string t) ∧ Below w.heap.size w w' := by
  rw [show t = ⟨(padB n ++ wbytes [(n : Int), 0]).toArray⟩ by rw [← ht]]; exact padding_any n w hn
theorem keepS_far {W : World} {s : S8} {B G : Nat} {z0 z1 z2 z3 : Int} (hne : G ≠ B) (f : W.cell? ⟨G, 0, none⟩ = some (.int .u32 s.x0) ∧ W.cell? ⟨G, 1, none⟩ = some (.int .u32 s.x1) ∧ W.cell? ⟨G, 2, none⟩ = some (.int .u32 s.x2) ∧ W.cell? ⟨G, 3, none⟩ = some (.int .u32 s.x3) ∧ W.cell? ⟨G, 4, none⟩ = some (.int .u32 s.x4) ∧ W.cell? ⟨G, 5, none⟩ = some (.int .u32 s.x5) ∧ W.cell? ⟨G, 6, none⟩ = some (.int .u32 s.x6) ∧ W.cell? ⟨G, 7, none⟩ = some (.int .u32 s.x7)) : ((((W.setCell ⟨B, 0, none⟩ (.int .u32 z0)).setCell ⟨B, 1, none⟩ (.int .u32 z1)).setCell ⟨B, 2, none⟩ (.int .u32 z2)).setCell ⟨B, 3, none⟩ (.int .u32 z3)).cell? ⟨G, 0, none⟩ = some (.int .u32 s.x0) ∧ ((((W.setCell ⟨B, 0, none⟩ (.int .u32 z0)).setCell ⟨B, 1, none⟩ (.int .u32 z1)).setCell ⟨B, 2, none⟩ (.int .u32 z2)).setCell ⟨B, 3, none⟩ (.int .u32 z3)).cell? ⟨G, 1, none⟩ = some (.int .u32 s.x1) ∧ ((((W.setCell ⟨B, 0, none⟩ (.int .u32 z0)).setCell ⟨B, 1, none⟩ (.int .u32 z1)).setCell ⟨B, 2, none⟩ (.int .u32 z2)).setCell ⟨B, 3, none⟩ (.int .u32 z3)).cell? ⟨G, 2, none⟩ = some (.int .u32 s.x2) ∧ ((((W.setCell ⟨B, 0, none⟩ (.int .u32 z0)).setCell ⟨B, 1, none⟩ (.int .u32 z1)).setCell ⟨B, 2, none⟩ (.int .u32 z2)).setCell ⟨B, 3, none⟩ (.int .u32 z3)).cell? ⟨G, 3, none⟩ = some (.int .u32 s.x3) ∧ ((((W.setCell ⟨B, 0, none⟩ (.int .u32 z0)).setCell ⟨B, 1, none⟩ (.int .u32 z1)).setCell ⟨B, 2, none⟩ (.int .u32 z2)).setCell ⟨B, 3, none⟩ (.int .u32 z3)).cell? ⟨G, 4, none⟩ = some (.int .u32 s.x4) ∧ ((((W.setCell ⟨B, 0, none⟩ (.int .u32 z0)).setCell ⟨B, 1, none⟩ (.int .u32 z1)).setCell ⟨B, 2, none⟩ (.int .u32 z2)).setCell ⟨B, 3, none⟩ (.int .u32 z3)).cell? ⟨G, 5, none⟩ = some (.int .u32 s.x5) ∧ ((((W.setCell ⟨B, 0, none⟩ (.int .u32 z0)).setCell ⟨B, 1, none⟩ (.int .u32 z1)).setCell ⟨B, 2, none⟩ (.int .u32 z2)).setCell ⟨B, 3, none⟩ (.int .u32 z3)).cell? ⟨G, 6, none⟩ = some (.int .u32 s.x6) ∧ ((((W.setCell ⟨B, 0, none⟩ (.int .u32 z0)).setCell ⟨B, 1, none⟩ (.int .u32 z1)).setCell ⟨B, 2, none⟩ (.int .u32 z2)).setCell ⟨B, 3, none⟩ (.int .u32 z3)).cell? ⟨G, 7, none⟩ = some (.int .u32 s.x7) := by
  have hb : ((((W.setCell ⟨B, 0, none⟩ (.int .u32 z0)).setCell ⟨B, 1, none⟩ (.int .u32 z1)).setCell ⟨B, 2, none⟩ (.int .u32 z2)).setCell ⟨B, 3, none⟩ (.int .u32 z3)).heap[G]? = W.heap[G]? := by
    rw [heap_setCell_other _ _ _ _ hne, heap_setCell_other _ _ _ _ hne, heap_setCell_other _ _ _ _ hne, heap_setCell_other _ _ _ _ hne]
  obtain ⟨f0, f1, f2, f3, f4, f5, f6, f7⟩ := f
  have lt : ∀ {j : Nat} {v : Value}, W.cell? ⟨G, j, none⟩ = some v → ((((W.setCell ⟨B, 0, none⟩ (.int .u32 z0)).setCell ⟨B, 1, none⟩ (.int .u32 z1)).setCell ⟨B, 2, none⟩ (.int .u32 z2)).setCell ⟨B, 3, none⟩ (.int .u32 z3)).cell? ⟨G, j, none⟩ = some v := fun {j v} e => by
    rw [World.cell?_of_block (a := ⟨G, j, none⟩) hb]
    exact e
  exact ⟨lt f0, lt f1, lt f2, lt f3, lt f4, lt f5, lt f6, lt f7⟩
theorem keepSb {W w' : World} {s : S8} {B : Nat} (h : Below W.heap.size W w') (f : W.cell? ⟨B, 0, none⟩ = some (.int .u32 s.x0) ∧ W.cell? ⟨B, 1, none⟩ = some (.int .u32 s.x1) ∧ W.cell? ⟨B, 2, none⟩ = some (.int .u32 s.x2) ∧ W.cell? ⟨B, 3, none⟩ = some (.int .u32 s.x3) ∧ W.cell? ⟨B, 4, none⟩ = some (.int .u32 s.x4) ∧ W.cell? ⟨B, 5, none⟩ = some (.int .u32 s.x5) ∧ W.cell? ⟨B, 6, none⟩ = some (.int .u32 s.x6) ∧ W.cell? ⟨B, 7, none⟩ = some (.int .u32 s.x7)) : w'.cell? ⟨B, 0, none⟩ = some (.int .u32 s.x0) ∧ w'.cell? ⟨B, 1, none⟩ = some (.int .u32 s.x1) ∧ w'.cell? ⟨B, 2, none⟩ = some (.int .u32 s.x2) ∧ w'.cell? ⟨B, 3, none⟩ = some (.int .u32 s.x3) ∧ w'.cell? ⟨B, 4, none⟩ = some (.int .u32 s.x4) ∧ w'.cell? ⟨B, 5, none⟩ = some (.int .u32 s.x5) ∧ w'.cell? ⟨B, 6, none⟩ = some (.int .u32 s.x6) ∧ w'.cell? ⟨B, 7, none⟩ = some (.int .u32 s.x7) := by
  obtain ⟨f0, f1, f2, f3, f4, f5, f6, f7⟩ := f
  have lt : ∀ {q : Nat} {j : Nat} {v : Value}, W.cell? ⟨q, j, none⟩ = some v → w'.cell? ⟨q, j, none⟩ = some v := fun {q j v} e => by
    rw [h.cell (p := ⟨q, j, none⟩) (cell_lt e)]
    exact e
  exact ⟨lt f0, lt f1, lt f2, lt f3, lt f4, lt f5, lt f6, lt f7⟩

set_option maxHeartbeats 4000000 in
theorem cof_any (s : ByteArray) (w : World) (hs : s.size ≤ 100000) (hT : TurnsOk w) : Calls Tryd.prog 16 #[.string s] w fun e w' => e = .returned (ofD s.data.toList).val ∧ Below w.heap.size w w' := by
  have HT := Lib.hid hT
  obtain ⟨m, hm⟩ : ∃ m, s.size - s.size % 16 = m := ⟨_, rfl⟩
  have hms : m ≤ s.size := by omega
  have hu : (s.extract 0 m).data.toList = s.data.toList.take m := by simp
  have hv : (s.extract m s.size).data.toList = s.data.toList.drop m := by rw [Lib.extract_to_end]
  have hus : (s.extract 0 m).size = m := by simp; omega
  have hvs : (s.extract m s.size).size = s.size - m := by simp
  obtain ⟨pt, hpt⟩ : ∃ t : ByteArray, t.data.toList = padB s.size ++ wbytes [(s.size : Int), 0] := ⟨⟨(padB s.size ++ wbytes [(s.size : Int), 0]).toArray⟩, List.toList_toArray⟩
  have hpn := pad_mod s.size
  have hpz := padN_lt s.size
  have hps : pt.size = padN s.size + 1 + 8 := by rw [← len_listH, hpt, List.length_append, padB_len, wbytes_length]; rfl
  obtain ⟨y1, hy1⟩ : ∃ y, absorb oneS (wordsR (s.extract 0 m).data.toList) = y := ⟨_, rfl⟩
  obtain ⟨u, hun⟩ : ∃ u, s.extract 0 m = u := ⟨_, rfl⟩
  obtain ⟨v, hvn⟩ : ∃ v, s.extract m s.size = v := ⟨_, rfl⟩
  have hvp : (v ++ pt).data.toList = s.data.toList.drop m ++ (padB s.data.toList.length ++ wbytes [(s.data.toList.length : Int), 0]) := by
    rw [ByteArray.data_append, Array.toList_append, ← hvn, hv, hpt, len_listH]
  obtain ⟨y2, hy2⟩ : ∃ y, absorb y1 (wordsR (v ++ pt).data.toList) = y := ⟨_, rfl⟩
  have HO : Hid (ofD s.data.toList = frontS y2) := by
    show _ = _
    rw [ofD, ← ofD_code s.data.toList m (by rw [len_listH]; omega) (by rw [len_listH]; exact hm.symm), ← hvp, ← hu, hy1, hy2]
  have hy1o : y1.ok := by
    rw [← hy1]
    exact absorb_ok _ _ oneS_ok (wordsR_ok _) (by rw [wordsR_length, len_listH, hus]; omega)
  have HU16 := Lib.hid (show u.size ≤ 1000000 ∧ u.size % 16 = 0 by rw [← hun, hus]; omega)
  have HV16 := Lib.hid (show (v ++ pt).size ≤ 1000000 ∧ (v ++ pt).size % 16 = 0 by rw [ByteArray.size_append, hps, ← hvn, hvs]; omega)
  rw [hun] at hy1
  have HY1 := Lib.hid hy1
  have HY2 := Lib.hid hy2
  have HPT := Lib.hid hpt
  have HS := Lib.hid (show s.size ≤ 1000000 by omega)
  have hr1 : (s.size : Int) - (s.size : Int) % 16 = (m : Int) := by omega
  have hm0 : (0 : Int) ≤ (m : Int) := by omega
  have hm1 : (m : Int) ≤ (s.size : Int) := by omega
  have hm2 : ((m : Int)).toNat = m := by omega
  have hsz : (s.size : Int) ≤ 1000000 := by omega
  have hvz : v.size ≤ 100000 := by rw [← hvn, hvs]; omega
  have hptz : pt.size ≤ 100 := by omega
  clear hT hm hms hu hv hus hvs hpn hpz hps hy1 hy2 hvp hpt
  obtain ⟨w0, hw0⟩ : ∃ w0, w.alloc (.cells #[.int .u32 0, .int .u32 0, .int .u32 0, .int .u32 0] 29) = w0 := ⟨_, rfl⟩
  obtain ⟨hR, hB⟩ := start4 w w0 hw0
  have HT0 := Lib.hid (HT.out.below hB)
  go_enter Tryd.func16, Tryd.ntmps16
  go_wp2_with fail
  clear hw0
  refine (ctakeAll_one y1 u w0 HU16.out.1 HU16.out.2 HT0.out HY1.out).mono ?_
  rintro e w1 ⟨rfl, hC⟩
  have hR1 := hR.on hC
  have hB1 := hB.trans (hC.mono hB.size)
  have HT1 := Lib.hid (HT0.out.below hC)
  clear hR hB hC HT0 HT hun
  obtain ⟨w2, hw2⟩ : ∃ w2, w1.alloc (.cells #[.int .u32 y1.x0, .int .u32 y1.x1, .int .u32 y1.x2, .int .u32 y1.x3, .int .u32 y1.x4, .int .u32 y1.x5, .int .u32 y1.x6, .int .u32 y1.x7] 23) = w2 := ⟨_, rfl⟩
  have hRd : Arr .u32 29 w.heap.size [0, 0, 0, 0] w2.drew := by rw [← hw2]; exact hR1.al _
  have hAd : Arr .u32 23 w1.heap.size y1.toL w2.drew := by rw [← hw2]; exact heap_alloc_new w1 _
  have hBd : Below w.heap.size w w2.drew := by rw [← hw2]; exact (hB1.alloc hB1.size _).drew
  have HTd := Lib.hid (show TurnsOk w2.drew from HT1.out.below (by rw [← hw2]; exact ((Below.refl _ _).alloc (Nat.le_refl _) _).drew))
  have hne : w1.heap.size ≠ w.heap.size := (Nat.ne_of_lt hR1.lt).symm
  have HS0 := Lib.hid (hAd.c8)
  clear hR1 hB1 HT1 hAd
  go_wp2_with fail
  clear hw2
  generalize w1.heap.size = G at *
  have hadd := fun W => run_string_add_sum (P := Tryd.prog) (w := W) v pt (by omega)
  go_region_held3 (fun w' => w'.cell? ⟨G, 0, none⟩ = some (.int .u32 y1.x0) ∧ w'.cell? ⟨G, 1, none⟩ = some (.int .u32 y1.x1) ∧ w'.cell? ⟨G, 2, none⟩ = some (.int .u32 y1.x2) ∧ w'.cell? ⟨G, 3, none⟩ = some (.int .u32 y1.x3) ∧ w'.cell? ⟨G, 4, none⟩ = some (.int .u32 y1.x4) ∧ w'.cell? ⟨G, 5, none⟩ = some (.int .u32 y1.x5) ∧ w'.cell? ⟨G, 6, none⟩ = some (.int .u32 y1.x6) ∧ w'.cell? ⟨G, 7, none⟩ = some (.int .u32 y1.x7))
    (first | ((with_reducible refine keepS_far ?_ ?_) <;> assumption) | ((with_reducible refine keepSb (s := y1) hA ?_); assumption) | (with_reducible exact HS0.out))
    (first
      | (go_at_call 30; (with_reducible refine (padding_named s.size pt _ HS.out HPT.out).mono ?_); rintro e w3 ⟨rfl, hA⟩; have HT3 := Lib.hid (HTd.out.below hA); have hB3 := hBd.trans (hA.mono hBd.size); have hR3 := hRd.on hA)
      | (go_at_call 28; (with_reducible refine (ctakeAll_named y1 y2 (v ++ pt) _ hy1o HV16.out.1 HV16.out.2 HT3.out HY2.out).mono ?_); rintro e w4 ⟨rfl, hA⟩; have hB4 := hB3.trans (hA.mono hB3.size); have hR4 := hR3.on hA)
      | (go_at_call 29; (with_reducible refine (cfirst_lit y2 _).mono ?_); rintro e w5 ⟨rfl, hA⟩; have hB5 := hB4.trans (hA.mono hB4.size); have hR5 := hR4.on hA; obtain ⟨k0, k1, k2, k3⟩ := Arr.c4 (d := zeroD) hR5; obtain ⟨q0, q1, q2, q3⟩ := hR5.f4))
  go_wp2_with fail
  have hRf := put4 (d := frontS y2) hR5 rfl
  have hBf := below_put4 hB5 (Nat.le_refl _) (frontS y2)
  simp only [frontS] at hRf hBf
  generalize (((w5.setCell ⟨w.heap.size, 0, none⟩ (.int .u32 y2.x0)).setCell ⟨w.heap.size, 1, none⟩ (.int .u32 y2.x1)).setCell ⟨w.heap.size, 2, none⟩ (.int .u32 y2.x2)).setCell ⟨w.heap.size, 3, none⟩ (.int .u32 y2.x3) = wf at *
  obtain ⟨r0, r1, r2, r3⟩ := Arr.c4 (d := ⟨y2.x0, y2.x1, y2.x2, y2.x3⟩) hRf
  simp only at r0 r1 r2 r3
  refine bodyPost_ret (v := (frontS y2).val) (by simp [results, Tryd.results16, go_sem, D4.val, frontS, r0, r1, r2, r3]) rfl ⟨by rw [HO.out], hBf⟩
end Go.Proofs.YtepcpjppogcjbaaDoor
