/-
  The walk of the law DigestChain.
-/
import Derived.Test.YtepcpjppogcjbaaDoorDgT
namespace Go.Proofs.YtepcpjppogcjbaaDoor
open Go.RowKit

theorem tookC (s y : S8) (d : D4) (w : World) (hs : s.ok) (hd : d.ok) (hL : DgOk w) (hy : takeS s d = y) : Calls Tryd.prog 24 #[.agg #[.int .u32 s.x0, .int .u32 s.x1, .int .u32 s.x2, .int .u32 s.x3, .int .u32 s.x4, .int .u32 s.x5, .int .u32 s.x6, .int .u32 s.x7], .agg #[.int .u32 d.d0, .int .u32 d.d1, .int .u32 d.d2, .int .u32 d.d3]] w fun e w' => e = .returned (.agg #[.int .u32 y.x0, .int .u32 y.x1, .int .u32 y.x2, .int .u32 y.x3, .int .u32 y.x4, .int .u32 y.x5, .int .u32 y.x6, .int .u32 y.x7]) ∧ Below w.heap.size w w' := by
  subst hy; exact took_any s d w hs hd hL
theorem tookTwo (y : S8) (d : D4) (w : World) (hd : d.ok) (hL : DgOk w) (hy : takeS twoS d = y) : Calls Tryd.prog 24 #[.agg #[.int .u32 2, .int .u32 0, .int .u32 0, .int .u32 0, .int .u32 0, .int .u32 0, .int .u32 0, .int .u32 0], .agg #[.int .u32 d.d0, .int .u32 d.d1, .int .u32 d.d2, .int .u32 d.d3]] w fun e w' => e = .returned (.agg #[.int .u32 y.x0, .int .u32 y.x1, .int .u32 y.x2, .int .u32 y.x3, .int .u32 y.x4, .int .u32 y.x5, .int .u32 y.x6, .int .u32 y.x7]) ∧ Below w.heap.size w w' := tookC twoS y d w twoS_ok hd hL hy
theorem pairX (a b : D4) (y : S8) (w : World) (ha : a.ok) (hb : b.ok) (hL : DgOk w) (hy : pairS a b = frontS y) : Calls Tryd.prog 18 #[.agg #[.int .u32 a.d0, .int .u32 a.d1, .int .u32 a.d2, .int .u32 a.d3], .agg #[.int .u32 b.d0, .int .u32 b.d1, .int .u32 b.d2, .int .u32 b.d3]] w fun e w' => e = .returned (.agg #[.int .u32 y.x0, .int .u32 y.x1, .int .u32 y.x2, .int .u32 y.x3]) ∧ Below w.heap.size w w' := pairC a b (frontS y) w ha hb hL hy
theorem keep5 {W w' : World} {a b : D4} {s t u : S8} {B C E F G : Nat} (h : Below W.heap.size W w') (f : (W.cell? ⟨B, 0, none⟩ = some (.int .u32 a.d0) ∧ W.cell? ⟨B, 1, none⟩ = some (.int .u32 a.d1) ∧ W.cell? ⟨B, 2, none⟩ = some (.int .u32 a.d2) ∧ W.cell? ⟨B, 3, none⟩ = some (.int .u32 a.d3)) ∧ (W.cell? ⟨C, 0, none⟩ = some (.int .u32 b.d0) ∧ W.cell? ⟨C, 1, none⟩ = some (.int .u32 b.d1) ∧ W.cell? ⟨C, 2, none⟩ = some (.int .u32 b.d2) ∧ W.cell? ⟨C, 3, none⟩ = some (.int .u32 b.d3)) ∧ (W.cell? ⟨E, 0, none⟩ = some (.int .u32 s.x0) ∧ W.cell? ⟨E, 1, none⟩ = some (.int .u32 s.x1) ∧ W.cell? ⟨E, 2, none⟩ = some (.int .u32 s.x2) ∧ W.cell? ⟨E, 3, none⟩ = some (.int .u32 s.x3) ∧ W.cell? ⟨E, 4, none⟩ = some (.int .u32 s.x4) ∧ W.cell? ⟨E, 5, none⟩ = some (.int .u32 s.x5) ∧ W.cell? ⟨E, 6, none⟩ = some (.int .u32 s.x6) ∧ W.cell? ⟨E, 7, none⟩ = some (.int .u32 s.x7)) ∧ (W.cell? ⟨F, 0, none⟩ = some (.int .u32 t.x0) ∧ W.cell? ⟨F, 1, none⟩ = some (.int .u32 t.x1) ∧ W.cell? ⟨F, 2, none⟩ = some (.int .u32 t.x2) ∧ W.cell? ⟨F, 3, none⟩ = some (.int .u32 t.x3) ∧ W.cell? ⟨F, 4, none⟩ = some (.int .u32 t.x4) ∧ W.cell? ⟨F, 5, none⟩ = some (.int .u32 t.x5) ∧ W.cell? ⟨F, 6, none⟩ = some (.int .u32 t.x6) ∧ W.cell? ⟨F, 7, none⟩ = some (.int .u32 t.x7)) ∧ (W.cell? ⟨G, 0, none⟩ = some (.int .u32 u.x0) ∧ W.cell? ⟨G, 1, none⟩ = some (.int .u32 u.x1) ∧ W.cell? ⟨G, 2, none⟩ = some (.int .u32 u.x2) ∧ W.cell? ⟨G, 3, none⟩ = some (.int .u32 u.x3) ∧ W.cell? ⟨G, 4, none⟩ = some (.int .u32 u.x4) ∧ W.cell? ⟨G, 5, none⟩ = some (.int .u32 u.x5) ∧ W.cell? ⟨G, 6, none⟩ = some (.int .u32 u.x6) ∧ W.cell? ⟨G, 7, none⟩ = some (.int .u32 u.x7))) : (w'.cell? ⟨B, 0, none⟩ = some (.int .u32 a.d0) ∧ w'.cell? ⟨B, 1, none⟩ = some (.int .u32 a.d1) ∧ w'.cell? ⟨B, 2, none⟩ = some (.int .u32 a.d2) ∧ w'.cell? ⟨B, 3, none⟩ = some (.int .u32 a.d3)) ∧ (w'.cell? ⟨C, 0, none⟩ = some (.int .u32 b.d0) ∧ w'.cell? ⟨C, 1, none⟩ = some (.int .u32 b.d1) ∧ w'.cell? ⟨C, 2, none⟩ = some (.int .u32 b.d2) ∧ w'.cell? ⟨C, 3, none⟩ = some (.int .u32 b.d3)) ∧ (w'.cell? ⟨E, 0, none⟩ = some (.int .u32 s.x0) ∧ w'.cell? ⟨E, 1, none⟩ = some (.int .u32 s.x1) ∧ w'.cell? ⟨E, 2, none⟩ = some (.int .u32 s.x2) ∧ w'.cell? ⟨E, 3, none⟩ = some (.int .u32 s.x3) ∧ w'.cell? ⟨E, 4, none⟩ = some (.int .u32 s.x4) ∧ w'.cell? ⟨E, 5, none⟩ = some (.int .u32 s.x5) ∧ w'.cell? ⟨E, 6, none⟩ = some (.int .u32 s.x6) ∧ w'.cell? ⟨E, 7, none⟩ = some (.int .u32 s.x7)) ∧ (w'.cell? ⟨F, 0, none⟩ = some (.int .u32 t.x0) ∧ w'.cell? ⟨F, 1, none⟩ = some (.int .u32 t.x1) ∧ w'.cell? ⟨F, 2, none⟩ = some (.int .u32 t.x2) ∧ w'.cell? ⟨F, 3, none⟩ = some (.int .u32 t.x3) ∧ w'.cell? ⟨F, 4, none⟩ = some (.int .u32 t.x4) ∧ w'.cell? ⟨F, 5, none⟩ = some (.int .u32 t.x5) ∧ w'.cell? ⟨F, 6, none⟩ = some (.int .u32 t.x6) ∧ w'.cell? ⟨F, 7, none⟩ = some (.int .u32 t.x7)) ∧ (w'.cell? ⟨G, 0, none⟩ = some (.int .u32 u.x0) ∧ w'.cell? ⟨G, 1, none⟩ = some (.int .u32 u.x1) ∧ w'.cell? ⟨G, 2, none⟩ = some (.int .u32 u.x2) ∧ w'.cell? ⟨G, 3, none⟩ = some (.int .u32 u.x3) ∧ w'.cell? ⟨G, 4, none⟩ = some (.int .u32 u.x4) ∧ w'.cell? ⟨G, 5, none⟩ = some (.int .u32 u.x5) ∧ w'.cell? ⟨G, 6, none⟩ = some (.int .u32 u.x6) ∧ w'.cell? ⟨G, 7, none⟩ = some (.int .u32 u.x7)) :=
  ⟨keepD h f.1, keepD h f.2.1, keepS h f.2.2.1, keepS h f.2.2.2.1, keepS h f.2.2.2.2⟩
theorem xor_back {s : S8} {d : D4} (hs : s.ok) (hd : d.ok) : xorS (xorS s d) d = s := by
  obtain ⟨h0, h1, h2, h3, h4, h5, h6, h7⟩ := hs
  obtain ⟨d0, d1, d2, d3⟩ := hd
  cases s; cases d
  simp only [xorS] at *
  rw [xw_back h0 d0, xw_back h1 d1, xw_back h2 d2, xw_back h3 d3]

set_option maxHeartbeats 4000000 in
theorem chain_any (a b : D4) (w : World) (ha : a.ok) (hb : b.ok) (hL : DgOk w) : Calls Tryd.prog 10 #[.agg #[.int .u32 a.d0, .int .u32 a.d1, .int .u32 a.d2, .int .u32 a.d3], .agg #[.int .u32 b.d0, .int .u32 b.d1, .int .u32 b.d2, .int .u32 b.d3]] w fun e w' => e = .returned (.bool true) ∧ Below w.heap.size w w' := by
  obtain ⟨y1, hy1⟩ : ∃ y, takeS twoS a = y := ⟨_, rfl⟩
  have hy1o : y1.ok := by rw [← hy1]; exact takeS_ok twoS_ok ha
  obtain ⟨y2, hy2⟩ : ∃ y, takeS y1 b = y := ⟨_, rfl⟩
  have hy2o : y2.ok := by rw [← hy2]; exact takeS_ok hy1o hb
  obtain ⟨q, hq⟩ : ∃ q, xorS y1 b = q := ⟨_, rfl⟩
  have hqo : q.ok := by rw [← hq]; exact xorS_ok hy1o hb
  have HQ : Hid (unmN 8 y2 = q) := by show _ = _; rw [← hy2, takeS, hq]; exact unm_mix 8 hqo
  have HX : Hid (xorP q.toL b.toL 4 = y1.toL) := by show _ = _; rw [xorP_list, ← hq, xor_back hy1o hb]
  have HP : Hid (pairS a b = frontS y2) := by show _ = _; rw [pairS, hy1, hy2]
  have HY1 := Lib.hid hy1
  have HY2 := Lib.hid hy2
  clear hy1 hy2 hq
  obtain ⟨wa, hwa⟩ : ∃ wa, w.alloc (.cells #[.int .u32 a.d0, .int .u32 a.d1, .int .u32 a.d2, .int .u32 a.d3] 29) = wa := ⟨_, rfl⟩
  have a1 : wa.heap.size = w.heap.size + 1 := by rw [← hwa]; simp
  have hX1 : Arr .u32 29 w.heap.size a.toL wa := by rw [← hwa]; exact heap_alloc_new w _
  have hB1 : Below w.heap.size w wa := by rw [← hwa]; exact (Below.refl _ _).alloc (Nat.le_refl _) _
  obtain ⟨w0, hw0⟩ : ∃ w0, (w.alloc (.cells #[.int .u32 a.d0, .int .u32 a.d1, .int .u32 a.d2, .int .u32 a.d3] 29)).alloc (.cells #[.int .u32 b.d0, .int .u32 b.d1, .int .u32 b.d2, .int .u32 b.d3] 29) = w0 := ⟨_, rfl⟩
  have hw2 : wa.alloc (.cells #[.int .u32 b.d0, .int .u32 b.d1, .int .u32 b.d2, .int .u32 b.d3] 29) = w0 := by rw [← hwa]; exact hw0
  have hA : Arr .u32 29 w.heap.size a.toL w0 := by rw [← hw2]; exact hX1.al _
  have hD : Arr .u32 29 (w.heap.size + 1) b.toL w0 := by rw [← hw2, ← a1]; exact heap_alloc_new wa _
  have hB : Below w.heap.size w w0 := by rw [← hw2]; exact hB1.alloc hB1.size _
  have HL := Lib.hid (hL.below hB)
  have HL0 := Lib.hid hL
  clear hX1 hB1 hw2 hwa a1 hL
  have HW := Lib.hid hw0
  clear hw0
  have HAc := Lib.hid (hA.c4)
  obtain ⟨c0, c1, c2, c3⟩ := hA.c4
  go_enter Tryd.func10, Tryd.ntmps10
  go_wp2_with fail
  rw [HW.out]
  clear HW c0 c1 c2 c3
  refine (tookTwo y1 a w0 ha HL.out HY1.out).mono ?_
  rintro e w1 ⟨rfl, hC⟩
  have HL1 := Lib.hid (HL.out.below hC)
  have hA1 := hA.on hC
  have hD1 := hD.on hC
  have hB1 := hB.trans (hC.mono hB.size)
  clear hA hD hB hC HL
  obtain ⟨w2, hw2⟩ : ∃ w2, w1.alloc (.cells #[.int .u32 y1.x0, .int .u32 y1.x1, .int .u32 y1.x2, .int .u32 y1.x3, .int .u32 y1.x4, .int .u32 y1.x5, .int .u32 y1.x6, .int .u32 y1.x7] 23) = w2 := ⟨_, rfl⟩
  have hA2 : Arr .u32 29 w.heap.size a.toL w2 := by rw [← hw2]; exact hA1.al _
  have hD2 : Arr .u32 29 (w.heap.size + 1) b.toL w2 := by rw [← hw2]; exact hD1.al _
  have hE2 : Arr .u32 23 w1.heap.size y1.toL w2 := by rw [← hw2]; exact heap_alloc_new w1 _
  have hB2 : Below w.heap.size w w2 := by rw [← hw2]; exact hB1.alloc hB1.size _
  have HL2 := Lib.hid (show DgOk w2 by rw [← hw2]; exact HL1.out.al _)
  clear hA1 hD1 hB1 HL1
  obtain ⟨t0, t1, t2, t3, t4, t5, t6, t7⟩ := hE2.c8
  obtain ⟨d0, d1, d2, d3⟩ := hD2.c4
  go_wp2_with fail
  clear hw2 t0 t1 t2 t3 t4 t5 t6 t7 d0 d1 d2 d3
  refine (tookC y1 y2 b w2 hy1o hb HL2.out HY2.out).mono ?_
  rintro e w3 ⟨rfl, hC⟩
  have HL3 := Lib.hid (HL2.out.below hC)
  have hA3 := hA2.on hC
  have hD3 := hD2.on hC
  have hE3 := hE2.on hC
  have hB3 := hB2.trans (hC.mono hB2.size)
  clear hA2 hD2 hE2 hB2 hC HL2
  obtain ⟨w4, hw4⟩ : ∃ w4, w3.alloc (.cells #[.int .u32 y2.x0, .int .u32 y2.x1, .int .u32 y2.x2, .int .u32 y2.x3, .int .u32 y2.x4, .int .u32 y2.x5, .int .u32 y2.x6, .int .u32 y2.x7] 23) = w4 := ⟨_, rfl⟩
  have hA4 : Arr .u32 29 w.heap.size a.toL w4 := by rw [← hw4]; exact hA3.al _
  have hD4 : Arr .u32 29 (w.heap.size + 1) b.toL w4 := by rw [← hw4]; exact hD3.al _
  have hE4 : Arr .u32 23 w1.heap.size y1.toL w4 := by rw [← hw4]; exact hE3.al _
  have hF4 : Arr .u32 23 w3.heap.size y2.toL w4 := by rw [← hw4]; exact heap_alloc_new w3 _
  have hB4 : Below w.heap.size w w4 := by rw [← hw4]; exact hB3.alloc hB3.size _
  have HL4 := Lib.hid (show DgOk w4 by rw [← hw4]; exact HL3.out.al _)
  clear hA3 hD3 hE3 hB3 HL3
  obtain ⟨t0, t1, t2, t3, t4, t5, t6, t7⟩ := hF4.c8
  go_wp2_with fail
  clear hw4 t0 t1 t2 t3 t4 t5 t6 t7
  refine (unmC y2 q w4 hy2o HL4.out HQ.out).mono ?_
  rintro e w5 ⟨rfl, hC⟩
  have HL5 := Lib.hid (HL4.out.below hC)
  have hA5 := hA4.on hC
  have hD5 := hD4.on hC
  have hE5 := hE4.on hC
  have hF5 := hF4.on hC
  have hB5 := hB4.trans (hC.mono hB4.size)
  have n1 : w.heap.size ≠ w5.heap.size := Nat.ne_of_lt hA5.lt
  have n2 : w.heap.size + 1 ≠ w5.heap.size := Nat.ne_of_lt hD5.lt
  have n3 : w1.heap.size ≠ w5.heap.size := Nat.ne_of_lt hE5.lt
  have n4 : w3.heap.size ≠ w5.heap.size := Nat.ne_of_lt hF5.lt
  have n5 := hB5.size
  clear hA4 hD4 hE4 hF4 hB4 hC HL4
  obtain ⟨w6, hw6⟩ : ∃ w6, w5.alloc (.cells #[.int .u32 q.x0, .int .u32 q.x1, .int .u32 q.x2, .int .u32 q.x3, .int .u32 q.x4, .int .u32 q.x5, .int .u32 q.x6, .int .u32 q.x7] 23) = w6 := ⟨_, rfl⟩
  have hA6 : Arr .u32 29 w.heap.size a.toL w6 := by rw [← hw6]; exact hA5.al _
  have hD6 : Arr .u32 29 (w.heap.size + 1) b.toL w6 := by rw [← hw6]; exact hD5.al _
  have hE6 : Arr .u32 23 w1.heap.size y1.toL w6 := by rw [← hw6]; exact hE5.al _
  have hF6 : Arr .u32 23 w3.heap.size y2.toL w6 := by rw [← hw6]; exact hF5.al _
  have hG6 : Arr .u32 23 w5.heap.size q.toL w6 := by rw [← hw6]; exact heap_alloc_new w5 _
  have hB6 : Below w.heap.size w w6 := by rw [← hw6]; exact hB5.alloc hB5.size _
  have HL6 := Lib.hid (show DgOk w6 by rw [← hw6]; exact HL5.out.al _)
  clear hA5 hD5 hE5 hF5 hB5 HL5
  go_wp2_with fail
  clear hw6
  generalize w1.heap.size = G5 at *
  generalize w3.heap.size = G6 at *
  generalize w5.heap.size = G7 at *
  go_loopw [8] (fun i wr => ∃ k : Nat, k ≤ 4 ∧ i = .int .i64 k ∧ Arr .u32 29 w.heap.size a.toL wr ∧ Arr .u32 29 (w.heap.size + 1) b.toL wr ∧ Arr .u32 23 G5 y1.toL wr ∧ Arr .u32 23 G6 y2.toL wr ∧ Arr .u32 23 G7 (xorP q.toL b.toL k) wr ∧ Below w.heap.size w wr ∧ Hid (DgOk wr)) (fun i _ => 4 - (intOf i).toNat)
  case atStart => exact ⟨0, by omega, rfl, hA6, hD6, hE6, hF6, hG6, hB6, HL6⟩
  case round =>
    clear hA6 hD6 hE6 hF6 hG6 hB6 HL6
    obtain ⟨k, hk, rfl, hA, hD, hE, hF, hG, hB, HL⟩ := hrel
    by_cases hlt : k < 4
    · have hkd : decide ((k : Int) < 4) = true := by simp; omega
      have hMn : (xorP q.toL b.toL k).length = 8 := by rw [xorP_len]; rfl
      have hMo := xorP_ok (S8.toL_ok hqo) (D4.toL_ok hb) k
      obtain ⟨x, hx⟩ : ∃ x, (xorP q.toL b.toL k).getD k 0 = x := ⟨_, rfl⟩
      obtain ⟨v, hv⟩ : ∃ v, b.toL.getD k 0 = v := ⟨_, rfl⟩
      have hxw : isW x := by rw [← hx]; exact hMo.get k
      have hvw : isW v := by rw [← hv]; exact (D4.toL_ok hb).get k
      have HPk : Hid (xorP q.toL b.toL (k + 1) = (xorP q.toL b.toL k).set k (bits .xor .u32 x v)) := by
        show _ = _
        rw [xorP, hx, hv, bits_xw hxw hvw]
      generalize xorP q.toL b.toL k = M at *
      have hc1 : wr.cell? ⟨G7, k, none⟩ = some (.int .u32 x) := by rw [← hx]; exact hG.cell (by omega)
      have hc2 : wr.cell? ⟨w.heap.size + 1, k, none⟩ = some (.int .u32 v) := by rw [← hv]; exact hD.cell (by rw [D4.toL_len]; omega)
      clear hx hv
      have hf1 := hG.fz k
      have hA1 : Arr .u32 29 w.heap.size a.toL (wr.setCell ⟨G7, k, none⟩ (.int .u32 (bits .xor .u32 x v))).drew := hA.far (a := ⟨G7, k, none⟩) n1 _
      have hD1 : Arr .u32 29 (w.heap.size + 1) b.toL (wr.setCell ⟨G7, k, none⟩ (.int .u32 (bits .xor .u32 x v))).drew := hD.far (a := ⟨G7, k, none⟩) n2 _
      have hE1 : Arr .u32 23 G5 y1.toL (wr.setCell ⟨G7, k, none⟩ (.int .u32 (bits .xor .u32 x v))).drew := hE.far (a := ⟨G7, k, none⟩) n3 _
      have hF1 : Arr .u32 23 G6 y2.toL (wr.setCell ⟨G7, k, none⟩ (.int .u32 (bits .xor .u32 x v))).drew := hF.far (a := ⟨G7, k, none⟩) n4 _
      have hG1 : Arr .u32 23 G7 (M.set k (bits .xor .u32 x v)) (wr.setCell ⟨G7, k, none⟩ (.int .u32 (bits .xor .u32 x v))).drew := hG.set k _
      have hB1 : Below w.heap.size w (wr.setCell ⟨G7, k, none⟩ (.int .u32 (bits .xor .u32 x v))).drew := (hB.setCell (p := ⟨G7, k, none⟩) n5 _).drew
      rw [← HPk.out] at hG1
      have HLw := Lib.hid (show DgOk (wr.setCell ⟨G7, k, none⟩ (.int .u32 (bits .xor .u32 x v))).drew from HL0.out.below hB1)
      have hk0 : (0 : Int) ≤ k := by omega
      have hk3 : (k : Int) < 4 := by omega
      have hk7 : (k : Int) < 8 := by omega
      clear hA hD hE hF hG hB hxw hvw
      go_wp2_with fail
      go_region
      go_wp2_with fail
      go_roundw
      case rel => exact ⟨k + 1, by omega, by go_num, hA1, hD1, hE1, hF1, hG1, hB1, HLw⟩
      case measure => simp [intOf]; omega
    · have hk4 : k = 4 := by omega
      subst hk4
      rw [HX.out] at hG
      have HLd := Lib.hid (HL.out.drew)
      have HS0 := Lib.hid (show (wr.drew.cell? ⟨w.heap.size, 0, none⟩ = some (.int .u32 a.d0) ∧ wr.drew.cell? ⟨w.heap.size, 1, none⟩ = some (.int .u32 a.d1) ∧ wr.drew.cell? ⟨w.heap.size, 2, none⟩ = some (.int .u32 a.d2) ∧ wr.drew.cell? ⟨w.heap.size, 3, none⟩ = some (.int .u32 a.d3)) ∧ (wr.drew.cell? ⟨(w.heap.size + 1), 0, none⟩ = some (.int .u32 b.d0) ∧ wr.drew.cell? ⟨(w.heap.size + 1), 1, none⟩ = some (.int .u32 b.d1) ∧ wr.drew.cell? ⟨(w.heap.size + 1), 2, none⟩ = some (.int .u32 b.d2) ∧ wr.drew.cell? ⟨(w.heap.size + 1), 3, none⟩ = some (.int .u32 b.d3)) ∧ (wr.drew.cell? ⟨G5, 0, none⟩ = some (.int .u32 y1.x0) ∧ wr.drew.cell? ⟨G5, 1, none⟩ = some (.int .u32 y1.x1) ∧ wr.drew.cell? ⟨G5, 2, none⟩ = some (.int .u32 y1.x2) ∧ wr.drew.cell? ⟨G5, 3, none⟩ = some (.int .u32 y1.x3) ∧ wr.drew.cell? ⟨G5, 4, none⟩ = some (.int .u32 y1.x4) ∧ wr.drew.cell? ⟨G5, 5, none⟩ = some (.int .u32 y1.x5) ∧ wr.drew.cell? ⟨G5, 6, none⟩ = some (.int .u32 y1.x6) ∧ wr.drew.cell? ⟨G5, 7, none⟩ = some (.int .u32 y1.x7)) ∧ (wr.drew.cell? ⟨G6, 0, none⟩ = some (.int .u32 y2.x0) ∧ wr.drew.cell? ⟨G6, 1, none⟩ = some (.int .u32 y2.x1) ∧ wr.drew.cell? ⟨G6, 2, none⟩ = some (.int .u32 y2.x2) ∧ wr.drew.cell? ⟨G6, 3, none⟩ = some (.int .u32 y2.x3) ∧ wr.drew.cell? ⟨G6, 4, none⟩ = some (.int .u32 y2.x4) ∧ wr.drew.cell? ⟨G6, 5, none⟩ = some (.int .u32 y2.x5) ∧ wr.drew.cell? ⟨G6, 6, none⟩ = some (.int .u32 y2.x6) ∧ wr.drew.cell? ⟨G6, 7, none⟩ = some (.int .u32 y2.x7)) ∧ (wr.drew.cell? ⟨G7, 0, none⟩ = some (.int .u32 y1.x0) ∧ wr.drew.cell? ⟨G7, 1, none⟩ = some (.int .u32 y1.x1) ∧ wr.drew.cell? ⟨G7, 2, none⟩ = some (.int .u32 y1.x2) ∧ wr.drew.cell? ⟨G7, 3, none⟩ = some (.int .u32 y1.x3) ∧ wr.drew.cell? ⟨G7, 4, none⟩ = some (.int .u32 y1.x4) ∧ wr.drew.cell? ⟨G7, 5, none⟩ = some (.int .u32 y1.x5) ∧ wr.drew.cell? ⟨G7, 6, none⟩ = some (.int .u32 y1.x6) ∧ wr.drew.cell? ⟨G7, 7, none⟩ = some (.int .u32 y1.x7)) from ⟨hA.c4, hD.c4, hE.c8, hF.c8, hG.c8⟩)
      have hBd := hB.drew
      clear hA hD hE hF hG HL hB
      have hE1 := eqD_yes (frontS y2)
      simp only [frontS] at hE1
      have hE2 := eqS_yes y1
      go_wp2_with fail
      obtain ⟨HL, hB⟩ := And.intro HLd hBd
      clear HLd hBd
      go_region_held3 (fun w' => (w'.cell? ⟨w.heap.size, 0, none⟩ = some (.int .u32 a.d0) ∧ w'.cell? ⟨w.heap.size, 1, none⟩ = some (.int .u32 a.d1) ∧ w'.cell? ⟨w.heap.size, 2, none⟩ = some (.int .u32 a.d2) ∧ w'.cell? ⟨w.heap.size, 3, none⟩ = some (.int .u32 a.d3)) ∧ (w'.cell? ⟨(w.heap.size + 1), 0, none⟩ = some (.int .u32 b.d0) ∧ w'.cell? ⟨(w.heap.size + 1), 1, none⟩ = some (.int .u32 b.d1) ∧ w'.cell? ⟨(w.heap.size + 1), 2, none⟩ = some (.int .u32 b.d2) ∧ w'.cell? ⟨(w.heap.size + 1), 3, none⟩ = some (.int .u32 b.d3)) ∧ (w'.cell? ⟨G5, 0, none⟩ = some (.int .u32 y1.x0) ∧ w'.cell? ⟨G5, 1, none⟩ = some (.int .u32 y1.x1) ∧ w'.cell? ⟨G5, 2, none⟩ = some (.int .u32 y1.x2) ∧ w'.cell? ⟨G5, 3, none⟩ = some (.int .u32 y1.x3) ∧ w'.cell? ⟨G5, 4, none⟩ = some (.int .u32 y1.x4) ∧ w'.cell? ⟨G5, 5, none⟩ = some (.int .u32 y1.x5) ∧ w'.cell? ⟨G5, 6, none⟩ = some (.int .u32 y1.x6) ∧ w'.cell? ⟨G5, 7, none⟩ = some (.int .u32 y1.x7)) ∧ (w'.cell? ⟨G6, 0, none⟩ = some (.int .u32 y2.x0) ∧ w'.cell? ⟨G6, 1, none⟩ = some (.int .u32 y2.x1) ∧ w'.cell? ⟨G6, 2, none⟩ = some (.int .u32 y2.x2) ∧ w'.cell? ⟨G6, 3, none⟩ = some (.int .u32 y2.x3) ∧ w'.cell? ⟨G6, 4, none⟩ = some (.int .u32 y2.x4) ∧ w'.cell? ⟨G6, 5, none⟩ = some (.int .u32 y2.x5) ∧ w'.cell? ⟨G6, 6, none⟩ = some (.int .u32 y2.x6) ∧ w'.cell? ⟨G6, 7, none⟩ = some (.int .u32 y2.x7)) ∧ (w'.cell? ⟨G7, 0, none⟩ = some (.int .u32 y1.x0) ∧ w'.cell? ⟨G7, 1, none⟩ = some (.int .u32 y1.x1) ∧ w'.cell? ⟨G7, 2, none⟩ = some (.int .u32 y1.x2) ∧ w'.cell? ⟨G7, 3, none⟩ = some (.int .u32 y1.x3) ∧ w'.cell? ⟨G7, 4, none⟩ = some (.int .u32 y1.x4) ∧ w'.cell? ⟨G7, 5, none⟩ = some (.int .u32 y1.x5) ∧ w'.cell? ⟨G7, 6, none⟩ = some (.int .u32 y1.x6) ∧ w'.cell? ⟨G7, 7, none⟩ = some (.int .u32 y1.x7)))
        (first | ((with_reducible refine keep5 (a := a) (b := b) (s := y1) (t := y2) (u := y1) hA ?_); assumption) | (with_reducible exact HS0.out))
        (first
          | (go_at_call 11; (with_reducible refine (awakeD_any _ HL.out).mono ?_); rintro e w' ⟨rfl, hA⟩; have HL := Lib.hid (HL.out.below hA); have hB := hB.trans (hA.mono hB.size))
          | (go_at_call 18; (with_reducible refine (pairX a b y2 _ ha hb HL.out HP.out).mono ?_); rintro e w' ⟨rfl, hA⟩; have HL := Lib.hid (HL.out.below hA); have hB := hB.trans (hA.mono hB.size)))
      all_goals (go_wp2_with fail; go_ret; exact ⟨rfl, hB⟩)

end Go.Proofs.YtepcpjppogcjbaaDoor
