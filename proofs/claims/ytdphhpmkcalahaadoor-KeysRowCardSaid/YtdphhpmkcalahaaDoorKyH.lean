/-
  The document's Clash of layer 6 (written by gen_clash6.py).
-/
import Derived.Test.YtdphhpmkcalahaaDoorKyE
import Derived.Test.YtdphhpmkcalahaaDoorMkC2
import Derived.Deep.CutRange
namespace Go.Proofs.YtdphhpmkcalahaaDoor
open Go.RowKit

theorem eqD_runF (n : Nat) (c d : D4) (w : World) : Sem.run Tryd.prog (Op.equalIn (n + 2) 24 (.agg #[.int .u32 c.d0, .int .u32 c.d1, .int .u32 c.d2, .int .u32 c.d3]) (.agg #[.int .u32 d.d0, .int .u32 d.d1, .int .u32 d.d2, .int .u32 d.d3])) w = Result.ok (sameD c d) w := by
  obtain ⟨i, hi, _⟩ := info_parts (show (Tryd.prog.info? 22).map (fun i => (i.zero, i.size, i.bytes)) = some (some (.int .u32 0), 1, 4) by kernel_rfl)
  rw [run_equalIn_array (P := Tryd.prog) (w := w) (n + 1) _ _ Tryd.underlying24 hi]
  rw [show Tryd.prog.cellsOf 22 = 1 by kernel_rfl]
  simp [Op.eqItems, List.range, List.range.loop, go_sem, part]
  unfold sameD
  repeat' split
  all_goals simp_all
theorem eqP_run (a b c d : D4) (w : World) : Sem.run Tryd.prog (Op.equalIn 10000 68 (.agg #[.int .u32 a.d0, .int .u32 a.d1, .int .u32 a.d2, .int .u32 a.d3, .int .u32 b.d0, .int .u32 b.d1, .int .u32 b.d2, .int .u32 b.d3]) (.agg #[.int .u32 c.d0, .int .u32 c.d1, .int .u32 c.d2, .int .u32 c.d3, .int .u32 d.d0, .int .u32 d.d1, .int .u32 d.d2, .int .u32 d.d3])) w = Result.ok (sameD a c && sameD b d) w := by
  obtain ⟨i, hi, _⟩ := info_parts info_dg
  rw [run_equalIn_array (P := Tryd.prog) (w := w) 9999 _ _ Tryd.underlying68 hi]
  rw [show Tryd.prog.cellsOf 24 = 4 by kernel_rfl]
  have e1 := eqD_runF 9997 a c
  have e2 := eqD_runF 9997 b d
  simp [Op.eqItems, List.range, List.range.loop, go_sem, part, e1, e2]
  cases sameD a c <;> cases sameD b d <;> rfl

theorem drop_next (l : List D4) (k : Nat) (h : k < l.length) : l.drop k = l.getD k zeroD :: l.drop (k + 1) := by
  rw [List.drop_eq_getElem_cons h, List.getD_eq_getElem?_getD, List.getElem?_eq_getElem h]
  rfl
theorem clash6_end (i : Nat) (a b : D4) (p q : List D4) (k : Nat) (h : ¬ (k < p.length ∧ k < q.length)) : clash6 i a (p.drop k) b (q.drop k) = false := by
  rcases Nat.lt_or_ge k p.length with h1 | h1
  · have h2 : q.length ≤ k := by omega
    rw [List.drop_eq_nil_of_le h2]
    unfold clash6
    split <;> simp_all
  · rw [List.drop_eq_nil_of_le h1]
    unfold clash6
    rfl

theorem pairAt_even (i : Nat) (a x : D4) (h : i % 2 = 0) : pairAt i a x = (a, x) := by
  unfold pairAt; rw [if_neg (by omega)]
theorem pairAt_odd (i : Nat) (a x : D4) (h : i % 2 = 1) : pairAt i a x = (x, a) := by
  unfold pairAt; rw [if_pos h]
theorem clash6_go (i k : Nat) (a b x y l1 r1 l2 r2 z1 z2 : D4) (p q : List D4) (hl : k < p.length) (hl2 : k < q.length) (hx : p.getD k zeroD = x) (hy : q.getD k zeroD = y) (h1 : pairAt i a x = (l1, r1)) (h2 : pairAt i b y = (l2, r2)) (hz1 : pairS l1 r1 = z1) (hz2 : pairS l2 r2 = z2) :
    clash6 i a (p.drop k) b (q.drop k) = ((!(sameD l1 l2 && sameD r1 r2) && sameD z1 z2) || clash6 (i / 2) z1 (p.drop (k + 1)) z2 (q.drop (k + 1))) := by
  rw [drop_next p k hl, drop_next q k hl2, hx, hy, clash6, h1, h2, hz1, hz2]

set_option maxHeartbeats 4000000 in
set_option maxRecDepth 100000 in
theorem rclash6_any (i : Nat) (a b : D4) (p q : List D4) (pa qa : Option Addr) (n m c d : Nat) (w : World) (hn : n = p.length) (hm : m = q.length) (hao : a.ok) (hbo : b.ok) (hpo : allD4 p) (hqo : allD4 q) (hp : RdS w pa p) (hq : RdS w qa q) (hc : n ≤ c) (hcm : c ≤ maxLen) (hd : m ≤ d) (_hdm : d ≤ maxLen) (hi : (i : Int) < 9223372036854775808) :
    Calls Tryd.prog 22 #[.int .i64 (i : Int), .agg #[.int .u32 a.d0, .int .u32 a.d1, .int .u32 a.d2, .int .u32 a.d3], .slice pa n c, .agg #[.int .u32 b.d0, .int .u32 b.d1, .int .u32 b.d2, .int .u32 b.d3], .slice qa m d] w fun e w' => e = .returned (.bool (clash6 i a p b q)) ∧ Below w.heap.size w w' := by
  unfold maxLen at hcm _hdm
  have HN := Lib.hid hn
  have HM := Lib.hid hm
  have HPO := Lib.hid hpo
  have HQO := Lib.hid hqo
  clear hn hm hpo hqo
  obtain ⟨w0, hw0⟩ : ∃ w0, (w.alloc (.cells #[.int .u32 a.d0, .int .u32 a.d1, .int .u32 a.d2, .int .u32 a.d3] 24)).alloc (.cells #[.int .u32 b.d0, .int .u32 b.d1, .int .u32 b.d2, .int .u32 b.d3] 24) = w0 := ⟨_, rfl⟩
  obtain ⟨hA0, hB0, hW0⟩ := start47 a b w w0 hw0
  have hsz0 : w.heap.size + 1 < w0.heap.size := hB0.lt
  have hp0 := hp.on hW0
  have hq0 := hq.on hW0
  go_enter Tryd.func22, Tryd.ntmps22
  go_wp2_with fail
  clear hw0
  go_loopw [0, 11] (fun vi vk wr => ∃ (k ii : Nat) (aa bb : D4), k ≤ n ∧ k ≤ m ∧ vi = .int .i64 (ii : Int) ∧ vk = .int .i64 (k : Int) ∧ (ii : Int) < 9223372036854775808 ∧ Arr .u32 24 w.heap.size aa.toL wr ∧ Arr .u32 24 (w.heap.size + 1) bb.toL wr ∧ Below w.heap.size w wr ∧ Hid (w0.heap.size ≤ wr.heap.size ∧ aa.ok ∧ bb.ok ∧ clash6 i a p b q = clash6 ii aa (p.drop k) bb (q.drop k))) (fun _ vk _ => n - (intOf vk).toNat)
  case atStart => exact ⟨0, i, a, b, Nat.zero_le _, Nat.zero_le _, rfl, rfl, hi, hA0, hB0, hW0, Lib.hid ⟨Nat.le_refl _, hao, hbo, rfl⟩⟩
  case round =>
  obtain ⟨k, ii, aa, bb, hk, hkm0, rfl, rfl, hii, hA, hB, hW, HI⟩ := hrel
  by_cases hlt : k < n ∧ k < m
  · obtain ⟨hk1, hk2⟩ := hlt
    have hl : k < p.length := by have := HN.out; omega
    have hl2 : k < q.length := by have := HM.out; omega
    obtain ⟨b1, o1, rfl, h1⟩ := hp (by intro e; subst e; simp at hl)
    obtain ⟨b2, o2, rfl, h2⟩ := hq (by intro e; subst e; simp at hl2)
    obtain ⟨x, hx⟩ : ∃ x, p.getD k zeroD = x := ⟨_, rfl⟩
    obtain ⟨y, hy⟩ : ∃ y, q.getD k zeroD = y := ⟨_, rfl⟩
    have hX1 := (h1.2 k hl).on hW h1.1
    have hb1 : b1 < wr.heap.size := Nat.lt_of_lt_of_le h1.1 hW.size
    have hb2 : b2 < wr.heap.size := Nat.lt_of_lt_of_le h2.1 hW.size
    have hY1 := (h2.2 k hl2).on hW h2.1
    rw [hx] at hX1
    rw [hy] at hY1
    have HX := Lib.hid hx
    have HY := Lib.hid hy
    clear hx hy
    have hk0 : (0 : Int) ≤ (k : Int) := by omega
    have hkn : (k : Int) < (n : Int) := by omega
    have hkm : (k : Int) < (m : Int) := by omega
    go_upto_region 4 with fail
    go_cut [12] from 14 (fun v wx => ∃ X, v = .pointer (some ⟨X, 0, none⟩) ∧ wr.heap.size ≤ X ∧ Arr .u32 68 X (both8 aa x).toL wx ∧ Below wr.heap.size wr wx)
    case first =>
      obtain ⟨wn, hwn⟩ : ∃ wn, (wr.alloc (.cells #[.int .u32 0, .int .u32 0, .int .u32 0, .int .u32 0, .int .u32 0, .int .u32 0, .int .u32 0, .int .u32 0] 68)).drew = wn := ⟨_, rfl⟩
      have hNn : Arr .u32 68 wr.heap.size nilS.toL wn := by rw [← hwn]; exact heap_alloc_new wr _
      have hBn : Below wr.heap.size wr wn := by rw [← hwn]; exact ((Below.refl _ _).alloc (Nat.le_refl _) _).drew
      have hBd : Below wr.heap.size wr wr.drew := (Below.refl _ _).drew
      obtain ⟨a0, a1, a2, a3⟩ := Arr.c4 (hA.on hBd)
      obtain ⟨x0, x1, x2, x3⟩ := hX1.on hBd hb1
      obtain ⟨a0', a1', a2', a3'⟩ := Arr.c4 (hA.on hBn)
      obtain ⟨x0', x1', x2', x3'⟩ := hX1.on hBn hb1
      obtain ⟨k0, k1, k2, k3, k4, k5, k6, k7⟩ := Arr.c8 (y := nilS) hNn
      obtain ⟨f0, f1, f2, f3, f4, f5, f6, f7⟩ := hNn.f8
      go_region
      go_wp2_with fail
      go_meet
      exact ⟨_, rfl, Nat.le_refl _, putB8 hNn rfl, below_putB8 hBn (Nat.le_refl _) aa x⟩
    case rest =>
    obtain ⟨X, rfl, hXge, hX, hBx⟩ := hcut
    generalize wc = w4 at *
    have hA4 := hA.on hBx
    have hB4 := hB.on hBx
    have hx4 := hX1.on hBx hb1
    have hy4 := hY1.on hBx hb2
    have hb14 := Nat.lt_of_lt_of_le hb1 hBx.size
    have hb24 := Nat.lt_of_lt_of_le hb2 hBx.size
    have hW4 := hW.trans (hBx.mono hW.size)
    have hs4 := hBx.size
    have hXlt := hX.lt
    clear hA hB hX1 hY1 hBx
    go_upto_region 5 with fail
    go_cut [13] from 14 (fun v wx => ∃ Y, v = .pointer (some ⟨Y, 0, none⟩) ∧ w4.heap.size ≤ Y ∧ Arr .u32 68 Y (both8 bb y).toL wx ∧ Below w4.heap.size w4 wx)
    case first =>
      obtain ⟨wn, hwn⟩ : ∃ wn, (w4.alloc (.cells #[.int .u32 0, .int .u32 0, .int .u32 0, .int .u32 0, .int .u32 0, .int .u32 0, .int .u32 0, .int .u32 0] 68)).drew = wn := ⟨_, rfl⟩
      have hNn : Arr .u32 68 w4.heap.size nilS.toL wn := by rw [← hwn]; exact heap_alloc_new w4 _
      have hBn : Below w4.heap.size w4 wn := by rw [← hwn]; exact ((Below.refl _ _).alloc (Nat.le_refl _) _).drew
      have hBd : Below w4.heap.size w4 w4.drew := (Below.refl _ _).drew
      obtain ⟨a0, a1, a2, a3⟩ := Arr.c4 (hB4.on hBd)
      obtain ⟨x0, x1, x2, x3⟩ := hy4.on hBd hb24
      obtain ⟨a0', a1', a2', a3'⟩ := Arr.c4 (hB4.on hBn)
      obtain ⟨x0', x1', x2', x3'⟩ := hy4.on hBn hb24
      obtain ⟨k0, k1, k2, k3, k4, k5, k6, k7⟩ := Arr.c8 (y := nilS) hNn
      obtain ⟨f0, f1, f2, f3, f4, f5, f6, f7⟩ := hNn.f8
      go_region
      go_wp2_with fail
      go_meet
      exact ⟨_, rfl, Nat.le_refl _, putB8 hNn rfl, below_putB8 hBn (Nat.le_refl _) bb y⟩
    case rest =>
    obtain ⟨Y, rfl, hYge, hY, hBy⟩ := hcut
    generalize wc = w5 at *
    have hA5 := hA4.on hBy
    have hB5 := hB4.on hBy
    have hx5 := hx4.on hBy hb14
    have hy5 := hy4.on hBy hb24
    have hb15 := Nat.lt_of_lt_of_le hb14 hBy.size
    have hb25 := Nat.lt_of_lt_of_le hb24 hBy.size
    have hX5 := hX.on hBy
    have hW5 := hW4.trans (hBy.mono hW4.size)
    have hs5 := hBy.size
    have hYlt := hY.lt
    have hXY : X < Y := Nat.lt_of_lt_of_le hXlt hYge
    clear hA4 hB4 hx4 hy4 hX hW4 hBy
    have hq2 : (ii : Int).tdiv 2 = ((ii / 2 : Nat) : Int) := by rw [Int.tdiv_eq_ediv_of_nonneg (by omega)]; omega
    have hq3 : IntKind.i64.wrap ((ii / 2 : Nat) : Int) = ((ii / 2 : Nat) : Int) := IntWalk.i64_in _ (by omega)
    have hxo : x.ok := HPO.out _ (by rw [← HX.out, List.getD_eq_getElem?_getD, List.getElem?_eq_getElem hl]; exact List.getElem_mem hl)
    have hyo : y.ok := HQO.out _ (by rw [← HY.out, List.getD_eq_getElem?_getD, List.getElem?_eq_getElem hl2]; exact List.getElem_mem hl2)
    have HXO := Lib.hid (And.intro hxo hyo)
    clear hxo hyo
    have n1 : X ≠ w.heap.size := by have := HI.out.1; omega
    have n2 : X ≠ w.heap.size + 1 := by have := HI.out.1; omega
    have n3 : Y ≠ w.heap.size := by have := HI.out.1; omega
    have n4 : Y ≠ w.heap.size + 1 := by have := HI.out.1; omega
    rcases Nat.mod_two_eq_zero_or_one ii with hp2 | hp2
    · have hm2 : (ii : Int).tmod 2 = 0 := by rw [Int.tmod_eq_emod_of_nonneg (by omega)]; omega
      have hX6 := hX5
      have hY6 := hY
      have hA6 := hA5
      have hB6 := hB5
      have hW6 := hW5
      clear hX5 hY hA5 hB5 hW5 hx5 hy5
      have HO : (aa).ok ∧ (x).ok ∧ (bb).ok ∧ (y).ok := ⟨HI.out.2.1, HXO.out.1, HI.out.2.2.1, HXO.out.2⟩
      obtain ⟨z1, hz1⟩ : ∃ z, pairS aa x = z := ⟨_, rfl⟩
      obtain ⟨z2, hz2⟩ : ∃ z, pairS bb y = z := ⟨_, rfl⟩
      have HS := clash6_go ii k aa bb x y aa x bb y z1 z2 p q hl hl2 HX.out HY.out (pairAt_even ii _ _ hp2) (pairAt_even ii _ _ hp2) hz1 hz2
      have hzo1 : z1.ok := by rw [← hz1]; exact pairS_ok HO.1 HO.2.1
      have hzo2 : z2.ok := by rw [← hz2]; exact pairS_ok HO.2.2.1 HO.2.2.2
      have HZ1 := Lib.hid hz1
      have HZ2 := Lib.hid hz2
      have HSS := Lib.hid HS
      have HOO := Lib.hid HO
      have HZO := Lib.hid (And.intro hzo1 hzo2)
      clear hz1 hz2 HS HO hzo1 hzo2
      have X8 := Arr.c8 hX6
      simp only [both8] at X8
      obtain ⟨x0, x1, x2, x3, x4, x5, x6, x7⟩ := X8
      go_wp2_with fail
      refine (rpair_val aa x z1 _ HOO.out.1 HOO.out.2.1 HZ1.out).mono ?_
      rintro e w7 ⟨rfl, hD⟩
      have hA7 := hA6.on hD
      have hB7 := hB6.on hD
      have hX7 := hX6.on hD
      have hY7 := hY6.on hD
      have hW7 := hW6.trans (hD.mono hW6.size)
      have hs7 := hD.size
      clear hA6 hB6 hX6 hY6 hW6 hD x0 x1 x2 x3 x4 x5 x6 x7
      obtain ⟨w8, hw8⟩ : ∃ w8, ((((w7.setCell ⟨w.heap.size, 0, none⟩ (.int .u32 z1.d0)).setCell ⟨w.heap.size, 1, none⟩ (.int .u32 z1.d1)).setCell ⟨w.heap.size, 2, none⟩ (.int .u32 z1.d2)).setCell ⟨w.heap.size, 3, none⟩ (.int .u32 z1.d3)) = w8 := ⟨_, rfl⟩
      have hA8 : Arr .u32 24 w.heap.size z1.toL w8 := by rw [← hw8]; exact put4 (d := z1) hA7 rfl
      have hB8 : Arr .u32 24 (w.heap.size + 1) bb.toL w8 := by rw [← hw8]; exact far4 hB7 (show w.heap.size + 1 ≠ w.heap.size by omega) z1
      have hX8 : Arr .u32 68 X (both8 aa x).toL w8 := by rw [← hw8]; exact far4 hX7 (show X ≠ w.heap.size by omega) z1
      have hY8 : Arr .u32 68 Y (both8 bb y).toL w8 := by rw [← hw8]; exact far4 hY7 (show Y ≠ w.heap.size by omega) z1
      have hW8 : Below w.heap.size w w8 := by rw [← hw8]; exact below_put4 hW7 (Nat.le_refl _) z1
      have hs8 : w7.heap.size ≤ w8.heap.size := by rw [← hw8]; simp
      obtain ⟨c0, c1, c2, c3⟩ := Arr.c4 hA7
      obtain ⟨f0, f1, f2, f3⟩ := hA7.f4
      have Y8 := Arr.c8 hY8
      simp only [both8] at Y8
      obtain ⟨y0, y1, y2, y3, y4, y5, y6, y7⟩ := Y8
      clear hA7 hB7 hX7 hY7 hW7
      go_wp2_with fail
      clear hw8 c0 c1 c2 c3 f0 f1 f2 f3
      refine (rpair_val bb y z2 _ HOO.out.2.2.1 HOO.out.2.2.2 HZ2.out).mono ?_
      rintro e w9 ⟨rfl, hD⟩
      have hA9 := hA8.on hD
      have hB9 := hB8.on hD
      have hX9 := hX8.on hD
      have hY9 := hY8.on hD
      have hW9 := hW8.trans (hD.mono hW8.size)
      have hs9 := hD.size
      clear hA8 hB8 hX8 hY8 hW8 hD y0 y1 y2 y3 y4 y5 y6 y7
      obtain ⟨w10, hw10⟩ : ∃ w10, ((((w9.setCell ⟨w.heap.size + 1, 0, none⟩ (.int .u32 z2.d0)).setCell ⟨w.heap.size + 1, 1, none⟩ (.int .u32 z2.d1)).setCell ⟨w.heap.size + 1, 2, none⟩ (.int .u32 z2.d2)).setCell ⟨w.heap.size + 1, 3, none⟩ (.int .u32 z2.d3)) = w10 := ⟨_, rfl⟩
      have hB10 : Arr .u32 24 (w.heap.size + 1) z2.toL w10 := by rw [← hw10]; exact put4 (d := z2) hB9 rfl
      have hA10 : Arr .u32 24 w.heap.size z1.toL w10 := by rw [← hw10]; exact far4 hA9 (show w.heap.size ≠ w.heap.size + 1 by omega) z2
      have hX10 : Arr .u32 68 X (both8 aa x).toL w10 := by rw [← hw10]; exact far4 hX9 (show X ≠ w.heap.size + 1 by omega) z2
      have hY10 : Arr .u32 68 Y (both8 bb y).toL w10 := by rw [← hw10]; exact far4 hY9 (show Y ≠ w.heap.size + 1 by omega) z2
      have hW10 : Below w.heap.size w w10 := by rw [← hw10]; exact below_put4 hW9 (Nat.le_succ _) z2
      have hs10 : w9.heap.size ≤ w10.heap.size := by rw [← hw10]; simp
      obtain ⟨c0, c1, c2, c3⟩ := Arr.c4 hB9
      obtain ⟨f0, f1, f2, f3⟩ := hB9.f4
      have X8 := Arr.c8 hX10
      simp only [both8] at X8
      obtain ⟨x0, x1, x2, x3, x4, x5, x6, x7⟩ := X8
      have Y8 := Arr.c8 hY10
      simp only [both8] at Y8
      obtain ⟨y0, y1, y2, y3, y4, y5, y6, y7⟩ := Y8
      obtain ⟨a0, a1, a2, a3⟩ := Arr.c4 hA10
      obtain ⟨b0, b1, b2, b3⟩ := Arr.c4 hB10
      have hE := eqP_run aa x bb y
      have hF := eqD_run z1 z2
      obtain ⟨g, hg⟩ : ∃ g, (sameD aa bb && sameD x y) = g := ⟨_, rfl⟩
      obtain ⟨r, hr⟩ : ∃ r, sameD z1 z2 = r := ⟨_, rfl⟩
      rw [hg] at hE
      rw [hr] at hF
      have HSS := HSS.out
      rw [hg, hr] at HSS
      have HSS := Lib.hid HSS
      clear hA9 hB9 hX9 hY9 hW9 hX10 hY10 hg hr
      cases g <;> cases r
      all_goals
        go_wp2_with fail
        first
          | (go_ret; exact ⟨by rw [HI.out.2.2.2, HSS.out]; rfl, hW10⟩)
          | (go_round
             case rel => exact ⟨k + 1, ii / 2, z1, z2, by omega, by omega, by first | rfl | go_num | simp, by go_num, by omega, hA10, hB10, hW10, Lib.hid ⟨by have := HI.out.1; omega, HZO.out.1, HZO.out.2, by rw [HI.out.2.2.2, HSS.out]; simp⟩⟩
             case measure => simp [intOf]; omega)
    · have hm2 : (ii : Int).tmod 2 = 1 := by rw [Int.tmod_eq_emod_of_nonneg (by omega)]; omega
      obtain ⟨a0, a1, a2, a3⟩ := Arr.c4 hA5
      have hAd : Arr .u32 24 w.heap.size aa.toL w5.drew := hA5
      have hxd : dgAt w5.drew b1 (o1 + k * 4) x := hx5
      obtain ⟨x0, x1, x2, x3⟩ := hx5
      have hXd : Arr .u32 68 X (both8 aa x).toL w5.drew := hX5
      obtain ⟨a0', a1', a2', a3'⟩ := Arr.c4 hAd
      obtain ⟨x0', x1', x2', x3'⟩ := hxd
      have K8 := Arr.c8 hX5
      simp only [both8] at K8
      obtain ⟨k0, k1, k2, k3, k4, k5, k6, k7⟩ := K8
      obtain ⟨f0, f1, f2, f3, f4, f5, f6, f7⟩ := hX5.f8
      have K8 := Arr.c8 hXd
      simp only [both8] at K8
      obtain ⟨k0', k1', k2', k3', k4', k5', k6', k7'⟩ := K8
      obtain ⟨f0', f1', f2', f3', f4', f5', f6', f7'⟩ := hXd.f8
      go_upto_region 7 with fail
      go_region
      clear a0 a1 a2 a3 x0 x1 x2 x3 a0' a1' a2' a3' x0' x1' x2' x3' k0 k1 k2 k3 k4 k5 k6 k7 f0 f1 f2 f3 f4 f5 f6 f7 k0' k1' k2' k3' k4' k5' k6' k7' f0' f1' f2' f3' f4' f5' f6' f7' hAd hXd
      have hwX : w.heap.size ≤ X := by have := HI.out.1; omega
      have hXf := putB8 (x := x) (z := aa) hX5 rfl
      have hAf := farB8 hA5 (Ne.symm n1) x aa
      have hBf := farB8 hB5 (Ne.symm n2) x aa
      have hYf := farB8 hY (show Y ≠ X by omega) x aa
      have hWf := below_putB8 hW5 hwX x aa
      have hsf : w5.heap.size ≤ (((((((((w5.setCell ⟨X, 0, none⟩ (.int .u32 x.d0)).setCell ⟨X, 1, none⟩ (.int .u32 x.d1)).setCell ⟨X, 2, none⟩ (.int .u32 x.d2)).setCell ⟨X, 3, none⟩ (.int .u32 x.d3)).setCell ⟨X, 4, none⟩ (.int .u32 aa.d0)).setCell ⟨X, 5, none⟩ (.int .u32 aa.d1)).setCell ⟨X, 6, none⟩ (.int .u32 aa.d2)).setCell ⟨X, 7, none⟩ (.int .u32 aa.d3))).heap.size := by simp
      clear hX5 hA5 hB5 hY hW5 hy5
      generalize ((((((((w5.setCell ⟨X, 0, none⟩ (.int .u32 x.d0)).setCell ⟨X, 1, none⟩ (.int .u32 x.d1)).setCell ⟨X, 2, none⟩ (.int .u32 x.d2)).setCell ⟨X, 3, none⟩ (.int .u32 x.d3)).setCell ⟨X, 4, none⟩ (.int .u32 aa.d0)).setCell ⟨X, 5, none⟩ (.int .u32 aa.d1)).setCell ⟨X, 6, none⟩ (.int .u32 aa.d2)).setCell ⟨X, 7, none⟩ (.int .u32 aa.d3)) = v1 at *
      have hX5 : Arr .u32 68 X (both8 x aa).toL v1.drew := hXf
      have hA5 : Arr .u32 24 w.heap.size aa.toL v1.drew := hAf
      have hB5 : Arr .u32 24 (w.heap.size + 1) bb.toL v1.drew := hBf
      have hY : Arr .u32 68 Y (both8 bb y).toL v1.drew := hYf
      have hW5 : Below w.heap.size w v1.drew := hWf.drew
      have hsg : w5.heap.size ≤ v1.drew.heap.size := hsf
      clear hXf hAf hBf hYf hWf hsf
      generalize v1.drew = v2 at *
      have hy5 : dgAt v2 b2 (o2 + k * 4) y := by
        have := (h2.2 k hl2).on hW5 h2.1
        rwa [HY.out] at this
      obtain ⟨a0, a1, a2, a3⟩ := Arr.c4 hB5
      have hAd : Arr .u32 24 (w.heap.size + 1) bb.toL v2.drew := hB5
      have hxd : dgAt v2.drew b2 (o2 + k * 4) y := hy5
      obtain ⟨x0, x1, x2, x3⟩ := hy5
      have hXd : Arr .u32 68 Y (both8 bb y).toL v2.drew := hY
      obtain ⟨a0', a1', a2', a3'⟩ := Arr.c4 hAd
      obtain ⟨x0', x1', x2', x3'⟩ := hxd
      have K8 := Arr.c8 hY
      simp only [both8] at K8
      obtain ⟨k0, k1, k2, k3, k4, k5, k6, k7⟩ := K8
      obtain ⟨f0, f1, f2, f3, f4, f5, f6, f7⟩ := hY.f8
      have K8 := Arr.c8 hXd
      simp only [both8] at K8
      obtain ⟨k0', k1', k2', k3', k4', k5', k6', k7'⟩ := K8
      obtain ⟨f0', f1', f2', f3', f4', f5', f6', f7'⟩ := hXd.f8
      go_upto_region 8 with fail
      go_region
      clear a0 a1 a2 a3 x0 x1 x2 x3 a0' a1' a2' a3' x0' x1' x2' x3' k0 k1 k2 k3 k4 k5 k6 k7 f0 f1 f2 f3 f4 f5 f6 f7 k0' k1' k2' k3' k4' k5' k6' k7' f0' f1' f2' f3' f4' f5' f6' f7' hAd hXd
      have hYf := putB8 (x := y) (z := bb) hY rfl
      have hAf := farB8 hA5 (Ne.symm n3) y bb
      have hBf := farB8 hB5 (Ne.symm n4) y bb
      have hXf := farB8 hX5 (show X ≠ Y by omega) y bb
      have hWf := below_putB8 hW5 (show w.heap.size ≤ Y by omega) y bb
      have hsf : v2.heap.size ≤ (((((((((v2.setCell ⟨Y, 0, none⟩ (.int .u32 y.d0)).setCell ⟨Y, 1, none⟩ (.int .u32 y.d1)).setCell ⟨Y, 2, none⟩ (.int .u32 y.d2)).setCell ⟨Y, 3, none⟩ (.int .u32 y.d3)).setCell ⟨Y, 4, none⟩ (.int .u32 bb.d0)).setCell ⟨Y, 5, none⟩ (.int .u32 bb.d1)).setCell ⟨Y, 6, none⟩ (.int .u32 bb.d2)).setCell ⟨Y, 7, none⟩ (.int .u32 bb.d3))).heap.size := by simp
      clear hX5 hA5 hB5 hY hW5
      generalize ((((((((v2.setCell ⟨Y, 0, none⟩ (.int .u32 y.d0)).setCell ⟨Y, 1, none⟩ (.int .u32 y.d1)).setCell ⟨Y, 2, none⟩ (.int .u32 y.d2)).setCell ⟨Y, 3, none⟩ (.int .u32 y.d3)).setCell ⟨Y, 4, none⟩ (.int .u32 bb.d0)).setCell ⟨Y, 5, none⟩ (.int .u32 bb.d1)).setCell ⟨Y, 6, none⟩ (.int .u32 bb.d2)).setCell ⟨Y, 7, none⟩ (.int .u32 bb.d3)) = v3 at *
      have hX6 : Arr .u32 68 X (both8 x aa).toL v3.drew := hXf
      have hA6 : Arr .u32 24 w.heap.size aa.toL v3.drew := hAf
      have hB6 : Arr .u32 24 (w.heap.size + 1) bb.toL v3.drew := hBf
      have hY6 : Arr .u32 68 Y (both8 y bb).toL v3.drew := hYf
      have hW6 : Below w.heap.size w v3.drew := hWf.drew
      have hsh : v2.heap.size ≤ v3.drew.heap.size := hsf
      clear hXf hAf hBf hYf hWf hsf
      generalize v3.drew = v4 at *
      have HO : (x).ok ∧ (aa).ok ∧ (y).ok ∧ (bb).ok := ⟨HXO.out.1, HI.out.2.1, HXO.out.2, HI.out.2.2.1⟩
      obtain ⟨z1, hz1⟩ : ∃ z, pairS x aa = z := ⟨_, rfl⟩
      obtain ⟨z2, hz2⟩ : ∃ z, pairS y bb = z := ⟨_, rfl⟩
      have HS := clash6_go ii k aa bb x y x aa y bb z1 z2 p q hl hl2 HX.out HY.out (pairAt_odd ii _ _ hp2) (pairAt_odd ii _ _ hp2) hz1 hz2
      have hzo1 : z1.ok := by rw [← hz1]; exact pairS_ok HO.1 HO.2.1
      have hzo2 : z2.ok := by rw [← hz2]; exact pairS_ok HO.2.2.1 HO.2.2.2
      have HZ1 := Lib.hid hz1
      have HZ2 := Lib.hid hz2
      have HSS := Lib.hid HS
      have HOO := Lib.hid HO
      have HZO := Lib.hid (And.intro hzo1 hzo2)
      clear hz1 hz2 HS HO hzo1 hzo2
      have X8 := Arr.c8 hX6
      simp only [both8] at X8
      obtain ⟨x0, x1, x2, x3, x4, x5, x6, x7⟩ := X8
      go_wp2_with fail
      refine (rpair_val x aa z1 _ HOO.out.1 HOO.out.2.1 HZ1.out).mono ?_
      rintro e w7 ⟨rfl, hD⟩
      have hA7 := hA6.on hD
      have hB7 := hB6.on hD
      have hX7 := hX6.on hD
      have hY7 := hY6.on hD
      have hW7 := hW6.trans (hD.mono hW6.size)
      have hs7 := hD.size
      clear hA6 hB6 hX6 hY6 hW6 hD x0 x1 x2 x3 x4 x5 x6 x7
      obtain ⟨w8, hw8⟩ : ∃ w8, ((((w7.setCell ⟨w.heap.size, 0, none⟩ (.int .u32 z1.d0)).setCell ⟨w.heap.size, 1, none⟩ (.int .u32 z1.d1)).setCell ⟨w.heap.size, 2, none⟩ (.int .u32 z1.d2)).setCell ⟨w.heap.size, 3, none⟩ (.int .u32 z1.d3)) = w8 := ⟨_, rfl⟩
      have hA8 : Arr .u32 24 w.heap.size z1.toL w8 := by rw [← hw8]; exact put4 (d := z1) hA7 rfl
      have hB8 : Arr .u32 24 (w.heap.size + 1) bb.toL w8 := by rw [← hw8]; exact far4 hB7 (show w.heap.size + 1 ≠ w.heap.size by omega) z1
      have hX8 : Arr .u32 68 X (both8 x aa).toL w8 := by rw [← hw8]; exact far4 hX7 (show X ≠ w.heap.size by omega) z1
      have hY8 : Arr .u32 68 Y (both8 y bb).toL w8 := by rw [← hw8]; exact far4 hY7 (show Y ≠ w.heap.size by omega) z1
      have hW8 : Below w.heap.size w w8 := by rw [← hw8]; exact below_put4 hW7 (Nat.le_refl _) z1
      have hs8 : w7.heap.size ≤ w8.heap.size := by rw [← hw8]; simp
      obtain ⟨c0, c1, c2, c3⟩ := Arr.c4 hA7
      obtain ⟨f0, f1, f2, f3⟩ := hA7.f4
      have Y8 := Arr.c8 hY8
      simp only [both8] at Y8
      obtain ⟨y0, y1, y2, y3, y4, y5, y6, y7⟩ := Y8
      clear hA7 hB7 hX7 hY7 hW7
      go_wp2_with fail
      clear hw8 c0 c1 c2 c3 f0 f1 f2 f3
      refine (rpair_val y bb z2 _ HOO.out.2.2.1 HOO.out.2.2.2 HZ2.out).mono ?_
      rintro e w9 ⟨rfl, hD⟩
      have hA9 := hA8.on hD
      have hB9 := hB8.on hD
      have hX9 := hX8.on hD
      have hY9 := hY8.on hD
      have hW9 := hW8.trans (hD.mono hW8.size)
      have hs9 := hD.size
      clear hA8 hB8 hX8 hY8 hW8 hD y0 y1 y2 y3 y4 y5 y6 y7
      obtain ⟨w10, hw10⟩ : ∃ w10, ((((w9.setCell ⟨w.heap.size + 1, 0, none⟩ (.int .u32 z2.d0)).setCell ⟨w.heap.size + 1, 1, none⟩ (.int .u32 z2.d1)).setCell ⟨w.heap.size + 1, 2, none⟩ (.int .u32 z2.d2)).setCell ⟨w.heap.size + 1, 3, none⟩ (.int .u32 z2.d3)) = w10 := ⟨_, rfl⟩
      have hB10 : Arr .u32 24 (w.heap.size + 1) z2.toL w10 := by rw [← hw10]; exact put4 (d := z2) hB9 rfl
      have hA10 : Arr .u32 24 w.heap.size z1.toL w10 := by rw [← hw10]; exact far4 hA9 (show w.heap.size ≠ w.heap.size + 1 by omega) z2
      have hX10 : Arr .u32 68 X (both8 x aa).toL w10 := by rw [← hw10]; exact far4 hX9 (show X ≠ w.heap.size + 1 by omega) z2
      have hY10 : Arr .u32 68 Y (both8 y bb).toL w10 := by rw [← hw10]; exact far4 hY9 (show Y ≠ w.heap.size + 1 by omega) z2
      have hW10 : Below w.heap.size w w10 := by rw [← hw10]; exact below_put4 hW9 (Nat.le_succ _) z2
      have hs10 : w9.heap.size ≤ w10.heap.size := by rw [← hw10]; simp
      obtain ⟨c0, c1, c2, c3⟩ := Arr.c4 hB9
      obtain ⟨f0, f1, f2, f3⟩ := hB9.f4
      have X8 := Arr.c8 hX10
      simp only [both8] at X8
      obtain ⟨x0, x1, x2, x3, x4, x5, x6, x7⟩ := X8
      have Y8 := Arr.c8 hY10
      simp only [both8] at Y8
      obtain ⟨y0, y1, y2, y3, y4, y5, y6, y7⟩ := Y8
      obtain ⟨a0, a1, a2, a3⟩ := Arr.c4 hA10
      obtain ⟨b0, b1, b2, b3⟩ := Arr.c4 hB10
      have hE := eqP_run x aa y bb
      have hF := eqD_run z1 z2
      obtain ⟨g, hg⟩ : ∃ g, (sameD x y && sameD aa bb) = g := ⟨_, rfl⟩
      obtain ⟨r, hr⟩ : ∃ r, sameD z1 z2 = r := ⟨_, rfl⟩
      rw [hg] at hE
      rw [hr] at hF
      have HSS := HSS.out
      rw [hg, hr] at HSS
      have HSS := Lib.hid HSS
      clear hA9 hB9 hX9 hY9 hW9 hX10 hY10 hg hr
      cases g <;> cases r
      all_goals
        go_wp2_with fail
        first
          | (go_ret; exact ⟨by rw [HI.out.2.2.2, HSS.out]; rfl, hW10⟩)
          | (go_round
             case rel => exact ⟨k + 1, ii / 2, z1, z2, by omega, by omega, by first | rfl | go_num | simp, by go_num, by omega, hA10, hB10, hW10, Lib.hid ⟨by have := HI.out.1; omega, HZO.out.1, HZO.out.2, by rw [HI.out.2.2.2, HSS.out]; simp⟩⟩
             case measure => simp [intOf]; omega)
  · have hE := Lib.hid (clash6_end ii aa bb p q k (by rw [← HN.out, ← HM.out]; exact hlt))
    by_cases hk1 : k < n
    · have hkm : k = m := by omega
      subst hkm
      have hkn : (k : Int) < (n : Int) := by omega
      clear hlt hk1 hkm0
      go_wp2
      go_ret
      refine ⟨?_, hW⟩
      rw [HI.out.2.2.2, hE.out]
      rfl
    · have hkn : k = n := by omega
      subst hkn
      clear hlt hk1 hk
      go_wp2
      go_ret
      refine ⟨?_, hW⟩
      rw [HI.out.2.2.2, hE.out]
      rfl
end Go.Proofs.YtdphhpmkcalahaaDoor
