/-
  Structures and arrays as arguments: a signature, a signer, a pair of signatures, two numbers, three bytes.
-/
import Derived.Test.YtdphhpmkcalahaaDoorRow
namespace Go.Proofs.YtdphhpmkcalahaaDoor
open Go.ChangeShapes Go.WideShapes Go.ChangeAt Go.RowKit

theorem two_of : ∀ (cs : List Value), cs.length = 2 → ∃ a0 a1, cs = [a0, a1]
  | [a0, a1], _ => ⟨a0, a1, rfl⟩
theorem three_of : ∀ (cs : List Value), cs.length = 3 → ∃ a0 a1 a2, cs = [a0, a1, a2]
  | [a0, a1, a2], _ => ⟨a0, a1, a2, rfl⟩
theorem six_of : ∀ (cs : List Value), cs.length = 6 → ∃ a0 a1 a2 a3 a4 a5, cs = [a0, a1, a2, a3, a4, a5]
  | [a0, a1, a2, a3, a4, a5], _ => ⟨a0, a1, a2, a3, a4, a5, rfl⟩
theorem eighteen_of : ∀ (cs : List Value), cs.length = 18 → ∃ a0 a1 a2 a3 a4 a5 a6 a7 a8 a9 a10 a11 a12 a13 a14 a15 a16 a17, cs = [a0, a1, a2, a3, a4, a5, a6, a7, a8, a9, a10, a11, a12, a13, a14, a15, a16, a17]
  | [a0, a1, a2, a3, a4, a5, a6, a7, a8, a9, a10, a11, a12, a13, a14, a15, a16, a17], _ => ⟨a0, a1, a2, a3, a4, a5, a6, a7, a8, a9, a10, a11, a12, a13, a14, a15, a16, a17, rfl⟩
theorem cells_sl : Tryd.prog.cellsOf 36 = 1 := by kernel_rfl
theorem cells_si : Tryd.prog.cellsOf 38 = 3 := by kernel_rfl
theorem cells_sr : Tryd.prog.cellsOf 30 = 6 := by kernel_rfl
theorem cells_pr : Tryd.prog.cellsOf 49 = 18 := by kernel_rfl
theorem cells_p2 : Tryd.prog.cellsOf 34 = 2 := by kernel_rfl
theorem cells_p3 : Tryd.prog.cellsOf 54 = 3 := by kernel_rfl
theorem cells_u8 : Tryd.prog.cellsOf 5 = 1 := by kernel_rfl
theorem one_int {H : Type} {enc : TypeId × Value → H} {W : World} {fuel : Nat} {v : Value} {x : DataW H × List MemPlace} (hf : DataW.trod enc Tryd.prog W 0 (fun _ => true) true fuel 3 [v] = some x) : ∃ z, v = .int .i64 z := by
  obtain ⟨z, hz, _, _⟩ := DataW.trod_int Tryd.underlying3 hf
  simp at hz
  exact ⟨z, hz⟩
set_option maxRecDepth 100000 in
theorem sig_cells {H : Type} {enc : TypeId × Value → H} {W : World} {fuel : Nat} {cs : List Value} {x : DataW H × List MemPlace} (hf : DataW.trod enc Tryd.prog W 0 (fun _ => true) true fuel 38 cs = some x) :
    ∃ (i : Int) (p q : Option Addr) (c1 c2 : Nat) (l m : List D4), cs = [.int .i64 i, .slice p l.length c1, .slice q m.length c2] ∧ allD4 l ∧ RdS W p l ∧ l.length ≤ c1 ∧ c1 ≤ maxLen ∧ allD4 m ∧ RdS W q m ∧ m.length ≤ c2 ∧ c2 ≤ maxLen := by
  obtain ⟨xs, m0, rfl, hx, hl, hn, hi⟩ := DataW.trod_struct Tryd.underlying38 hf
  rw [cells_si] at hl
  have hnx : xs.length = 3 := hn
  have h0 : DataW.trod enc Tryd.prog W 0 (fun _ => true) true m0 3 (List.take (Tryd.prog.cellsOf 3) (List.drop 0 cs)) = xs[0]? := hi 0 _ rfl
  rw [cellsI, List.getElem?_eq_getElem (show 0 < xs.length by omega)] at h0
  have h1 : DataW.trod enc Tryd.prog W 0 (fun _ => true) true m0 36 (List.take (Tryd.prog.cellsOf 36) (List.drop 1 cs)) = xs[1]? := hi 1 _ rfl
  rw [cells_sl, List.getElem?_eq_getElem (show 1 < xs.length by omega)] at h1
  have h2 : DataW.trod enc Tryd.prog W 0 (fun _ => true) true m0 35 (List.take (Tryd.prog.cellsOf 35) (List.drop 2 cs)) = xs[2]? := hi 2 _ rfl
  rw [cells_dl, List.getElem?_eq_getElem (show 2 < xs.length by omega)] at h2
  obtain ⟨a0, a1, a2, e⟩ := three_of _ hl
  rw [e] at h0 h1 h2
  obtain ⟨i, ei⟩ := one_int (v := a0) h0
  obtain ⟨p, c1, l, e1, ho1, hr1, hc1, hm1⟩ := open_sgs (v := a1) h1
  obtain ⟨q, c2, m, e2, ho2, hr2, hc2, hm2⟩ := open_dgs (v := a2) h2
  exact ⟨i, p, q, c1, c2, l, m, by rw [e, ei, e1, e2], ho1, hr1, hc1, hm1, ho2, hr2, hc2, hm2⟩
set_option maxRecDepth 100000 in
theorem open_si {H : Type} {enc : TypeId × Value → H} {W : World} {v : Value} {d : DataW H} {ps : List MemPlace} (hval : Value.okWide Tryd.prog W .any 0 38 v) (hd : DataW.Trod enc Tryd.prog W 0 (fun _ => true) true 38 v d ps) :
    ∃ (i : Int) (p q : Option Addr) (c1 c2 : Nat) (l m : List D4), v = .agg #[.int .i64 i, .slice p l.length c1, .slice q m.length c2] ∧ allD4 l ∧ RdS W p l ∧ l.length ≤ c1 ∧ c1 ≤ maxLen ∧ allD4 m ∧ RdS W q m ∧ m.length ≤ c2 ∧ c2 ≤ maxLen := by
  unfold Value.okWide at hval
  rw [Tryd.underlying38] at hval
  obtain ⟨cs, rfl, hs, _⟩ := hval
  obtain ⟨fuel, hf⟩ := hd
  obtain ⟨i, p, q, c1, c2, l, m, e, hr⟩ := sig_cells (cs := cs.toList) hf
  exact ⟨i, p, q, c1, c2, l, m, by congr 1; apply Array.ext'; exact e, hr⟩
set_option maxRecDepth 100000 in
theorem open_sr {H : Type} {enc : TypeId × Value → H} {W : World} {v : Value} {d : DataW H} {ps : List MemPlace} (hval : Value.okWide Tryd.prog W .any 0 30 v) (hd : DataW.Trod enc Tryd.prog W 0 (fun _ => true) true 30 v d ps) :
    ∃ (s : D4) (a b : Int), v = .agg #[.int .u32 s.d0, .int .u32 s.d1, .int .u32 s.d2, .int .u32 s.d3, .int .i64 a, .int .i64 b] ∧ s.ok := by
  unfold Value.okWide at hval
  rw [Tryd.underlying30] at hval
  obtain ⟨cs, rfl, hs, _⟩ := hval
  obtain ⟨fuel, hf⟩ := hd
  obtain ⟨cs⟩ := cs
  replace hf : DataW.trod enc Tryd.prog W 0 (fun _ => true) true fuel 30 cs = some (d, ps) := hf
  obtain ⟨xs, m0, _, hx, hl, hn, hi⟩ := DataW.trod_struct Tryd.underlying30 hf
  rw [cells_sr] at hl
  have hnx : xs.length = 3 := hn
  have h0 : DataW.trod enc Tryd.prog W 0 (fun _ => true) true m0 24 (List.take (Tryd.prog.cellsOf 24) (List.drop 0 cs)) = xs[0]? := hi 0 _ rfl
  rw [cells_dg, List.getElem?_eq_getElem (show 0 < xs.length by omega)] at h0
  have h1 : DataW.trod enc Tryd.prog W 0 (fun _ => true) true m0 3 (List.take (Tryd.prog.cellsOf 3) (List.drop 4 cs)) = xs[1]? := hi 1 _ rfl
  rw [cellsI, List.getElem?_eq_getElem (show 1 < xs.length by omega)] at h1
  have h2 : DataW.trod enc Tryd.prog W 0 (fun _ => true) true m0 3 (List.take (Tryd.prog.cellsOf 3) (List.drop 5 cs)) = xs[2]? := hi 2 _ rfl
  rw [cellsI, List.getElem?_eq_getElem (show 2 < xs.length by omega)] at h2
  obtain ⟨a0, a1, a2, a3, a4, a5, e⟩ := six_of _ hl
  subst e
  obtain ⟨s, es, hso, _⟩ := open_four h0
  obtain ⟨a, ea⟩ := one_int (v := a4) h1
  obtain ⟨b, eb⟩ := one_int (v := a5) h2
  simp only [List.drop_zero, List.take_succ_cons, List.take_zero, List.cons.injEq, and_true] at es
  exact ⟨s, a, b, by rw [es.1, es.2.1, es.2.2.1, es.2.2.2, ea, eb], hso⟩
set_option maxRecDepth 100000 in
theorem open_pr {H : Type} {enc : TypeId × Value → H} {W : World} {v : Value} {d : DataW H} {ps : List MemPlace} (hval : Value.okWide Tryd.prog W .any 0 49 v) (hd : DataW.Trod enc Tryd.prog W 0 (fun _ => true) true 49 v d ps) :
    ∃ (x a b : D4) (i k : Int) (p q p' q' : Option Addr) (c1 c2 c3 c4 : Nat) (l m l' m' : List D4), v = .agg #[.int .u32 x.d0, .int .u32 x.d1, .int .u32 x.d2, .int .u32 x.d3, .int .u32 a.d0, .int .u32 a.d1, .int .u32 a.d2, .int .u32 a.d3, .int .u32 b.d0, .int .u32 b.d1, .int .u32 b.d2, .int .u32 b.d3, .int .i64 i, .slice p l.length c1, .slice q m.length c2, .int .i64 k, .slice p' l'.length c3, .slice q' m'.length c4] ∧ a.ok ∧ b.ok ∧ (allD4 l ∧ RdS W p l ∧ l.length ≤ c1 ∧ c1 ≤ maxLen ∧ allD4 m ∧ RdS W q m ∧ m.length ≤ c2 ∧ c2 ≤ maxLen) ∧ allD4 l' ∧ RdS W p' l' ∧ l'.length ≤ c3 ∧ c3 ≤ maxLen ∧ allD4 m' ∧ RdS W q' m' ∧ m'.length ≤ c4 ∧ c4 ≤ maxLen := by
  unfold Value.okWide at hval
  rw [Tryd.underlying49] at hval
  obtain ⟨cs, rfl, hs, _⟩ := hval
  obtain ⟨fuel, hf⟩ := hd
  obtain ⟨cs⟩ := cs
  replace hf : DataW.trod enc Tryd.prog W 0 (fun _ => true) true fuel 49 cs = some (d, ps) := hf
  obtain ⟨xs, m0, _, hx, hl, hn, hi⟩ := DataW.trod_struct Tryd.underlying49 hf
  rw [cells_pr] at hl
  have hnx : xs.length = 5 := hn
  have h0 : DataW.trod enc Tryd.prog W 0 (fun _ => true) true m0 24 (List.take (Tryd.prog.cellsOf 24) (List.drop 0 cs)) = xs[0]? := hi 0 _ rfl
  rw [cells_dg, List.getElem?_eq_getElem (show 0 < xs.length by omega)] at h0
  have h1 : DataW.trod enc Tryd.prog W 0 (fun _ => true) true m0 24 (List.take (Tryd.prog.cellsOf 24) (List.drop 4 cs)) = xs[1]? := hi 1 _ rfl
  rw [cells_dg, List.getElem?_eq_getElem (show 1 < xs.length by omega)] at h1
  have h2 : DataW.trod enc Tryd.prog W 0 (fun _ => true) true m0 24 (List.take (Tryd.prog.cellsOf 24) (List.drop 8 cs)) = xs[2]? := hi 2 _ rfl
  rw [cells_dg, List.getElem?_eq_getElem (show 2 < xs.length by omega)] at h2
  have h3 : DataW.trod enc Tryd.prog W 0 (fun _ => true) true m0 38 (List.take (Tryd.prog.cellsOf 38) (List.drop 12 cs)) = xs[3]? := hi 3 _ rfl
  rw [cells_si, List.getElem?_eq_getElem (show 3 < xs.length by omega)] at h3
  have h4 : DataW.trod enc Tryd.prog W 0 (fun _ => true) true m0 38 (List.take (Tryd.prog.cellsOf 38) (List.drop 15 cs)) = xs[4]? := hi 4 _ rfl
  rw [cells_si, List.getElem?_eq_getElem (show 4 < xs.length by omega)] at h4
  obtain ⟨a0, a1, a2, a3, a4, a5, a6, a7, a8, a9, a10, a11, a12, a13, a14, a15, a16, a17, e⟩ := eighteen_of _ hl
  subst e
  obtain ⟨x, ex, _, _⟩ := open_four h0
  obtain ⟨a, ea, hao, _⟩ := open_four h1
  obtain ⟨b, eb, hbo, _⟩ := open_four h2
  obtain ⟨i, p, q, c1, c2, l, m, e3, hr⟩ := sig_cells h3
  obtain ⟨k, p', q', c3, c4, l', m', e4, hr'⟩ := sig_cells h4
  simp only [List.drop_zero, List.drop_succ_cons, List.take_succ_cons, List.take_zero, List.cons.injEq, and_true] at ex ea eb e3 e4
  refine ⟨x, a, b, i, k, p, q, p', q', c1, c2, c3, c4, l, m, l', m', ?_, hao, hbo, hr, hr'⟩
  rw [ex.1, ex.2.1, ex.2.2.1, ex.2.2.2, ea.1, ea.2.1, ea.2.2.1, ea.2.2.2, eb.1, eb.2.1, eb.2.2.1, eb.2.2.2, e3.1, e3.2.1, e3.2.2, e4.1, e4.2.1, e4.2.2]
set_option maxRecDepth 100000 in
theorem open_p2 {H : Type} {enc : TypeId × Value → H} {W : World} {v : Value} {d : DataW H} {ps : List MemPlace} (hval : Value.okWide Tryd.prog W .any 0 34 v) (hd : DataW.Trod enc Tryd.prog W 0 (fun _ => true) true 34 v d ps) :
    ∃ a b : Int, v = .agg #[.int .i64 a, .int .i64 b] := by
  unfold Value.okWide at hval
  rw [Tryd.underlying34] at hval
  obtain ⟨cs, rfl, hs, _⟩ := hval
  obtain ⟨fuel, hf⟩ := hd
  obtain ⟨cs⟩ := cs
  replace hf : DataW.trod enc Tryd.prog W 0 (fun _ => true) true fuel 34 cs = some (d, ps) := hf
  obtain ⟨ys, m, _, hx, hl, hn, hi⟩ := DataW.trod_array Tryd.underlying34 hf
  rw [cellsI] at hi
  rw [cells_p2] at hl
  obtain ⟨a0, a1, e⟩ := two_of _ hl
  subst e
  have h0 := hi 0 (by decide)
  have h1 := hi 1 (by decide)
  rw [List.getElem?_eq_getElem (show 0 < ys.length by omega)] at h0
  rw [List.getElem?_eq_getElem (show 1 < ys.length by omega)] at h1
  obtain ⟨a, ea⟩ := one_int (v := a0) h0
  obtain ⟨b, eb⟩ := one_int (v := a1) h1
  exact ⟨a, b, by rw [ea, eb]⟩
theorem one_byte {H : Type} {enc : TypeId × Value → H} {W : World} {fuel : Nat} {v : Value} {x : DataW H × List MemPlace} (hf : DataW.trod enc Tryd.prog W 0 (fun _ => true) true fuel 5 [v] = some x) : ∃ z, v = .int .u8 z ∧ 0 ≤ z ∧ z < 256 := by
  obtain ⟨z, hz, _, hw⟩ := DataW.trod_int Tryd.underlying5 hf
  simp at hz
  have := bounds_u8 hw
  exact ⟨z, hz, this.1, by omega⟩
set_option maxRecDepth 100000 in
theorem open_p3 {H : Type} {enc : TypeId × Value → H} {W : World} {v : Value} {d : DataW H} {ps : List MemPlace} (hval : Value.okWide Tryd.prog W .any 0 54 v) (hd : DataW.Trod enc Tryd.prog W 0 (fun _ => true) true 54 v d ps) :
    ∃ a b c : Int, v = .agg #[.int .u8 a, .int .u8 b, .int .u8 c] ∧ 0 ≤ a ∧ a < 256 ∧ 0 ≤ b ∧ b < 256 ∧ 0 ≤ c ∧ c < 256 := by
  unfold Value.okWide at hval
  rw [Tryd.underlying54] at hval
  obtain ⟨cs, rfl, hs, _⟩ := hval
  obtain ⟨fuel, hf⟩ := hd
  obtain ⟨cs⟩ := cs
  replace hf : DataW.trod enc Tryd.prog W 0 (fun _ => true) true fuel 54 cs = some (d, ps) := hf
  obtain ⟨ys, m, _, hx, hl, hn, hi⟩ := DataW.trod_array Tryd.underlying54 hf
  rw [cells_u8] at hi
  rw [cells_p3] at hl
  obtain ⟨a0, a1, a2, e⟩ := three_of _ hl
  subst e
  have h0 := hi 0 (by decide)
  have h1 := hi 1 (by decide)
  have h2 := hi 2 (by decide)
  rw [List.getElem?_eq_getElem (show 0 < ys.length by omega)] at h0
  rw [List.getElem?_eq_getElem (show 1 < ys.length by omega)] at h1
  rw [List.getElem?_eq_getElem (show 2 < ys.length by omega)] at h2
  obtain ⟨a, ea, la, ha⟩ := one_byte (v := a0) h0
  obtain ⟨b, eb, lb, hb⟩ := one_byte (v := a1) h1
  obtain ⟨c, ec, lc, hc⟩ := one_byte (v := a2) h2
  exact ⟨a, b, c, by rw [ea, eb, ec], la, ha, lb, hb, lc, hc⟩
theorem stand_p2 : Tryd.pinned.checked.prog.wantsStandIn 34 = false := by kernel_rfl
theorem stand_p3 : Tryd.pinned.checked.prog.wantsStandIn 54 = false := by kernel_rfl
theorem stand_si : Tryd.pinned.checked.prog.wantsStandIn 38 = false := by kernel_rfl
theorem stand_sr : Tryd.pinned.checked.prog.wantsStandIn 30 = false := by kernel_rfl
theorem stand_pr : Tryd.pinned.checked.prog.wantsStandIn 49 = false := by kernel_rfl
end Go.Proofs.YtdphhpmkcalahaaDoor
