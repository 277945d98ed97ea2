/-
  The two structures as arguments.
-/
import Derived.Test.YtnimbclnhgbdcaaDoorRow
namespace Go.Proofs.YtnimbclnhgbdcaaDoor
open Go.ChangeShapes Go.WideShapes Go.ChangeAt Go.RowKit

theorem eleven_of : ∀ (cs : List Value), cs.length = 11 → ∃ a b c d e f g h i j k, cs = [a, b, c, d, e, f, g, h, i, j, k]
  | [a, b, c, d, e, f, g, h, i, j, k], _ => ⟨a, b, c, d, e, f, g, h, i, j, k, rfl⟩
theorem cells_ap : Tryd.prog.cellsOf 35 = 11 := by kernel_rfl
theorem open_ap {H : Type} {enc : TypeId × Value → H} {W : World} {v : Value} {d : DataW H} {ps : List MemPlace} (hval : Value.okWide Tryd.prog W .any 0 35 v) (hd : DataW.Trod enc Tryd.prog W 0 (fun _ => true) true 35 v d ps) :
    ∃ (a b : D4) (n i : Int) (p : Option Addr) (cap : Nat) (l : List D4), v = .agg #[.int .u32 a.d0, .int .u32 a.d1, .int .u32 a.d2, .int .u32 a.d3, .int .u32 b.d0, .int .u32 b.d1, .int .u32 b.d2, .int .u32 b.d3, .int .i64 n, .int .i64 i, .slice p l.length cap] ∧ a.ok ∧ b.ok ∧ allD4 l ∧ RdS W p l ∧ l.length ≤ cap ∧ cap ≤ maxLen := by
  unfold Value.okWide at hval
  rw [Tryd.underlying35] at hval
  obtain ⟨cs, rfl, hs, _⟩ := hval
  obtain ⟨fuel, hf⟩ := hd
  obtain ⟨xs, m, rfl, hx, hl, hn, hi⟩ := DataW.trod_struct Tryd.underlying35 hf
  rw [cells_ap] at hl
  have hn5 : xs.length = 5 := hn
  have h0 : DataW.trod enc Tryd.prog W 0 (fun _ => true) true m 26 (List.take (Tryd.prog.cellsOf 26) (List.drop 0 (Value.agg cs).cells.toList)) = xs[0]? := hi 0 _ rfl
  have h1 : DataW.trod enc Tryd.prog W 0 (fun _ => true) true m 26 (List.take (Tryd.prog.cellsOf 26) (List.drop 4 (Value.agg cs).cells.toList)) = xs[1]? := hi 1 _ rfl
  have h2 : DataW.trod enc Tryd.prog W 0 (fun _ => true) true m 3 (List.take (Tryd.prog.cellsOf 3) (List.drop 8 (Value.agg cs).cells.toList)) = xs[2]? := hi 2 _ rfl
  have h3 : DataW.trod enc Tryd.prog W 0 (fun _ => true) true m 3 (List.take (Tryd.prog.cellsOf 3) (List.drop 9 (Value.agg cs).cells.toList)) = xs[3]? := hi 3 _ rfl
  have h4 : DataW.trod enc Tryd.prog W 0 (fun _ => true) true m 22 (List.take (Tryd.prog.cellsOf 22) (List.drop 10 (Value.agg cs).cells.toList)) = xs[4]? := hi 4 _ rfl
  rw [cells_dg, List.getElem?_eq_getElem (show 0 < xs.length by omega)] at h0
  rw [cells_dg, List.getElem?_eq_getElem (show 1 < xs.length by omega)] at h1
  rw [cellsI, List.getElem?_eq_getElem (show 2 < xs.length by omega)] at h2
  rw [cellsI, List.getElem?_eq_getElem (show 3 < xs.length by omega)] at h3
  rw [cells_dl, List.getElem?_eq_getElem (show 4 < xs.length by omega)] at h4
  obtain ⟨c0, c1, c2, c3, c4, c5, c6, c7, c8, c9, c10, e⟩ := eleven_of _ hl
  have e' : cs.toList = [c0, c1, c2, c3, c4, c5, c6, c7, c8, c9, c10] := e
  rw [e] at h0 h1 h2 h3 h4
  obtain ⟨a, ea, hao, _⟩ := open_four h0
  obtain ⟨b, eb, hbo, _⟩ := open_four h1
  obtain ⟨n, en, _, _⟩ := DataW.trod_int Tryd.underlying3 h2
  obtain ⟨i, ei, _, _⟩ := DataW.trod_int Tryd.underlying3 h3
  obtain ⟨p, cap, l, el, hlo, hr, hc, hm⟩ := open_dgs (v := c10) h4
  simp only [List.drop_zero, List.take_succ_cons, List.take_zero, List.drop_succ_cons, List.cons.injEq, and_true] at ea eb en ei
  refine ⟨a, b, n, i, p, cap, l, ?_, hao, hbo, hlo, hr, hc, hm⟩
  congr 1
  apply Array.ext'
  rw [e', ea.1, ea.2.1, ea.2.2.1, ea.2.2.2, eb.1, eb.2.1, eb.2.2.1, eb.2.2.2, en, ei, el]
theorem cells_am : Tryd.prog.cellsOf 39 = 11 := by kernel_rfl
theorem open_am {H : Type} {enc : TypeId × Value → H} {W : World} {v : Value} {d : DataW H} {ps : List MemPlace} (hval : Value.okWide Tryd.prog W .any 0 39 v) (hd : DataW.Trod enc Tryd.prog W 0 (fun _ => true) true 39 v d ps) :
    ∃ (a b : D4) (n i : Int) (p : Option Addr) (cap : Nat) (l : List D4), v = .agg #[.int .u32 a.d0, .int .u32 a.d1, .int .u32 a.d2, .int .u32 a.d3, .int .u32 b.d0, .int .u32 b.d1, .int .u32 b.d2, .int .u32 b.d3, .int .i64 n, .int .i64 i, .slice p l.length cap] ∧ a.ok ∧ b.ok ∧ allD4 l ∧ RdS W p l ∧ l.length ≤ cap ∧ cap ≤ maxLen := by
  unfold Value.okWide at hval
  rw [Tryd.underlying39] at hval
  obtain ⟨cs, rfl, hs, _⟩ := hval
  obtain ⟨fuel, hf⟩ := hd
  obtain ⟨xs, m, rfl, hx, hl, hn, hi⟩ := DataW.trod_struct Tryd.underlying39 hf
  rw [cells_am] at hl
  have hn5 : xs.length = 5 := hn
  have h0 : DataW.trod enc Tryd.prog W 0 (fun _ => true) true m 26 (List.take (Tryd.prog.cellsOf 26) (List.drop 0 (Value.agg cs).cells.toList)) = xs[0]? := hi 0 _ rfl
  have h1 : DataW.trod enc Tryd.prog W 0 (fun _ => true) true m 26 (List.take (Tryd.prog.cellsOf 26) (List.drop 4 (Value.agg cs).cells.toList)) = xs[1]? := hi 1 _ rfl
  have h2 : DataW.trod enc Tryd.prog W 0 (fun _ => true) true m 3 (List.take (Tryd.prog.cellsOf 3) (List.drop 8 (Value.agg cs).cells.toList)) = xs[2]? := hi 2 _ rfl
  have h3 : DataW.trod enc Tryd.prog W 0 (fun _ => true) true m 3 (List.take (Tryd.prog.cellsOf 3) (List.drop 9 (Value.agg cs).cells.toList)) = xs[3]? := hi 3 _ rfl
  have h4 : DataW.trod enc Tryd.prog W 0 (fun _ => true) true m 22 (List.take (Tryd.prog.cellsOf 22) (List.drop 10 (Value.agg cs).cells.toList)) = xs[4]? := hi 4 _ rfl
  rw [cells_dg, List.getElem?_eq_getElem (show 0 < xs.length by omega)] at h0
  rw [cells_dg, List.getElem?_eq_getElem (show 1 < xs.length by omega)] at h1
  rw [cellsI, List.getElem?_eq_getElem (show 2 < xs.length by omega)] at h2
  rw [cellsI, List.getElem?_eq_getElem (show 3 < xs.length by omega)] at h3
  rw [cells_dl, List.getElem?_eq_getElem (show 4 < xs.length by omega)] at h4
  obtain ⟨c0, c1, c2, c3, c4, c5, c6, c7, c8, c9, c10, e⟩ := eleven_of _ hl
  have e' : cs.toList = [c0, c1, c2, c3, c4, c5, c6, c7, c8, c9, c10] := e
  rw [e] at h0 h1 h2 h3 h4
  obtain ⟨a, ea, hao, _⟩ := open_four h0
  obtain ⟨b, eb, hbo, _⟩ := open_four h1
  obtain ⟨n, en, _, _⟩ := DataW.trod_int Tryd.underlying3 h2
  obtain ⟨i, ei, _, _⟩ := DataW.trod_int Tryd.underlying3 h3
  obtain ⟨p, cap, l, el, hlo, hr, hc, hm⟩ := open_dgs (v := c10) h4
  simp only [List.drop_zero, List.take_succ_cons, List.take_zero, List.drop_succ_cons, List.cons.injEq, and_true] at ea eb en ei
  refine ⟨a, b, n, i, p, cap, l, ?_, hao, hbo, hlo, hr, hc, hm⟩
  congr 1
  apply Array.ext'
  rw [e', ea.1, ea.2.1, ea.2.2.1, ea.2.2.2, eb.1, eb.2.1, eb.2.2.1, eb.2.2.2, en, ei, el]
theorem stand_ap : Tryd.pinned.checked.prog.wantsStandIn 35 = false := by kernel_rfl
theorem stand_am : Tryd.pinned.checked.prog.wantsStandIn 39 = false := by kernel_rfl
end Go.Proofs.YtnimbclnhgbdcaaDoor
