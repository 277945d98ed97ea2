/-
  The structure of two messages and two signatures, as an argument.
-/
import Derived.Test.YtkgkmpelclmllaaDoorRow
namespace Go.Proofs.YtkgkmpelclmllaaDoor
open Go.ChangeShapes Go.WideShapes Go.ChangeAt Go.RowKit

theorem ten_of : ∀ (cs : List Value), cs.length = 10 → ∃ a b c d e f g h i j, cs = [a, b, c, d, e, f, g, h, i, j]
  | [a, b, c, d, e, f, g, h, i, j], _ => ⟨a, b, c, d, e, f, g, h, i, j, rfl⟩
theorem cells_ak : Tryd.prog.cellsOf 44 = 10 := by kernel_rfl
theorem open_ak {H : Type} {enc : TypeId × Value → H} {W : World} {v : Value} {d : DataW H} {ps : List MemPlace} (hval : Value.okWide Tryd.prog W .any 0 44 v) (hd : DataW.Trod enc Tryd.prog W 0 (fun _ => true) true 44 v d ps) :
    ∃ (a b : D4) (p q : Option Addr) (c1 c2 : Nat) (l m : List D4), v = .agg #[.int .u32 a.d0, .int .u32 a.d1, .int .u32 a.d2, .int .u32 a.d3, .int .u32 b.d0, .int .u32 b.d1, .int .u32 b.d2, .int .u32 b.d3, .slice p l.length c1, .slice q m.length c2] ∧ a.ok ∧ b.ok ∧ allD4 l ∧ RdS W p l ∧ l.length ≤ c1 ∧ c1 ≤ maxLen ∧ allD4 m ∧ RdS W q m ∧ m.length ≤ c2 ∧ c2 ≤ maxLen := by
  unfold Value.okWide at hval
  rw [Tryd.underlying44] at hval
  obtain ⟨cs, rfl, hs, _⟩ := hval
  obtain ⟨fuel, hf⟩ := hd
  obtain ⟨xs, m, rfl, hx, hl, hn, hi⟩ := DataW.trod_struct Tryd.underlying44 hf
  rw [cells_ak] at hl
  have hn4 : xs.length = 4 := hn
  have h0 : DataW.trod enc Tryd.prog W 0 (fun _ => true) true m 24 (List.take (Tryd.prog.cellsOf 24) (List.drop 0 (Value.agg cs).cells.toList)) = xs[0]? := hi 0 _ rfl
  have h1 : DataW.trod enc Tryd.prog W 0 (fun _ => true) true m 24 (List.take (Tryd.prog.cellsOf 24) (List.drop 4 (Value.agg cs).cells.toList)) = xs[1]? := hi 1 _ rfl
  have h2 : DataW.trod enc Tryd.prog W 0 (fun _ => true) true m 33 (List.take (Tryd.prog.cellsOf 33) (List.drop 8 (Value.agg cs).cells.toList)) = xs[2]? := hi 2 _ rfl
  have h3 : DataW.trod enc Tryd.prog W 0 (fun _ => true) true m 33 (List.take (Tryd.prog.cellsOf 33) (List.drop 9 (Value.agg cs).cells.toList)) = xs[3]? := hi 3 _ rfl
  rw [cells_dg, List.getElem?_eq_getElem (show 0 < xs.length by omega)] at h0
  rw [cells_dg, List.getElem?_eq_getElem (show 1 < xs.length by omega)] at h1
  rw [cells_dl, List.getElem?_eq_getElem (show 2 < xs.length by omega)] at h2
  rw [cells_dl, List.getElem?_eq_getElem (show 3 < xs.length by omega)] at h3
  obtain ⟨c0, c1, c2, c3, c4, c5, c6, c7, c8, c9, e⟩ := ten_of _ hl
  have e' : cs.toList = [c0, c1, c2, c3, c4, c5, c6, c7, c8, c9] := e
  rw [e] at h0 h1 h2 h3
  obtain ⟨a, ea, hao, _⟩ := open_four h0
  obtain ⟨b, eb, hbo, _⟩ := open_four h1
  obtain ⟨p, k1, l, el, hlo, hr, hc, hm⟩ := open_dgs (v := c8) h2
  obtain ⟨q, k2, u, eu, huo, hr2, hc2, hm2⟩ := open_dgs (v := c9) h3
  simp only [List.drop_zero, List.take_succ_cons, List.take_zero, List.drop_succ_cons, List.cons.injEq, and_true] at ea eb
  refine ⟨a, b, p, q, k1, k2, l, u, ?_, hao, hbo, hlo, hr, hc, hm, huo, hr2, hc2, hm2⟩
  congr 1
  apply Array.ext'
  rw [e', ea.1, ea.2.1, ea.2.2.1, ea.2.2.2, eb.1, eb.2.1, eb.2.2.1, eb.2.2.2, el, eu]
theorem stand_ak : Tryd.pinned.checked.prog.wantsStandIn 44 = false := by kernel_rfl
end Go.Proofs.YtkgkmpelclmllaaDoor
