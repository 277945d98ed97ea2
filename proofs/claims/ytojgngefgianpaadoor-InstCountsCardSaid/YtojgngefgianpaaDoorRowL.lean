/-
  What the rows' list gives a walk: the table of operations, the powers of ten.
-/
import Derived.Test.YtojgngefgianpaaDoorRow
namespace Go.Proofs.YtojgngefgianpaaDoor
open Go.ChangeShapes Go.WideShapes Go.ChangeAt Go.RowKit

theorem gOps : Tryd.prog.globalNamed "seedcorn/inst.operations" = some 0 := by kernel_rfl
theorem gOpsType : (Tryd.prog.globals[0]?).map (·.type) = some 60 := by kernel_rfl
theorem gPowType : (Tryd.prog.globals[1]?).map (·.type) = some 79 := by kernel_rfl
theorem cells64 : Tryd.prog.cellsOf 61 = 1 := by kernel_rfl
theorem cells20 : Tryd.prog.cellsOf 79 = 20 := by kernel_rfl
/-- What the list says of one operation. -/
def rowData (i : Nat) : DataW Unit := .agg [.lit (.string (nameB i).data.toList), .agg [.lit (.int .i64 (mostA i)), .lit (.int .i64 (mostB i)), .lit (.int .i64 (mostC i))]]
theorem laid_rows : (Rows.laid_seedcorn_inst_operations : DataW Unit) = .agg ((List.range 28).map rowData) := by kernel_rfl
theorem three_ints {enc : TypeId × Value → Unit} {W : World} {base : Nat} {sp : Nat → Bool} {held : Bool} {fuel : Nat} {cs : List Value} {a b c : Int} {p : List MemPlace} (hf : DataW.trod enc Tryd.prog W base sp held fuel 43 cs = some (.agg [.lit (.int .i64 a), .lit (.int .i64 b), .lit (.int .i64 c)], p)) : cs = [.int .i64 a, .int .i64 b, .int .i64 c] := by
  obtain ⟨ys, m, _, hx, hl, hn, hi⟩ := DataW.trod_array Tryd.underlying43 hf
  rw [cellsI] at hi
  rw [cells_fl] at hl
  obtain ⟨a0, a1, a2, e⟩ := three_of _ hl
  subst e
  have h0 := hi 0 (by decide)
  have h1 := hi 1 (by decide)
  have h2 := hi 2 (by decide)
  rw [List.getElem?_eq_getElem (show 0 < ys.length by omega)] at h0
  rw [List.getElem?_eq_getElem (show 1 < ys.length by omega)] at h1
  rw [List.getElem?_eq_getElem (show 2 < ys.length by omega)] at h2
  obtain ⟨x, ex, yx⟩ := one_int (v := a0) h0
  obtain ⟨y, ey, yy⟩ := one_int (v := a1) h1
  obtain ⟨z, ez, yz⟩ := one_int (v := a2) h2
  have hd := congrArg Prod.fst hx
  obtain ⟨b0, b1, b2, e⟩ : ∃ p q r, ys = [p, q, r] := by
    match ys, hn with
    | [p, q, r], _ => exact ⟨p, q, r, rfl⟩
  subst e
  simp only [List.getElem_cons_zero, List.getElem_cons_succ] at yx yy yz
  subst yx; subst yy; subst yz
  simp at hd
  rw [ex, ey, ez, hd.1, hd.2.1, hd.2.2]
theorem op_cells {enc : TypeId × Value → Unit} {W : World} {base : Nat} {sp : Nat → Bool} {held : Bool} {fuel : Nat} {cs : List Value} {i : Nat} {p : List MemPlace} (hf : DataW.trod enc Tryd.prog W base sp held fuel 45 cs = some (rowData i, p)) : cs = opRow i := by
  obtain ⟨y0, y1, n, hx, hl, h0, h1⟩ := trod_struct2 Tryd.underlying45 hf
  rw [cells_op] at hl
  obtain ⟨a0, a1, a2, a3, e⟩ := four_of _ hl
  subst e
  have hd := congrArg Prod.fst hx
  unfold rowData at hd
  simp at hd
  obtain ⟨s, es, ys⟩ := one_str (v := a0) (by have h := h0; simp only [cellsS] at h; exact h)
  have h1' : DataW.trod enc Tryd.prog W base sp held n 43 [a1, a2, a3] = some (y1.1, y1.2) := by have h := h1; simp only [cells_fl] at h; exact h
  rw [← hd.2] at h1'
  have e1 := three_ints h1'
  have e2 := hd.1
  rw [ys] at e2
  simp at e2
  simp at e1
  unfold opRow
  rw [es, e1.1, e1.2.1, e1.2.2, ByteArray.ext e2]
theorem opsOk_of {W : World} (hL : laidMetH Tryd.prog laidList W) : OpsOk W ∧ PowOk W := by
  have h0 : laidMet Tryd.prog (("math/bits.deBruijn32tab", Rows.laid_math_bits_deBruijn32tab) :: ("math/bits.deBruijn64tab", Rows.laid_math_bits_deBruijn64tab) :: ("internal/strconv.uint64pow10", Lib.tabData .u64 Lib.pow10Tab) :: ("seedcorn/inst.operations", .agg ((List.range 28).map rowData)) :: []) W := by rw [← laid_rows]; exact hL
  have h2 := h0.tail.tail
  refine ⟨?_, Lib.tabIs_of_head gPow7 gPowType Tryd.underlying79 Tryd.underlying61 cells64 cells20 h2⟩
  obtain ⟨ps, ⟨g', t', cs, fuel, p, q, hg', ht', hvar, hd, _, _⟩, _⟩ := h2.tail
  obtain rfl := Option.some.inj (gOps.symm.trans hg')
  obtain rfl := Option.some.inj (gOpsType.symm.trans ht')
  obtain ⟨ys, m, _, hx, hl, hn, hi⟩ := DataW.trod_array Tryd.underlying60 hd
  rw [cells_op] at hi
  rw [cells_ops] at hl
  have hdd : (List.range 28).map rowData = ys.map (·.1) := by
    have := congrArg Prod.fst hx
    simpa using this
  have hrow : ∀ i, i < 28 → (cs.toList.drop (i * 4)).take 4 = opRow i := fun i h => by
    have h1 := hi i h
    rw [List.getElem?_eq_getElem (show i < ys.length by omega)] at h1
    have h3 : (ys.map (·.1))[i]? = some (rowData i) := by
      rw [← hdd, List.getElem?_map, List.getElem?_range h]; rfl
    rw [List.getElem?_map, List.getElem?_eq_getElem (show i < ys.length by omega)] at h3
    have h4 : ys[i].1 = rowData i := by simpa using h3
    have h5 : ys[i] = (rowData i, ys[i].2) := by rw [← h4]
    rw [h5] at h1
    exact op_cells h1
  have hcs : cs.toList = opCells := by
    apply List.ext_getElem?
    intro j
    rcases Nat.lt_or_ge j 112 with q | q
    · have h1 := opCells_at (j / 4) (j % 4) (by omega) (by omega)
      rw [show j / 4 * 4 + j % 4 = j by omega, ← hrow (j / 4) (by omega), List.getElem?_take_of_lt (by omega), List.getElem?_drop, show j / 4 * 4 + j % 4 = j by omega] at h1
      exact h1.symm
    · rw [List.getElem?_eq_none (by omega), List.getElem?_eq_none (by rw [opCells_len]; exact q)]
  have hcs2 : cs = opCells.toArray := by rw [← hcs]
  unfold World.var? at hvar
  rw [gOps] at hvar
  simp only [Option.bind_some] at hvar
  unfold OpsOk
  split at hvar
  · rename_i c t fr heq
    rw [Option.some.injEq] at hvar
    exact ⟨t, fr, by rw [heq, hvar, hcs2]⟩
  · cases hvar
end Go.Proofs.YtojgngefgianpaaDoor
