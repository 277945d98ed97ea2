/-
  What all the cards of this seat share: the world in which the listed variables hold what the program's text lays; a state and a digest as arguments.
-/
import Derived.Test.YtepcpjppogcjbaaDoorCards
import Derived.Test.YtepcpjppogcjbaaDoorTie
import Derived.WalkKit
import Derived.ProofKit
import Derived.OpenShut
import Derived.Carry
import Derived.Deep.DeepHandedRow
import Derived.Lib.LaidTab
import Derived.Stop.LaidErr
import Derived.Test.YtepcpjppogcjbaaDoorDgH
namespace Go.Proofs.YtepcpjppogcjbaaDoor
open Go.ChangeShapes Go.WideShapes Go.ChangeAt Go.RowKit

theorem own : ownKnob Tryd.prog.godebug = none := by kernel_rfl
/-- The cells of a table, off what the row lists. -/
noncomputable def cellsOfData : DataW Unit → Array Value
  | .agg l => (l.map fun | .lit (.int k z) => Value.int k z | _ => undef).toArray
  | _ => #[]
noncomputable def setAt (w : World) (g : Nat) (cs : Array Value) : World :=
  { w with heap := w.heap.modify g fun
      | .cells _ t frozen => .cells cs t frozen
      | o => o }
/-- The settled world; the listed variables hold what their initialisers lay. -/
noncomputable def laidWorld (os : Os) : World :=
  let w0 := World.holding Tryd.prog os ⟨#[], #[], []⟩
  let w1 := setAt w0 1 (cellsOfData Rows.laid_seedcorn_hex_digits)
  let w2 := setAt w1 2 (cellsOfData Rows.laid_seedcorn_hex_values)
  setAt w2 0 (cellsOfData Rows.laid_seedcorn_digest_turns)
/-- The list of this seat's rows. -/
noncomputable abbrev laidList : List (String × DataW Unit) := Rows.digestMixesRow.laid
set_option maxRecDepth 100000 in
theorem laid_met (os : Os) (args : Array Value) : laidMet Tryd.prog laidList ((laidWorld os).forCall (fun _ _ => 0) ⟨#[], args, []⟩).memory :=
  laidMet_of_run' 8 (by kernel_rfl) (by kernel_rfl)
theorem looks_on : false = Tryd.pinned.checked.prog.looks [] := by kernel_rfl
theorem stand_string : Tryd.pinned.checked.prog.wantsStandIn 9 = false := by kernel_rfl
theorem stand_st : Tryd.pinned.checked.prog.wantsStandIn 23 = false := by kernel_rfl
theorem stand_dg : Tryd.pinned.checked.prog.wantsStandIn 29 = false := by kernel_rfl
theorem laidOutD : laidOutB Tryd.prog = true := by kernel_rfl
theorem one32 : Tryd.prog.cellsOf 22 = 1 := by kernel_rfl
theorem wf_word {x : Int} (h : (Lit.int .u32 x).wf = true) : isW x := by
  have := bounds_u32 h
  unfold isW; omega
/-- An array of words by value, as the walk wants it. -/
theorem open_row {H : Type} {enc : TypeId × Value → H} {W : World} {t : TypeId} {n : Nat} (ht : Tryd.prog.underlying t = some (.array n 22)) (hc : Tryd.prog.cellsOf t = n) {v : Value} {d : DataW H} {ps : List MemPlace}
    (hval : Value.okWide Tryd.prog W .any 0 t v) (hd : DataW.Trod enc Tryd.prog W 0 (fun _ => true) true t v d ps) : ∃ xs : List Int, v = .agg (xs.map (Value.int .u32)).toArray ∧ xs.length = n ∧ (∀ x ∈ xs, isW x) ∧ ps = [] := by
  unfold Value.okWide at hval
  rw [ht] at hval
  obtain ⟨cs, rfl, hs, _⟩ := hval
  obtain ⟨fuel, hf⟩ := hd
  obtain ⟨ys, m, rfl, hx, hl, hn, hi⟩ := DataW.trod_array ht hf
  rw [one32] at hi
  have hcs : (Value.agg cs).cells = cs := rfl
  rw [hcs] at hi hl
  rw [hc] at hl
  have one : ∀ i, i < n → ∃ z, cs.toList[i]? = some (.int .u32 z) ∧ isW z ∧ ∃ l, ys[i]? = some (l, []) := fun i hin => by
    have h := hi i hin
    rw [List.getElem?_eq_getElem (show i < ys.length by omega)] at h
    obtain ⟨z, hz, hy, hw⟩ := DataW.trod_int Tryd.underlying22 h
    refine ⟨z, ?_, wf_word hw, ⟨_, by rw [List.getElem?_eq_getElem (show i < ys.length by omega), hy]⟩⟩
    have e : ((cs.toList.drop (i * 1)).take 1)[0]? = some (.int .u32 z) := by rw [hz]; rfl
    simpa using e
  have hps : ps = [] := by
    simp only [Prod.mk.injEq] at hx
    rw [hx.2, List.flatMap_eq_nil_iff]
    intro y hy
    obtain ⟨i, hil, rfl⟩ := List.getElem_of_mem hy
    obtain ⟨_, _, _, l, hq⟩ := one i (by omega)
    rw [List.getElem?_eq_getElem hil, Option.some.injEq] at hq
    rw [hq]
  have go : ∀ (l : List Value), (∀ i, i < l.length → ∃ z, l[i]? = some (.int .u32 z) ∧ isW z) → ∃ xs : List Int, l = xs.map (Value.int .u32) ∧ ∀ x ∈ xs, isW x := by
    intro l
    induction l with
    | nil => intro _; exact ⟨[], rfl, fun x hx => by cases hx⟩
    | cons a r ih =>
      intro h
      obtain ⟨z, hz, hw⟩ := h 0 (by simp)
      obtain ⟨xs, hr, hx⟩ := ih (fun i hi => by
        obtain ⟨z, hz, hw⟩ := h (i + 1) (by simp; omega)
        exact ⟨z, by simpa using hz, hw⟩)
      simp at hz
      refine ⟨z :: xs, by rw [hz, hr]; rfl, fun x hx2 => ?_⟩
      rcases List.mem_cons.mp hx2 with rfl | q
      · exact hw
      · exact hx x q
  obtain ⟨xs, hxs, hw⟩ := go cs.toList (fun i hin => by
    obtain ⟨z, h1, h2, _⟩ := one i (by omega)
    exact ⟨z, h1, h2⟩)
  refine ⟨xs, ?_, ?_, hw, hps⟩
  · congr 1
    apply Array.ext'
    rw [hxs]
  · have := congrArg List.length hxs
    rw [List.length_map] at this
    omega
theorem cells_st : Tryd.prog.cellsOf 23 = 8 := by kernel_rfl
theorem cells_dg : Tryd.prog.cellsOf 29 = 4 := by kernel_rfl
theorem open_st {H : Type} {enc : TypeId × Value → H} {W : World} {v : Value} {d : DataW H} {ps : List MemPlace} (hval : Value.okWide Tryd.prog W .any 0 23 v) (hd : DataW.Trod enc Tryd.prog W 0 (fun _ => true) true 23 v d ps) :
    ∃ s : S8, v = .agg #[.int .u32 s.x0, .int .u32 s.x1, .int .u32 s.x2, .int .u32 s.x3, .int .u32 s.x4, .int .u32 s.x5, .int .u32 s.x6, .int .u32 s.x7] ∧ s.ok ∧ ps = [] := by
  obtain ⟨xs, hv, hl, hw, hp⟩ := open_row Tryd.underlying23 cells_st hval hd
  match xs, hl with
  | [a, b, c, d, e, f, g, i], _ =>
    exact ⟨⟨a, b, c, d, e, f, g, i⟩, hv, ⟨hw a (by simp), hw b (by simp), hw c (by simp), hw d (by simp), hw e (by simp), hw f (by simp), hw g (by simp), hw i (by simp)⟩, hp⟩
theorem open_dg {H : Type} {enc : TypeId × Value → H} {W : World} {v : Value} {d : DataW H} {ps : List MemPlace} (hval : Value.okWide Tryd.prog W .any 0 29 v) (hd : DataW.Trod enc Tryd.prog W 0 (fun _ => true) true 29 v d ps) :
    ∃ s : D4, v = .agg #[.int .u32 s.d0, .int .u32 s.d1, .int .u32 s.d2, .int .u32 s.d3] ∧ s.ok ∧ ps = [] := by
  obtain ⟨xs, hv, hl, hw, hp⟩ := open_row Tryd.underlying29 cells_dg hval hd
  match xs, hl with
  | [a, b, c, d], _ => exact ⟨⟨a, b, c, d⟩, hv, ⟨hw a (by simp), hw b (by simp), hw c (by simp), hw d (by simp)⟩, hp⟩
end Go.Proofs.YtepcpjppogcjbaaDoor
