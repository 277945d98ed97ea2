/-
  What all the cards of this seat share: the world in which the listed variables hold what the program's text lays; an instruction as an argument.
-/
import Derived.Test.YtojgngefgianpaaDoorCards
import Derived.Test.YtojgngefgianpaaDoorTie
import Derived.WalkKit
import Derived.ProofKit
import Derived.OpenShut
import Derived.Carry
import Derived.ChangeArms
import Derived.ChangeSame
import Derived.Deep.DeepHandedRow
import Derived.Lib.LaidTab
import Derived.Stop.LaidErr
import Derived.Test.YtojgngefgianpaaDoorInF
import Derived.Test.YtojgngefgianpaaDoorInH
namespace Go.Proofs.YtojgngefgianpaaDoor
open Go.ChangeShapes Go.WideShapes Go.ChangeAt Go.RowKit

theorem own : ownKnob Tryd.prog.godebug = none := by kernel_rfl
/-- The cells of a table, off what the row lists. -/
noncomputable def cellsOfData : DataW Unit → Array Value
  | .agg l => (l.map fun | .lit (.int k z) => Value.int k z | _ => undef).toArray
  | _ => #[]
/-- The cells of the table of operations, off what the row lists. -/
noncomputable def cellsOfOps : DataW Unit → Array Value
  | .agg l => (l.flatMap fun | .agg [.lit (.string s), .agg [.lit (.int _ a), .lit (.int _ b), .lit (.int _ c)]] => [Value.string ⟨s.toArray⟩, Value.int .i64 a, Value.int .i64 b, Value.int .i64 c] | _ => []).toArray
  | _ => #[]
noncomputable def setAt (w : World) (g : Nat) (cs : Array Value) : World :=
  { w with heap := w.heap.modify g fun
      | .cells _ t frozen => .cells cs t frozen
      | o => o }
/-- The settled world; the listed variables hold what their initialisers lay. -/
noncomputable def laidWorld (os : Os) : World :=
  let w0 := World.holding Tryd.prog os ⟨#[], #[], []⟩
  let w1 := setAt w0 2 (cellsOfData Rows.laid_math_bits_deBruijn32tab)
  let w2 := setAt w1 3 (cellsOfData Rows.laid_math_bits_deBruijn64tab)
  let w3 := setAt w2 1 (cellsOfData Rows.laid_internal_strconv_uint64pow10)
  setAt w3 0 (cellsOfOps Rows.laid_seedcorn_inst_operations)
/-- The list of this seat's rows. -/
noncomputable abbrev laidList : List (String × DataW Unit) := Rows.instCodesRow.laid
set_option maxRecDepth 100000 in
theorem laid_met (os : Os) (args : Array Value) : laidMet Tryd.prog laidList ((laidWorld os).forCall (fun _ _ => 0) ⟨#[], args, []⟩).memory :=
  laidMet_of_run' 8 (by kernel_rfl) (by kernel_rfl)
theorem looks_on : false = Tryd.pinned.checked.prog.looks [] := by kernel_rfl
theorem stand_uint32 : Tryd.pinned.checked.prog.wantsStandIn 25 = false := by kernel_rfl
theorem stand_uint8 : Tryd.pinned.checked.prog.wantsStandIn 5 = false := by kernel_rfl
theorem stand_int : Tryd.pinned.checked.prog.wantsStandIn 3 = false := by kernel_rfl
theorem stand_string : Tryd.pinned.checked.prog.wantsStandIn 9 = false := by kernel_rfl
theorem stand_in : Tryd.pinned.checked.prog.wantsStandIn 23 = false := by kernel_rfl
theorem laidOutD : laidOutB Tryd.prog = true := by kernel_rfl
theorem cellsI : Tryd.prog.cellsOf 3 = 1 := by kernel_rfl
theorem cellsS : Tryd.prog.cellsOf 9 = 1 := by kernel_rfl
theorem cells_in : Tryd.prog.cellsOf 23 = 4 := by kernel_rfl
theorem cells_op : Tryd.prog.cellsOf 45 = 4 := by kernel_rfl
theorem cells_fl : Tryd.prog.cellsOf 43 = 3 := by kernel_rfl
theorem cells_ops : Tryd.prog.cellsOf 60 = 112 := by kernel_rfl
theorem wf_u32 {n : Int} (h : (Lit.int .u32 n).wf = true) : 0 ≤ n ∧ n < 4294967296 := by
  simp [Lit.wf, IntKind.min, IntKind.max, IntKind.signed, IntKind.bits] at h
  omega
theorem wf_u8 {n : Int} (h : (Lit.int .u8 n).wf = true) : 0 ≤ n ∧ n < 256 := by
  simp [Lit.wf, IntKind.min, IntKind.max, IntKind.signed, IntKind.bits] at h
  omega
theorem wf_i64 {n : Int} (h : (Lit.int .i64 n).wf = true) : -9223372036854775808 ≤ n ∧ n ≤ 9223372036854775807 := by
  simp [Lit.wf, IntKind.min, IntKind.max, IntKind.signed, IntKind.bits] at h
  omega
theorem three_of : ∀ (cs : List Value), cs.length = 3 → ∃ p q r, cs = [p, q, r]
  | [p, q, r], _ => ⟨p, q, r, rfl⟩
theorem four_of : ∀ (cs : List Value), cs.length = 4 → ∃ p q r s, cs = [p, q, r, s]
  | [p, q, r, s], _ => ⟨p, q, r, s, rfl⟩
theorem one_int {H : Type} {enc : TypeId × Value → H} {W : World} {base : Nat} {sp : Nat → Bool} {held : Bool} {fuel : Nat} {v : Value} {x : DataW H × List MemPlace} (hf : DataW.trod enc Tryd.prog W base sp held fuel 3 [v] = some x) : ∃ z, v = .int .i64 z ∧ x = (.lit (.int .i64 z), []) := by
  obtain ⟨z, hz, hx, _⟩ := DataW.trod_int Tryd.underlying3 hf
  simp at hz
  exact ⟨z, hz, hx⟩
theorem one_str {H : Type} {enc : TypeId × Value → H} {W : World} {base : Nat} {sp : Nat → Bool} {held : Bool} {fuel : Nat} {v : Value} {x : DataW H × List MemPlace} (hf : DataW.trod enc Tryd.prog W base sp held fuel 9 [v] = some x) : ∃ s, v = .string s ∧ x = (.lit (.string s.data.toList), []) := by
  cases fuel with
  | zero => simp [DataW.trod] at hf
  | succ fuel =>
    have hu := Tryd.underlying9
    unfold DataW.trod at hf
    rw [hu] at hf
    cases v <;> simp at hf
    rename_i s
    exact ⟨s, rfl, hf.2.symm⟩
/-- An instruction by value. -/
theorem open_in {H : Type} {enc : TypeId × Value → H} {W : World} {v : Value} {d : DataW H} {ps : List MemPlace} (hval : Value.okWide Tryd.prog W .any 0 23 v) (hd : DataW.Trod enc Tryd.prog W 0 (fun _ => true) true 23 v d ps) :
    ∃ i : Int × Int × Int × Int, v = .agg #[.int .i64 i.1, .int .i64 i.2.1, .int .i64 i.2.2.1, .int .i64 i.2.2.2] ∧ True ∧ ps = [] := by
  unfold Value.okWide at hval
  rw [Tryd.underlying23] at hval
  obtain ⟨cs, rfl, hs, _⟩ := hval
  obtain ⟨fuel, hf⟩ := hd
  obtain ⟨cs⟩ := cs
  replace hf : DataW.trod enc Tryd.prog W 0 (fun _ => true) true fuel 23 cs = some (d, ps) := hf
  obtain ⟨xs, m0, _, hx, hl, hn, hi⟩ := DataW.trod_struct Tryd.underlying23 hf
  rw [cells_in] at hl
  have hnx : xs.length = 4 := hn
  have h0 : DataW.trod enc Tryd.prog W 0 (fun _ => true) true m0 3 (List.take (Tryd.prog.cellsOf 3) (List.drop 0 cs)) = xs[0]? := hi 0 _ rfl
  have h1 : DataW.trod enc Tryd.prog W 0 (fun _ => true) true m0 3 (List.take (Tryd.prog.cellsOf 3) (List.drop 1 cs)) = xs[1]? := hi 1 _ rfl
  have h2 : DataW.trod enc Tryd.prog W 0 (fun _ => true) true m0 3 (List.take (Tryd.prog.cellsOf 3) (List.drop 2 cs)) = xs[2]? := hi 2 _ rfl
  have h3 : DataW.trod enc Tryd.prog W 0 (fun _ => true) true m0 3 (List.take (Tryd.prog.cellsOf 3) (List.drop 3 cs)) = xs[3]? := hi 3 _ rfl
  rw [cellsI, List.getElem?_eq_getElem (show 0 < xs.length by omega)] at h0
  rw [cellsI, List.getElem?_eq_getElem (show 1 < xs.length by omega)] at h1
  rw [cellsI, List.getElem?_eq_getElem (show 2 < xs.length by omega)] at h2
  rw [cellsI, List.getElem?_eq_getElem (show 3 < xs.length by omega)] at h3
  obtain ⟨a0, a1, a2, a3, e⟩ := four_of _ hl
  subst e
  obtain ⟨a, ea, xa⟩ := one_int (v := a0) h0
  obtain ⟨b, eb, xb⟩ := one_int (v := a1) h1
  obtain ⟨c, ec, xc⟩ := one_int (v := a2) h2
  obtain ⟨e, ee, xe⟩ := one_int (v := a3) h3
  refine ⟨(a, b, c, e), by rw [ea, eb, ec, ee], trivial, ?_⟩
  have hp : ps = xs.flatMap (·.2) := congrArg Prod.snd hx
  rw [hp, List.flatMap_eq_nil_iff]
  intro y hy
  obtain ⟨i, hil, rfl⟩ := List.getElem_of_mem hy
  rcases (show i = 0 ∨ i = 1 ∨ i = 2 ∨ i = 3 by omega) with rfl | rfl | rfl | rfl
  · rw [xa]
  · rw [xb]
  · rw [xc]
  · rw [xe]
end Go.Proofs.YtojgngefgianpaaDoor
