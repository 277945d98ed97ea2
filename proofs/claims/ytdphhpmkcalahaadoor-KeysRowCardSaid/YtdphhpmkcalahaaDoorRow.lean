/-
  What all the cards of this seat share: the world in which the listed variable holds what the program's text lays; a list of digests, and a digest, as arguments.
-/
import Derived.Test.YtdphhpmkcalahaaDoorCards
import Derived.Test.YtdphhpmkcalahaaDoorTie
import Derived.WalkKit
import Derived.ProofKit
import Derived.OpenShut
import Derived.Carry
import Derived.ChangeArms
import Derived.SizedLaws
import Derived.Deep.Slices
import Derived.Deep.DeepHandedRow
import Derived.Lib.LaidTab
import Derived.Stop.LaidErr
import Derived.Test.YtdphhpmkcalahaaDoorMkC2
namespace Go.Proofs.YtdphhpmkcalahaaDoor
open Go.ChangeShapes Go.WideShapes Go.ChangeAt Go.RowKit

theorem own : ownKnob Tryd.prog.godebug = none := by kernel_rfl
/-- The cells of a table, off what the row lists. -/
noncomputable def cellsOfData : DataW Unit → Array Value
  | .agg l => (l.map fun | .lit (.int k z) => Value.int k z | _ => undef).toArray
  | _ => #[]
noncomputable def setAt (w : World) (g : Nat) (cs : Array Value) : World :=
  { w with heap := w.heap.modify g fun
      | .cells _ t frozen => .cells cs t frozen
      | o => o }
/-- The settled world; the listed variable holds what its initialiser lays. -/
noncomputable def laidWorld (os : Os) : World := setAt (World.holding Tryd.prog os ⟨#[], #[], []⟩) 0 (cellsOfData Rows.laid_seedcorn_digest_turns)
/-- The list of this seat's rows. -/
noncomputable abbrev laidList : List (String × DataW Unit) := Rows.keysPublicRow.laid
set_option maxRecDepth 100000 in
theorem laid_met (os : Os) (args : Array Value) : laidMet Tryd.prog laidList ((laidWorld os).forCall (fun _ _ => 0) ⟨#[], args, []⟩).memory :=
  laidMet_of_run' 8 (by kernel_rfl) (by kernel_rfl)
theorem looks_on : false = Tryd.pinned.checked.prog.looks [] := by kernel_rfl
theorem laidOutD : laidOutB Tryd.prog = true := by kernel_rfl
theorem one32 : Tryd.prog.cellsOf 22 = 1 := by kernel_rfl
theorem cells_dg : Tryd.prog.cellsOf 24 = 4 := by kernel_rfl
theorem cells_dl : Tryd.prog.cellsOf 35 = 1 := by kernel_rfl
theorem wf_word {x : Int} (h : (Lit.int .u32 x).wf = true) : isW x := by
  have := bounds_u32 h
  unfold isW; omega
theorem four_of : ∀ (cs : List Value), cs.length = 4 → ∃ p q r s, cs = [p, q, r, s]
  | [p, q, r, s], _ => ⟨p, q, r, s, rfl⟩
/-- The four cells of a digest. -/
theorem open_four {H : Type} {enc : TypeId × Value → H} {W : World} {sp : Nat → Bool} {held : Bool} {fuel : Nat} {cs : List Value} {x : DataW H × List MemPlace} (hf : DataW.trod enc Tryd.prog W 0 sp held fuel 24 cs = some x) :
    ∃ d : D4, cs = [.int .u32 d.d0, .int .u32 d.d1, .int .u32 d.d2, .int .u32 d.d3] ∧ d.ok ∧ x.2 = [] := by
  obtain ⟨ys, m, rfl, hx, hl, hn, hi⟩ := DataW.trod_array Tryd.underlying24 hf
  rw [one32] at hi
  rw [cells_dg] at hl
  have one : ∀ i, i < 4 → ∃ z, cs[i]? = some (.int .u32 z) ∧ isW z ∧ ∃ l, ys[i]? = some (l, []) := fun i hin => by
    have h := hi i hin
    rw [List.getElem?_eq_getElem (show i < ys.length by omega)] at h
    obtain ⟨z, hz, hy, hw⟩ := DataW.trod_int Tryd.underlying22 h
    refine ⟨z, ?_, wf_word hw, ⟨_, by rw [List.getElem?_eq_getElem (show i < ys.length by omega), hy]⟩⟩
    have e : ((cs.drop (i * 1)).take 1)[0]? = some (.int .u32 z) := by rw [hz]; rfl
    simpa using e
  have hps : x.2 = [] := by
    rw [hx]
    show ys.flatMap (·.2) = []
    rw [List.flatMap_eq_nil_iff]
    intro y hy
    obtain ⟨i, hil, rfl⟩ := List.getElem_of_mem hy
    obtain ⟨_, _, _, l, hq⟩ := one i (by omega)
    rw [List.getElem?_eq_getElem hil, Option.some.injEq] at hq
    rw [hq]
  obtain ⟨a, ha, hao, _⟩ := one 0 (by omega)
  obtain ⟨b, hb, hbo, _⟩ := one 1 (by omega)
  obtain ⟨c, hc, hco, _⟩ := one 2 (by omega)
  obtain ⟨d, hd, hdo, _⟩ := one 3 (by omega)
  obtain ⟨p, q, r, s, e⟩ := four_of cs hl
  rw [e] at ha hb hc hd
  simp only [List.getElem?_cons_zero, List.getElem?_cons_succ, Option.some.injEq] at ha hb hc hd
  rw [ha, hb, hc, hd] at e
  exact ⟨⟨a, b, c, d⟩, e, ⟨hao, hbo, hco, hdo⟩, hps⟩
theorem add_flat (b o k : Nat) : (⟨b, o, none⟩ : Addr).add k = ⟨b, o + k, none⟩ := by unfold Addr.add; split <;> simp_all
/-- A list of digests that came in, nil or not, as the walk wants it. -/
theorem open_dgs {H : Type} {enc : TypeId × Value → H} {W : World} {v : Value} {fuel : Nat} {x : DataW H × List MemPlace}
    (hf : DataW.trod enc Tryd.prog W 0 (fun _ => true) true fuel 35 [v] = some x) :
    ∃ (p : Option Addr) (cap : Nat) (l : List D4), v = .slice p l.length cap ∧ allD4 l ∧ RdS W p l ∧ l.length ≤ cap ∧ cap ≤ maxLen := by
  rcases Go.Deep.open_slice Tryd.underlying35 hf with ⟨hcs, _⟩ | ⟨a, len, cap, m, n, D, Pl, hcs, _, hl, hm, hmm, _, hx⟩
  · simp at hcs
    subst hcs
    exact ⟨none, 0, [], rfl, (fun d hd => by cases hd), (fun h => absurd rfl h), Nat.le_refl _, Nat.zero_le _⟩
  · simp at hcs
    subst hcs
    simp only [if_true] at hmm
    subst hmm
    rw [cells_dg] at hx
    have one : ∀ i, i < len → ∃ d : D4, d.ok ∧ ∃ cs, W.cells? 0 (a.add (i * 4)) 4 = some cs ∧ cs = [.int .u32 d.d0, .int .u32 d.d1, .int .u32 d.d2, .int .u32 d.d3] := fun i hi => by
      obtain ⟨cs', h1, h2⟩ := hx i (by omega)
      obtain ⟨d, e, ho, _⟩ := open_four h2
      exact ⟨d, ho, cs', h1, e⟩
    have pick : ∀ k, k ≤ len → ∃ l : List D4, l.length = k ∧ allD4 l ∧ ∀ i, i < k → W.cells? 0 (a.add (i * 4)) 4 = some [.int .u32 (l.getD i zeroD).d0, .int .u32 (l.getD i zeroD).d1, .int .u32 (l.getD i zeroD).d2, .int .u32 (l.getD i zeroD).d3] := by
      intro k
      induction k with
      | zero => intro _; exact ⟨[], rfl, (fun d hd => by cases hd), fun i hi => absurd hi (Nat.not_lt_zero _)⟩
      | succ k ih =>
        intro hk
        obtain ⟨l, h1, h2, h3⟩ := ih (by omega)
        obtain ⟨d, ho, cs, hc, e⟩ := one k (by omega)
        refine ⟨l ++ [d], by simp [h1], fun y hy => ?_, fun i hi => ?_⟩
        · rcases List.mem_append.mp hy with q | q
          · exact h2 y q
          · simp at q; subst q; exact ho
        · by_cases q : i < k
          · have := h3 i q
            rw [List.getD_eq_getElem?_getD] at *
            rw [List.getElem?_append_left (by omega)]
            exact this
          · have : i = k := by omega
            subst this
            rw [List.getD_eq_getElem?_getD, ← h1, List.getElem?_concat_length, h1, hc, e]
            rfl
    obtain ⟨l, h1, h2, h3⟩ := pick len (Nat.le_refl _)
    obtain ⟨b, off, spot⟩ := a
    refine ⟨some ⟨b, off, spot⟩, m, l, by rw [h1], h2, fun hne => ?_, by omega, hm⟩
    have hpos : 0 < len := by rw [← h1]; exact List.length_pos_iff.mpr hne
    have c0 := (World.cells?_some (h3 0 hpos)).2.2 0 (by omega)
    have hspot : spot = none := by
      have := World.cell?_spot c0
      simpa [Addr.add] using this
    subst hspot
    refine ⟨b, off, rfl, ?_, fun i hi => ?_⟩
    · exact World.block_lt_of_cell? W _ (show W.cell? ⟨b, _, none⟩ = some _ from by rw [add_flat, add_flat] at c0; exact c0)
    · have hc := (World.cells?_some (h3 i (by omega))).2.2
      have k0 := hc 0 (by omega)
      have k1 := hc 1 (by omega)
      have k2 := hc 2 (by omega)
      have k3 := hc 3 (by omega)
      rw [add_flat, add_flat] at k0 k1 k2 k3
      exact ⟨k0, k1, k2, k3⟩
/-- A list of digests that came in, nil or not, as the walk wants it. -/
theorem open_sgs {H : Type} {enc : TypeId × Value → H} {W : World} {v : Value} {fuel : Nat} {x : DataW H × List MemPlace}
    (hf : DataW.trod enc Tryd.prog W 0 (fun _ => true) true fuel 36 [v] = some x) :
    ∃ (p : Option Addr) (cap : Nat) (l : List D4), v = .slice p l.length cap ∧ allD4 l ∧ RdS W p l ∧ l.length ≤ cap ∧ cap ≤ maxLen := by
  rcases Go.Deep.open_slice Tryd.underlying36 hf with ⟨hcs, _⟩ | ⟨a, len, cap, m, n, D, Pl, hcs, _, hl, hm, hmm, _, hx⟩
  · simp at hcs
    subst hcs
    exact ⟨none, 0, [], rfl, (fun d hd => by cases hd), (fun h => absurd rfl h), Nat.le_refl _, Nat.zero_le _⟩
  · simp at hcs
    subst hcs
    simp only [if_true] at hmm
    subst hmm
    rw [cells_dg] at hx
    have one : ∀ i, i < len → ∃ d : D4, d.ok ∧ ∃ cs, W.cells? 0 (a.add (i * 4)) 4 = some cs ∧ cs = [.int .u32 d.d0, .int .u32 d.d1, .int .u32 d.d2, .int .u32 d.d3] := fun i hi => by
      obtain ⟨cs', h1, h2⟩ := hx i (by omega)
      obtain ⟨d, e, ho, _⟩ := open_four h2
      exact ⟨d, ho, cs', h1, e⟩
    have pick : ∀ k, k ≤ len → ∃ l : List D4, l.length = k ∧ allD4 l ∧ ∀ i, i < k → W.cells? 0 (a.add (i * 4)) 4 = some [.int .u32 (l.getD i zeroD).d0, .int .u32 (l.getD i zeroD).d1, .int .u32 (l.getD i zeroD).d2, .int .u32 (l.getD i zeroD).d3] := by
      intro k
      induction k with
      | zero => intro _; exact ⟨[], rfl, (fun d hd => by cases hd), fun i hi => absurd hi (Nat.not_lt_zero _)⟩
      | succ k ih =>
        intro hk
        obtain ⟨l, h1, h2, h3⟩ := ih (by omega)
        obtain ⟨d, ho, cs, hc, e⟩ := one k (by omega)
        refine ⟨l ++ [d], by simp [h1], fun y hy => ?_, fun i hi => ?_⟩
        · rcases List.mem_append.mp hy with q | q
          · exact h2 y q
          · simp at q; subst q; exact ho
        · by_cases q : i < k
          · have := h3 i q
            rw [List.getD_eq_getElem?_getD] at *
            rw [List.getElem?_append_left (by omega)]
            exact this
          · have : i = k := by omega
            subst this
            rw [List.getD_eq_getElem?_getD, ← h1, List.getElem?_concat_length, h1, hc, e]
            rfl
    obtain ⟨l, h1, h2, h3⟩ := pick len (Nat.le_refl _)
    obtain ⟨b, off, spot⟩ := a
    refine ⟨some ⟨b, off, spot⟩, m, l, by rw [h1], h2, fun hne => ?_, by omega, hm⟩
    have hpos : 0 < len := by rw [← h1]; exact List.length_pos_iff.mpr hne
    have c0 := (World.cells?_some (h3 0 hpos)).2.2 0 (by omega)
    have hspot : spot = none := by
      have := World.cell?_spot c0
      simpa [Addr.add] using this
    subst hspot
    refine ⟨b, off, rfl, ?_, fun i hi => ?_⟩
    · exact World.block_lt_of_cell? W _ (show W.cell? ⟨b, _, none⟩ = some _ from by rw [add_flat, add_flat] at c0; exact c0)
    · have hc := (World.cells?_some (h3 i (by omega))).2.2
      have k0 := hc 0 (by omega)
      have k1 := hc 1 (by omega)
      have k2 := hc 2 (by omega)
      have k3 := hc 3 (by omega)
      rw [add_flat, add_flat] at k0 k1 k2 k3
      exact ⟨k0, k1, k2, k3⟩
set_option maxRecDepth 100000 in
theorem open_dg {H : Type} {enc : TypeId × Value → H} {W : World} {v : Value} {d : DataW H} {ps : List MemPlace} (hval : Value.okWide Tryd.prog W .any 0 24 v) (hd : DataW.Trod enc Tryd.prog W 0 (fun _ => true) true 24 v d ps) :
    ∃ s : D4, v = .agg #[.int .u32 s.d0, .int .u32 s.d1, .int .u32 s.d2, .int .u32 s.d3] ∧ s.ok ∧ ps = [] := by
  unfold Value.okWide at hval
  rw [Tryd.underlying24] at hval
  obtain ⟨cs, rfl, hs, _⟩ := hval
  obtain ⟨fuel, hf⟩ := hd
  obtain ⟨s, e, ho, hp⟩ := open_four hf
  refine ⟨s, ?_, ho, hp⟩
  congr 1
  apply Array.ext'
  exact e
theorem gTrnType : (Tryd.prog.globals[0]?).map (·.type) = some 118 := by kernel_rfl
theorem cellsI : Tryd.prog.cellsOf 3 = 1 := by kernel_rfl
theorem cells4 : Tryd.prog.cellsOf 118 = 4 := by kernel_rfl
theorem turns_of {W : World} (hL : laidMetH Tryd.prog laidList W) : TurnsOk W := by
  have h0 : laidMet Tryd.prog (("seedcorn/digest.turns", Lib.tabData .i64 trnTab) :: []) W := hL
  exact Lib.tabIs_of_head gTrn gTrnType Tryd.underlying118 Tryd.underlying3 cellsI cells4 h0
theorem stand_dl : Tryd.pinned.checked.prog.wantsStandIn 35 = false := by kernel_rfl
theorem stand_i64 : Tryd.pinned.checked.prog.wantsStandIn 3 = false := by kernel_rfl
theorem stand_bool : Tryd.pinned.checked.prog.wantsStandIn 4 = false := by kernel_rfl
theorem stand_dg : Tryd.pinned.checked.prog.wantsStandIn 24 = false := by kernel_rfl
end Go.Proofs.YtdphhpmkcalahaaDoor
