/-
  Bytes in a row of the call's own of which nothing is frozen as far as its capacity goes: what an append makes of it, with room or without.
-/
import Derived.Test.YtepcpjppogcjbaaDoorDgB
import Derived.Test.YtepcpjppogcjbaaDoorRHexT
import Derived.Laws.IdiomCopy
import Derived.Laws.AppendOwn
import Derived.Deep.MidRow
import Derived.Lib.SlBuf
import Derived.Lib.ConvBytes
namespace Go.Proofs.YtepcpjppogcjbaaDoor
open Go.RowKit

/-- The slice v holds the bytes l, in a block from B on; as far as its capacity goes there are cells, and they may be written. -/
def HasB (B : Nat) (v : Value) (l : List UInt8) (w : World) : Prop :=
  ∃ g cap, v = .slice (some ⟨g, 0, none⟩) l.length cap ∧ B ≤ g ∧ g < w.heap.size ∧ l.length ≤ cap ∧ cap ≤ maxLen ∧ (∀ j, j < l.length → w.cell? ⟨g, j, none⟩ = some (.int .u8 ((l.getD j 0).toNat : Int))) ∧ ∀ j, j < cap → (w.cell? ⟨g, j, none⟩).isSome = true ∧ w.frozen? ⟨g, j, none⟩ = false
theorem HasB.on {B : Nat} {v : Value} {l : List UInt8} {w w' : World} (h : HasB B v l w) (hb : Below w.heap.size w w') : HasB B v l w' := by
  obtain ⟨g, cap, hv, h1, h2, h3, h4, h5, h6⟩ := h
  refine ⟨g, cap, hv, h1, Nat.lt_of_lt_of_le h2 hb.size, h3, h4, fun j hj => ?_, fun j hj => ?_⟩
  · rw [hb.cell (p := ⟨g, j, none⟩) h2]; exact h5 j hj
  · rw [hb.cell (p := ⟨g, j, none⟩) h2, hb.frozen (p := ⟨g, j, none⟩) h2]; exact h6 j hj
/-- A string's bytes, converted. -/
theorem HasB.start (w : World) (s : ByteArray) (hs : s.size ≤ maxLen) : HasB w.heap.size (.slice (some ⟨w.heap.size, 0, none⟩) s.size (grownCap w s.size 0 5)) s.data.toList (Lib.bytesWorld w 5 s) := by
  have hl : s.data.toList.length = s.size := by rw [Array.length_toList]; rfl
  have hge := grownCap_ge w s.size 0 5
  have hnew := Lib.bytesWorld_at_new w 5 s
  have hsz : (Lib.bytesCells w 5 s).size = grownCap w s.size 0 5 := by
    unfold Lib.bytesCells
    rw [Array.size_append, Array.size_map, Array.size_replicate]
    show s.data.size + _ = _
    have : s.data.size = s.size := rfl
    omega
  refine ⟨w.heap.size, grownCap w s.size 0 5, by rw [hl], Nat.le_refl _, by rw [Lib.bytesWorld_size]; omega, by rw [hl]; exact hge, grownCap_le_maxLen w _ _ _ hs, fun j hj => ?_, fun j hj => ⟨?_, ?_⟩⟩
  · rw [hl] at hj
    exact Lib.bytesWorld_cell w 5 s j hj
  · rw [cell_of_row _ _ j _ _ _ hnew]
    simp [hsz, hj]
  · simp only [World.frozen?, hnew]
    simp; omega
theorem run_append_cells (P : Program) (w : World) (t ty e : TypeId) (i : TypeInfo) (ht : P.underlying t = some (.slice e)) (hi : P.info? e = some i) (h1 : i.size = 1)
    (g n cap : Nat) (a : Addr) (m c : Nat) (news : List Value) (hl : news.length = m) (hnews : ∀ j u, news[j]? = some u → w.cell? (a.add j) = some u) (ho : ∀ u ∈ news, u.oneCell' = true)
    (hroom : n + m ≤ cap) (hc : ∀ j, j < m → (w.cell? ⟨g, n + j, none⟩).isSome = true) (hf : ∀ j, j < m → w.frozen? ⟨g, n + j, none⟩ = false) :
    (Builtin.append_ #[t, t] ty #[.slice (some ⟨g, 0, none⟩) n cap, .slice (some a) m c]).run P w = .ok (.slice (some ⟨g, 0, none⟩) (n + m) cap) (w.setCells g n news) := by
  have hfc := run_firstCells_some (P := P) w i.size m a m c news (by rw [hl, h1, Nat.mul_one]) hnews
  have hst := run_storeCells_cells (P := P) g n news 0 w (fun j hj => by simpa using hc j (by omega)) (fun j hj => by simpa using hf j (by omega)) ho
  simp only [Nat.add_zero] at hst
  rw [h1] at hfc
  simp [Builtin.append_, run_underlying ht, sizeOf, typeInfo, hi, h1, Builtin.lenOf, hroom, hfc, Addr.add_lit, hst]
/-- An append whose run is known, for the walk. -/
theorem wpList_append_eq {P : Program} {ops : Array Oper} {rest : List Oper} {o : Oper} {a : Act} {Q : Exit → Act → World → Prop} {w : World} (hgd : o.guard = none) (s x : Operand) (t : TypeId)
    (ho : o.op = .call { callee := .builtin .append, args := #[s, x], argTypes := #[t, t] }) (v vx v' : Value) (w' : World) (hs : a.eval s = v) (hx : a.eval x = vx)
    (hr : (Builtin.append_ #[t, t] o.type #[v, vx]).run P w = .ok v' w') (h : wpList P ops Q rest (a.put o.dst v') w') : wpList P ops Q (o :: rest) a w := by
  refine wpList_plain hgd fun K hK => ?_
  unfold Oper.wp execOp
  simp only [ho, resolve, invoke, builtin, Sem.run_bind, Sem.run_pure, Result.andThen_ok, List.map_toArray, List.map_cons, List.map_nil, hs, hx, hr]
  exact hK _ _ h
/-- An append of bytes that lie elsewhere. -/
theorem HasB.append {B : Nat} {v : Value} {l : List UInt8} {w : World} (h : HasB B v l w) (ns : List UInt8) (a : Addr) (c : Nat) (hn : ∀ j u, (Lib.byteCells ns)[j]? = some u → w.cell? (a.add j) = some u) (hns : l.length + ns.length ≤ 1000000) (hB : B ≤ w.heap.size) (ty : TypeId) :
    ∃ v' w', (Builtin.append_ #[39, 39] ty #[v, .slice (some a) ns.length c]).run Tryd.prog w = .ok v' w' ∧ HasB B v' (l ++ ns) w' ∧ Below B w w' := by
  obtain ⟨i, hi, hz0, hz1, hz2⟩ := info_parts info_u8h
  obtain ⟨g, cap, rfl, h1, h2, h3, h4, h5, h6⟩ := h
  have hbl : (Lib.byteCells ns).length = ns.length := by simp [Lib.byteCells]
  have hone : ∀ u ∈ Lib.byteCells ns, u.oneCell' = true := by
    intro u hu
    simp [Lib.byteCells] at hu
    obtain ⟨x, _, rfl⟩ := hu
    rfl
  by_cases hroom : l.length + ns.length ≤ cap
  · have hr := run_append_cells Tryd.prog w 39 ty 5 i Tryd.underlying39 hi hz1 g l.length cap a ns.length c (Lib.byteCells ns) hbl hn hone hroom (fun j hj => (h6 _ (by omega)).1) (fun j hj => (h6 _ (by omega)).2)
    refine ⟨_, _, hr, ⟨g, cap, by rw [List.length_append], h1, ?_, by rw [List.length_append]; exact hroom, h4, fun j hj => ?_, fun j hj => ⟨?_, ?_⟩⟩, Lib.below_setCells g h1 _ _ (Below.refl _ _)⟩
    · exact Nat.lt_of_lt_of_le h2 (Lib.below_setCells (B := 0) g (Nat.zero_le _) (Lib.byteCells ns) l.length (Below.refl 0 w)).size
    · rw [List.length_append] at hj
      by_cases q : j < l.length
      · rw [World.cell?_setCells_out g _ _ _ _ (fun _ _ => Or.inl q), h5 j q]
        simp [List.getD, List.getElem?_append_left q]
      · have hj2 : j - l.length < (Lib.byteCells ns).length := by rw [hbl]; omega
        have e := World.cell?_setCells_in g (Lib.byteCells ns) l.length w (fun k hk => (h6 _ (by rw [hbl] at hk; omega)).1) (j - l.length) hj2
        rw [show l.length + (j - l.length) = j by omega] at e
        rw [e]
        have hj3 : j - l.length < ns.length := by omega
        simp [Lib.byteCells, List.getD, List.getElem?_append_right (show l.length ≤ j by omega), List.getElem?_eq_getElem hj3]
    · exact World.isSome_setCells g _ _ _ _ (h6 j hj).1
    · rw [World.frozen?_setCells]; exact (h6 j hj).2
  · have hol : (Lib.byteCells l).length = l.length := by simp [Lib.byteCells]
    have hadd : ∀ j, (⟨g, 0, none⟩ : Addr).add j = ⟨g, j, none⟩ := fun j => by unfold Addr.add; split <;> simp_all
    have hr := run_append_grow (P := Tryd.prog) w 39 ty 5 i (.int .u8 0) Tryd.underlying39 hi hz0 ⟨g, 0, none⟩ l.length cap (Lib.byteCells l) (by rw [hol, hz1, Nat.mul_one]) (fun j u hu => by
      rw [hadd]
      have hj : j < l.length := by
        have := (List.getElem?_eq_some_iff.1 hu).1
        rw [hol] at this; exact this
      rw [h5 j hj, ← hu]
      simp [Lib.byteCells, List.getD, List.getElem?_eq_getElem hj]) a ns.length c (Lib.byteCells ns) (by rw [hbl, hz1, Nat.mul_one]) hn (by omega) (by omega) (by rw [hz2]; exact growslice_fits (by omega) (by omega))
    have hge := grownCap_ge w (l.length + ns.length) cap 5
    have hrow := heap_alloc_new w.drew (.cells ((Lib.byteCells l).toArray ++ (Lib.byteCells ns).toArray ++ Builtin.zeroCells (Value.int .u8 0).cells (grownCap w (l.length + ns.length) cap 5 - (l.length + ns.length))) 5)
    refine ⟨_, _, hr, ⟨w.heap.size, grownCap w (l.length + ns.length) cap 5, by rw [List.length_append], hB, ?_, by rw [List.length_append]; exact hge, grownCap_le_maxLen w _ _ _ (by unfold maxLen; omega), fun j hj => ?_, fun j hj => ⟨?_, ?_⟩⟩, ((Below.refl B w).drew).alloc hB _⟩
    · show w.heap.size < (w.heap.push _).size
      rw [Array.size_push]; omega
    · rw [List.length_append] at hj
      refine (cell_of_row _ w.heap.size j _ _ (0, 0) hrow).trans ?_
      rw [Array.append_assoc]
      by_cases q : j < l.length
      · simp [Lib.byteCells, List.getD, Array.getElem?_append, List.getElem?_append, q]
      · have hj3 : j - l.length < ns.length := by omega
        simp [Lib.byteCells, List.getD, Array.getElem?_append, List.getElem?_append, q, hj3]
    · refine (congrArg Option.isSome (cell_of_row _ w.heap.size j _ _ (0, 0) hrow)).trans ?_
      have hz : (Builtin.zeroCells (Value.int .u8 0).cells (grownCap w (l.length + ns.length) cap 5 - (l.length + ns.length))).size = grownCap w (l.length + ns.length) cap 5 - (l.length + ns.length) := by
        rw [size_zeroCells]; show _ * 1 = _; omega
      rw [Array.getElem?_eq_getElem (by
        rw [Array.size_append, Array.size_append, hz, List.size_toArray, List.size_toArray, hol, hbl]; omega)]
      rfl
    · exact frozen_of_row _ w.heap.size j _ _ hrow
end Go.Proofs.YtepcpjppogcjbaaDoor
