/-
  What the layer's own code shares: its table of places, the cells of a whole state and of a whole digest, the world at the start of a call on a state.
-/
import Derived.Test.YtepcpjppogcjbaaDoorDgK
import Derived.Test.YtepcpjppogcjbaaDoorTurn
import Derived.Test.YtepcpjppogcjbaaDoorCHexA
namespace Go.Proofs.YtepcpjppogcjbaaDoor
open Go.RowKit Go.Lib

theorem Arr.c8 {t : TypeId} {b : Nat} {y : S8} {w : World} (h : Arr .u32 t b y.toL w) : w.cell? ⟨b, 0, none⟩ = some (.int .u32 y.x0) ∧ w.cell? ⟨b, 1, none⟩ = some (.int .u32 y.x1) ∧ w.cell? ⟨b, 2, none⟩ = some (.int .u32 y.x2) ∧ w.cell? ⟨b, 3, none⟩ = some (.int .u32 y.x3) ∧ w.cell? ⟨b, 4, none⟩ = some (.int .u32 y.x4) ∧ w.cell? ⟨b, 5, none⟩ = some (.int .u32 y.x5) ∧ w.cell? ⟨b, 6, none⟩ = some (.int .u32 y.x6) ∧ w.cell? ⟨b, 7, none⟩ = some (.int .u32 y.x7) :=
  ⟨h.cell (j := 0) (by rw [S8.toL_len]; decide), h.cell (j := 1) (by rw [S8.toL_len]; decide), h.cell (j := 2) (by rw [S8.toL_len]; decide), h.cell (j := 3) (by rw [S8.toL_len]; decide), h.cell (j := 4) (by rw [S8.toL_len]; decide), h.cell (j := 5) (by rw [S8.toL_len]; decide), h.cell (j := 6) (by rw [S8.toL_len]; decide), h.cell (j := 7) (by rw [S8.toL_len]; decide)⟩
theorem Arr.f8 {κ : IntKind} {t : TypeId} {b : Nat} {L : List Int} {w : World} (h : Arr κ t b L w) : w.frozen? ⟨b, 0, none⟩ = false ∧ w.frozen? ⟨b, 1, none⟩ = false ∧ w.frozen? ⟨b, 2, none⟩ = false ∧ w.frozen? ⟨b, 3, none⟩ = false ∧ w.frozen? ⟨b, 4, none⟩ = false ∧ w.frozen? ⟨b, 5, none⟩ = false ∧ w.frozen? ⟨b, 6, none⟩ = false ∧ w.frozen? ⟨b, 7, none⟩ = false :=
  ⟨h.fz 0, h.fz 1, h.fz 2, h.fz 3, h.fz 4, h.fz 5, h.fz 6, h.fz 7⟩
theorem D4.toL_len (d : D4) : d.toL.length = 4 := rfl
theorem Arr.c4 {t : TypeId} {b : Nat} {d : D4} {w : World} (h : Arr .u32 t b d.toL w) : w.cell? ⟨b, 0, none⟩ = some (.int .u32 d.d0) ∧ w.cell? ⟨b, 1, none⟩ = some (.int .u32 d.d1) ∧ w.cell? ⟨b, 2, none⟩ = some (.int .u32 d.d2) ∧ w.cell? ⟨b, 3, none⟩ = some (.int .u32 d.d3) :=
  ⟨h.cell (j := 0) (by rw [D4.toL_len]; decide), h.cell (j := 1) (by rw [D4.toL_len]; decide), h.cell (j := 2) (by rw [D4.toL_len]; decide), h.cell (j := 3) (by rw [D4.toL_len]; decide)⟩
theorem Arr.f4 {κ : IntKind} {t : TypeId} {b : Nat} {L : List Int} {w : World} (h : Arr κ t b L w) : w.frozen? ⟨b, 0, none⟩ = false ∧ w.frozen? ⟨b, 1, none⟩ = false ∧ w.frozen? ⟨b, 2, none⟩ = false ∧ w.frozen? ⟨b, 3, none⟩ = false :=
  ⟨h.fz 0, h.fz 1, h.fz 2, h.fz 3⟩
theorem Arr.thr {κ : IntKind} {t : TypeId} {b B : Nat} {L : List Int} {w w' : World} (h : Arr κ t b L w) (hB : Below B w w') (hb : b < B) : Arr κ t b L w' := by
  unfold Arr
  rw [hB.block b hb]
  exact h
theorem Arr.on {κ : IntKind} {t : TypeId} {b : Nat} {L : List Int} {w w' : World} (h : Arr κ t b L w) (hB : Below w.heap.size w w') : Arr κ t b L w' := h.thr hB h.lt
def zeroS : S8 := ⟨0, 0, 0, 0, 0, 0, 0, 0⟩
def zeroD : D4 := ⟨0, 0, 0, 0⟩
theorem zeroS_l : zeroS.toL = [0, 0, 0, 0, 0, 0, 0, 0] := rfl
theorem zeroD_l : zeroD.toL = [0, 0, 0, 0] := rfl
theorem set4 {N : List Int} (h : N.length = 4) (d : D4) : (((N.set 0 d.d0).set 1 d.d1).set 2 d.d2).set 3 d.d3 = d.toL := by
  match N, h with
  | [_, _, _, _], _ => rfl
theorem put4 {t : TypeId} {b : Nat} {N : List Int} {w : World} {d : D4} (h : Arr .u32 t b N w) (hn : N.length = 4) :
    Arr .u32 t b d.toL ((((w.setCell ⟨b, 0, none⟩ (.int .u32 d.d0)).setCell ⟨b, 1, none⟩ (.int .u32 d.d1)).setCell ⟨b, 2, none⟩ (.int .u32 d.d2)).setCell ⟨b, 3, none⟩ (.int .u32 d.d3)) := by
  rw [← set4 hn d]
  exact (((h.set 0 _).set 1 _).set 2 _).set 3 _
/-- Eight stores, four stores, in a block that is not below a bound. -/
theorem below_put8 {B b : Nat} {w w' : World} (h : Below B w w') (hb : B ≤ b) (y : S8) : Below B w ((((((((w'.setCell ⟨b, 0, none⟩ (.int .u32 y.x0)).setCell ⟨b, 1, none⟩ (.int .u32 y.x1)).setCell ⟨b, 2, none⟩ (.int .u32 y.x2)).setCell ⟨b, 3, none⟩ (.int .u32 y.x3)).setCell ⟨b, 4, none⟩ (.int .u32 y.x4)).setCell ⟨b, 5, none⟩ (.int .u32 y.x5)).setCell ⟨b, 6, none⟩ (.int .u32 y.x6)).setCell ⟨b, 7, none⟩ (.int .u32 y.x7)) :=
  (((((((h.setCell (p := ⟨b, 0, none⟩) hb _).setCell (p := ⟨b, 1, none⟩) hb _).setCell (p := ⟨b, 2, none⟩) hb _).setCell (p := ⟨b, 3, none⟩) hb _).setCell (p := ⟨b, 4, none⟩) hb _).setCell (p := ⟨b, 5, none⟩) hb _).setCell (p := ⟨b, 6, none⟩) hb _).setCell (p := ⟨b, 7, none⟩) hb _
theorem below_put4 {B b : Nat} {w w' : World} (h : Below B w w') (hb : B ≤ b) (d : D4) : Below B w ((((w'.setCell ⟨b, 0, none⟩ (.int .u32 d.d0)).setCell ⟨b, 1, none⟩ (.int .u32 d.d1)).setCell ⟨b, 2, none⟩ (.int .u32 d.d2)).setCell ⟨b, 3, none⟩ (.int .u32 d.d3)) :=
  (((h.setCell (p := ⟨b, 0, none⟩) hb _).setCell (p := ⟨b, 1, none⟩) hb _).setCell (p := ⟨b, 2, none⟩) hb _).setCell (p := ⟨b, 3, none⟩) hb _
theorem far8 {κ : IntKind} {t : TypeId} {c b : Nat} {L : List Int} {w : World} (h : Arr κ t c L w) (hne : c ≠ b) (y : S8) : Arr κ t c L ((((((((w.setCell ⟨b, 0, none⟩ (.int .u32 y.x0)).setCell ⟨b, 1, none⟩ (.int .u32 y.x1)).setCell ⟨b, 2, none⟩ (.int .u32 y.x2)).setCell ⟨b, 3, none⟩ (.int .u32 y.x3)).setCell ⟨b, 4, none⟩ (.int .u32 y.x4)).setCell ⟨b, 5, none⟩ (.int .u32 y.x5)).setCell ⟨b, 6, none⟩ (.int .u32 y.x6)).setCell ⟨b, 7, none⟩ (.int .u32 y.x7)) :=
  (((((((h.far (a := ⟨b, 0, none⟩) hne _).far (a := ⟨b, 1, none⟩) hne _).far (a := ⟨b, 2, none⟩) hne _).far (a := ⟨b, 3, none⟩) hne _).far (a := ⟨b, 4, none⟩) hne _).far (a := ⟨b, 5, none⟩) hne _).far (a := ⟨b, 6, none⟩) hne _).far (a := ⟨b, 7, none⟩) hne _
theorem far4 {κ : IntKind} {t : TypeId} {c b : Nat} {L : List Int} {w : World} (h : Arr κ t c L w) (hne : c ≠ b) (d : D4) : Arr κ t c L ((((w.setCell ⟨b, 0, none⟩ (.int .u32 d.d0)).setCell ⟨b, 1, none⟩ (.int .u32 d.d1)).setCell ⟨b, 2, none⟩ (.int .u32 d.d2)).setCell ⟨b, 3, none⟩ (.int .u32 d.d3)) :=
  (((h.far (a := ⟨b, 0, none⟩) hne _).far (a := ⟨b, 1, none⟩) hne _).far (a := ⟨b, 2, none⟩) hne _).far (a := ⟨b, 3, none⟩) hne _

theorem toL_of {N : List Int} (h : N.length = 8) : ∃ z : S8, N = z.toL := by
  match N, h with
  | [a, b, c, d, e, f, g, i], _ => exact ⟨⟨a, b, c, d, e, f, g, i⟩, rfl⟩
theorem toL_inj {y z : S8} (h : y.toL = z.toL) : y = z := by
  cases y; cases z
  simp only [S8.toL, List.cons.injEq, and_true] at h
  obtain ⟨h0, h1, h2, h3, h4, h5, h6, h7⟩ := h
  simp [h0, h1, h2, h3, h4, h5, h6, h7]
/-- A round's words, moved. -/
theorem round_moved {r : Nat} {x z : S8} (h : foldP 4 (x.toL.set 0 (aw x.x0 (rc r))) = z.toL) : (⟨z.x3, z.x4, z.x5, z.x6, z.x7, z.x0, z.x1, z.x2⟩ : S8) = rnd r x := by
  apply toL_inj
  rw [← round_list, h]; rfl
/-- A state boxed, and room for another one. -/
theorem start2 (s : S8) (w w0 : World) (h : (w.alloc (.cells #[.int .u32 s.x0, .int .u32 s.x1, .int .u32 s.x2, .int .u32 s.x3, .int .u32 s.x4, .int .u32 s.x5, .int .u32 s.x6, .int .u32 s.x7] 23)).alloc (.cells #[.int .u32 0, .int .u32 0, .int .u32 0, .int .u32 0, .int .u32 0, .int .u32 0, .int .u32 0, .int .u32 0] 23) = w0) :
    Arr .u32 23 w.heap.size s.toL w0 ∧ Arr .u32 23 (w.heap.size + 1) [0, 0, 0, 0, 0, 0, 0, 0] w0 ∧ Below w.heap.size w w0 := by
  subst h
  have a1 : (w.alloc (.cells #[.int .u32 s.x0, .int .u32 s.x1, .int .u32 s.x2, .int .u32 s.x3, .int .u32 s.x4, .int .u32 s.x5, .int .u32 s.x6, .int .u32 s.x7] 23)).heap.size = w.heap.size + 1 := by simp
  refine ⟨(show Arr .u32 23 w.heap.size s.toL _ from heap_alloc_new w _).al _, ?_, ((Below.refl _ _).alloc (Nat.le_refl _) _).alloc (by rw [a1]; omega) _⟩
  rw [← a1]
  exact heap_alloc_new (w.alloc _) _

/-- The places, as the code's table holds them. -/
def trnTab : List Int := [7, 9, 13, 18]
def TurnsOk (w : World) : Prop := TabIs Tryd.prog w "seedcorn/digest.turns" .i64 trnTab
theorem gTrn : Tryd.prog.globalNamed "seedcorn/digest.turns" = some 0 := by kernel_rfl
theorem TurnsOk.below {w w' : World} (h : TurnsOk w) (hB : Below w.heap.size w w') : TurnsOk w' := tab_below h gTrn (tab_low h gTrn) hB
theorem TurnsOk.cells {w : World} (h : TurnsOk w) : w.cell? ⟨0, 0, none⟩ = some (.int .i64 7) ∧ w.cell? ⟨0, 1, none⟩ = some (.int .i64 9) ∧ w.cell? ⟨0, 2, none⟩ = some (.int .i64 13) ∧ w.cell? ⟨0, 3, none⟩ = some (.int .i64 18) :=
  ⟨h.cell gTrn 0 (by decide), h.cell gTrn 1 (by decide), h.cell gTrn 2 (by decide), h.cell gTrn 3 (by decide)⟩
theorem index_turns {k : Nat} (h : k < 4) (w : World) : Sem.run Tryd.prog (Instr.index 42 (.agg #[.int .i64 7, .int .i64 9, .int .i64 13, .int .i64 18]) (.int .i64 (k : Int))) w = Result.ok (.int .i64 (kk k)) w := by
  match k, h with
  | 0, _ => simp [Instr.index, run_underlying Tryd.underlying42, asIntOf, go_sem, kk]
  | 1, _ => simp [Instr.index, run_underlying Tryd.underlying42, asIntOf, go_sem, kk]
  | 2, _ => simp [Instr.index, run_underlying Tryd.underlying42, asIntOf, go_sem, kk]
  | 3, _ => simp [Instr.index, run_underlying Tryd.underlying42, asIntOf, go_sem, kk]
theorem turn_code (a n : Int) (w : World) (ha : isW a) : Calls Tryd.prog 25 #[.int .u32 a, .int .i64 n] w fun e w' => e = .returned (.int .u32 (rotI a n)) ∧ w' = w :=
  (turn_any a n w ha.1 ha.2).mono fun _ _ h => ⟨h.1, h.2.symm⟩
end Go.Proofs.YtepcpjppogcjbaaDoor
