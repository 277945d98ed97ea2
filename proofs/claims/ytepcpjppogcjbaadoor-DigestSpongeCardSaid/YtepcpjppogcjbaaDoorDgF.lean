/-
  The contracts of the layer and of the document with their answers named, as the laws' walks take them; what keeps through a call; awake answers true.
-/
import Derived.Test.YtepcpjppogcjbaaDoorDgZ
import Derived.Test.YtepcpjppogcjbaaDoorDgE
import Derived.Test.YtepcpjppogcjbaaDoorDgG
namespace Go.Proofs.YtepcpjppogcjbaaDoor
open Go.RowKit

/-- What the laws ask of the listed variables. -/
def DgOk (w : World) : Prop := TurnsOk w ∧ HexOk w
theorem DgOk.below {w w' : World} (h : DgOk w) (hB : Below w.heap.size w w') : DgOk w' := ⟨h.1.below hB, h.2.below hB⟩

theorem mixC (s y : S8) (w : World) (hs : s.ok) (hL : DgOk w) (hy : mixN 8 s = y) : Calls Tryd.prog 12 #[.agg #[.int .u32 s.x0, .int .u32 s.x1, .int .u32 s.x2, .int .u32 s.x3, .int .u32 s.x4, .int .u32 s.x5, .int .u32 s.x6, .int .u32 s.x7]] w fun e w' => e = .returned (.agg #[.int .u32 y.x0, .int .u32 y.x1, .int .u32 y.x2, .int .u32 y.x3, .int .u32 y.x4, .int .u32 y.x5, .int .u32 y.x6, .int .u32 y.x7]) ∧ Below w.heap.size w w' := by
  subst hy; exact cmix_any s w hs hL.1
theorem mixR (s y : S8) (w : World) (hs : s.ok) (hy : mixN 8 s = y) : Calls Tryd.prog 13 #[.agg #[.int .u32 s.x0, .int .u32 s.x1, .int .u32 s.x2, .int .u32 s.x3, .int .u32 s.x4, .int .u32 s.x5, .int .u32 s.x6, .int .u32 s.x7]] w fun e w' => e = .returned (.agg #[.int .u32 y.x0, .int .u32 y.x1, .int .u32 y.x2, .int .u32 y.x3, .int .u32 y.x4, .int .u32 y.x5, .int .u32 y.x6, .int .u32 y.x7]) ∧ Below w.heap.size w w' := by
  subst hy; exact mix_any s w hs
theorem unmC (s y : S8) (w : World) (hs : s.ok) (hL : DgOk w) (hy : unmN 8 s = y) : Calls Tryd.prog 14 #[.agg #[.int .u32 s.x0, .int .u32 s.x1, .int .u32 s.x2, .int .u32 s.x3, .int .u32 s.x4, .int .u32 s.x5, .int .u32 s.x6, .int .u32 s.x7]] w fun e w' => e = .returned (.agg #[.int .u32 y.x0, .int .u32 y.x1, .int .u32 y.x2, .int .u32 y.x3, .int .u32 y.x4, .int .u32 y.x5, .int .u32 y.x6, .int .u32 y.x7]) ∧ Below w.heap.size w w' := by
  subst hy; exact cunmix_any s w hs hL.1
theorem unmR (s y : S8) (w : World) (hs : s.ok) (hy : unmN 8 s = y) : Calls Tryd.prog 15 #[.agg #[.int .u32 s.x0, .int .u32 s.x1, .int .u32 s.x2, .int .u32 s.x3, .int .u32 s.x4, .int .u32 s.x5, .int .u32 s.x6, .int .u32 s.x7]] w fun e w' => e = .returned (.agg #[.int .u32 y.x0, .int .u32 y.x1, .int .u32 y.x2, .int .u32 y.x3, .int .u32 y.x4, .int .u32 y.x5, .int .u32 y.x6, .int .u32 y.x7]) ∧ Below w.heap.size w w' := by
  subst hy; exact unmix_any s w hs
theorem pairC (a b y : D4) (w : World) (ha : a.ok) (hb : b.ok) (hL : DgOk w) (hy : pairS a b = y) : Calls Tryd.prog 18 #[.agg #[.int .u32 a.d0, .int .u32 a.d1, .int .u32 a.d2, .int .u32 a.d3], .agg #[.int .u32 b.d0, .int .u32 b.d1, .int .u32 b.d2, .int .u32 b.d3]] w fun e w' => e = .returned (.agg #[.int .u32 y.d0, .int .u32 y.d1, .int .u32 y.d2, .int .u32 y.d3]) ∧ Below w.heap.size w w' := by
  subst hy; exact cpair_any a b w ha hb hL.1
theorem pairR (a b y : D4) (w : World) (ha : a.ok) (hb : b.ok) (hy : pairS a b = y) : Calls Tryd.prog 19 #[.agg #[.int .u32 a.d0, .int .u32 a.d1, .int .u32 a.d2, .int .u32 a.d3], .agg #[.int .u32 b.d0, .int .u32 b.d1, .int .u32 b.d2, .int .u32 b.d3]] w fun e w' => e = .returned (.agg #[.int .u32 y.d0, .int .u32 y.d1, .int .u32 y.d2, .int .u32 y.d3]) ∧ Below w.heap.size w w' := by
  subst hy; exact rpair_any a b w ha hb
theorem textC (d : D4) (t : ByteArray) (w : World) (hd : d.ok) (hL : DgOk w) (ht : t.data.toList = dTextL d) : Calls Tryd.prog 20 #[.agg #[.int .u32 d.d0, .int .u32 d.d1, .int .u32 d.d2, .int .u32 d.d3]] w fun e w' => e = .returned (.string t) ∧ Below w.heap.size w w' := by
  rw [show t = ⟨(dTextL d).toArray⟩ by rw [← ht]]; exact ctext_any d w hd hL.2
theorem textR (d : D4) (t : ByteArray) (w : World) (hd : d.ok) (ht : t.data.toList = dTextL d) : Calls Tryd.prog 22 #[.agg #[.int .u32 d.d0, .int .u32 d.d1, .int .u32 d.d2, .int .u32 d.d3]] w fun e w' => e = .returned (.string t) ∧ Below w.heap.size w w' := by
  rw [show t = ⟨(dTextL d).toArray⟩ by rw [← ht]]; exact rtext_any d w hd
theorem parseC (s : ByteArray) (d : D4) (f : Int) (w : World) (hL : DgOk w) (h : dRead s.data.toList = d ∧ dErr s.data.toList = f) : Calls Tryd.prog 21 #[.string s] w fun e w' => e = .returned (.tuple #[.agg #[.int .u32 d.d0, .int .u32 d.d1, .int .u32 d.d2, .int .u32 d.d3], .int .i64 f]) ∧ Below w.heap.size w w' := by
  obtain ⟨rfl, rfl⟩ := h; exact cparse_any s w hL.2
theorem parseR (s : ByteArray) (d : D4) (f : Int) (w : World) (hs : s.size ≤ 1000000) (h : dRead s.data.toList = d ∧ dErr s.data.toList = f) : Calls Tryd.prog 23 #[.string s] w fun e w' => e = .returned (.tuple #[.agg #[.int .u32 d.d0, .int .u32 d.d1, .int .u32 d.d2, .int .u32 d.d3], .int .i64 f]) ∧ Below w.heap.size w w' := by
  obtain ⟨rfl, rfl⟩ := h; exact rparse_any s w hs

theorem keepC {W w' : World} (h : Below W.heap.size W w') {q j : Nat} {v : Value} (e : W.cell? ⟨q, j, none⟩ = some v) : w'.cell? ⟨q, j, none⟩ = some v := by
  rw [h.cell (p := ⟨q, j, none⟩) (cell_lt e)]
  exact e
theorem keepS {W w' : World} {s : S8} {B : Nat} (h : Below W.heap.size W w') (f : W.cell? ⟨B, 0, none⟩ = some (.int .u32 s.x0) ∧ W.cell? ⟨B, 1, none⟩ = some (.int .u32 s.x1) ∧ W.cell? ⟨B, 2, none⟩ = some (.int .u32 s.x2) ∧ W.cell? ⟨B, 3, none⟩ = some (.int .u32 s.x3) ∧ W.cell? ⟨B, 4, none⟩ = some (.int .u32 s.x4) ∧ W.cell? ⟨B, 5, none⟩ = some (.int .u32 s.x5) ∧ W.cell? ⟨B, 6, none⟩ = some (.int .u32 s.x6) ∧ W.cell? ⟨B, 7, none⟩ = some (.int .u32 s.x7)) : w'.cell? ⟨B, 0, none⟩ = some (.int .u32 s.x0) ∧ w'.cell? ⟨B, 1, none⟩ = some (.int .u32 s.x1) ∧ w'.cell? ⟨B, 2, none⟩ = some (.int .u32 s.x2) ∧ w'.cell? ⟨B, 3, none⟩ = some (.int .u32 s.x3) ∧ w'.cell? ⟨B, 4, none⟩ = some (.int .u32 s.x4) ∧ w'.cell? ⟨B, 5, none⟩ = some (.int .u32 s.x5) ∧ w'.cell? ⟨B, 6, none⟩ = some (.int .u32 s.x6) ∧ w'.cell? ⟨B, 7, none⟩ = some (.int .u32 s.x7) := by
  obtain ⟨f0, f1, f2, f3, f4, f5, f6, f7⟩ := f
  exact ⟨keepC h f0, keepC h f1, keepC h f2, keepC h f3, keepC h f4, keepC h f5, keepC h f6, keepC h f7⟩
theorem keepD {W w' : World} {d : D4} {B : Nat} (h : Below W.heap.size W w') (f : W.cell? ⟨B, 0, none⟩ = some (.int .u32 d.d0) ∧ W.cell? ⟨B, 1, none⟩ = some (.int .u32 d.d1) ∧ W.cell? ⟨B, 2, none⟩ = some (.int .u32 d.d2) ∧ W.cell? ⟨B, 3, none⟩ = some (.int .u32 d.d3)) : w'.cell? ⟨B, 0, none⟩ = some (.int .u32 d.d0) ∧ w'.cell? ⟨B, 1, none⟩ = some (.int .u32 d.d1) ∧ w'.cell? ⟨B, 2, none⟩ = some (.int .u32 d.d2) ∧ w'.cell? ⟨B, 3, none⟩ = some (.int .u32 d.d3) := by
  obtain ⟨f0, f1, f2, f3⟩ := f
  exact ⟨keepC h f0, keepC h f1, keepC h f2, keepC h f3⟩
theorem keepSS {W w' : World} {s t : S8} {B C : Nat} (h : Below W.heap.size W w') (f : (W.cell? ⟨B, 0, none⟩ = some (.int .u32 s.x0) ∧ W.cell? ⟨B, 1, none⟩ = some (.int .u32 s.x1) ∧ W.cell? ⟨B, 2, none⟩ = some (.int .u32 s.x2) ∧ W.cell? ⟨B, 3, none⟩ = some (.int .u32 s.x3) ∧ W.cell? ⟨B, 4, none⟩ = some (.int .u32 s.x4) ∧ W.cell? ⟨B, 5, none⟩ = some (.int .u32 s.x5) ∧ W.cell? ⟨B, 6, none⟩ = some (.int .u32 s.x6) ∧ W.cell? ⟨B, 7, none⟩ = some (.int .u32 s.x7)) ∧ (W.cell? ⟨C, 0, none⟩ = some (.int .u32 t.x0) ∧ W.cell? ⟨C, 1, none⟩ = some (.int .u32 t.x1) ∧ W.cell? ⟨C, 2, none⟩ = some (.int .u32 t.x2) ∧ W.cell? ⟨C, 3, none⟩ = some (.int .u32 t.x3) ∧ W.cell? ⟨C, 4, none⟩ = some (.int .u32 t.x4) ∧ W.cell? ⟨C, 5, none⟩ = some (.int .u32 t.x5) ∧ W.cell? ⟨C, 6, none⟩ = some (.int .u32 t.x6) ∧ W.cell? ⟨C, 7, none⟩ = some (.int .u32 t.x7))) : (w'.cell? ⟨B, 0, none⟩ = some (.int .u32 s.x0) ∧ w'.cell? ⟨B, 1, none⟩ = some (.int .u32 s.x1) ∧ w'.cell? ⟨B, 2, none⟩ = some (.int .u32 s.x2) ∧ w'.cell? ⟨B, 3, none⟩ = some (.int .u32 s.x3) ∧ w'.cell? ⟨B, 4, none⟩ = some (.int .u32 s.x4) ∧ w'.cell? ⟨B, 5, none⟩ = some (.int .u32 s.x5) ∧ w'.cell? ⟨B, 6, none⟩ = some (.int .u32 s.x6) ∧ w'.cell? ⟨B, 7, none⟩ = some (.int .u32 s.x7)) ∧ (w'.cell? ⟨C, 0, none⟩ = some (.int .u32 t.x0) ∧ w'.cell? ⟨C, 1, none⟩ = some (.int .u32 t.x1) ∧ w'.cell? ⟨C, 2, none⟩ = some (.int .u32 t.x2) ∧ w'.cell? ⟨C, 3, none⟩ = some (.int .u32 t.x3) ∧ w'.cell? ⟨C, 4, none⟩ = some (.int .u32 t.x4) ∧ w'.cell? ⟨C, 5, none⟩ = some (.int .u32 t.x5) ∧ w'.cell? ⟨C, 6, none⟩ = some (.int .u32 t.x6) ∧ w'.cell? ⟨C, 7, none⟩ = some (.int .u32 t.x7)) := ⟨keepS h f.1, keepS h f.2⟩
theorem keepDS {W w' : World} {d : D4} {s : S8} {B C : Nat} (h : Below W.heap.size W w') (f : (W.cell? ⟨B, 0, none⟩ = some (.int .u32 d.d0) ∧ W.cell? ⟨B, 1, none⟩ = some (.int .u32 d.d1) ∧ W.cell? ⟨B, 2, none⟩ = some (.int .u32 d.d2) ∧ W.cell? ⟨B, 3, none⟩ = some (.int .u32 d.d3)) ∧ (W.cell? ⟨C, 0, none⟩ = some (.int .u32 s.x0) ∧ W.cell? ⟨C, 1, none⟩ = some (.int .u32 s.x1) ∧ W.cell? ⟨C, 2, none⟩ = some (.int .u32 s.x2) ∧ W.cell? ⟨C, 3, none⟩ = some (.int .u32 s.x3) ∧ W.cell? ⟨C, 4, none⟩ = some (.int .u32 s.x4) ∧ W.cell? ⟨C, 5, none⟩ = some (.int .u32 s.x5) ∧ W.cell? ⟨C, 6, none⟩ = some (.int .u32 s.x6) ∧ W.cell? ⟨C, 7, none⟩ = some (.int .u32 s.x7))) : (w'.cell? ⟨B, 0, none⟩ = some (.int .u32 d.d0) ∧ w'.cell? ⟨B, 1, none⟩ = some (.int .u32 d.d1) ∧ w'.cell? ⟨B, 2, none⟩ = some (.int .u32 d.d2) ∧ w'.cell? ⟨B, 3, none⟩ = some (.int .u32 d.d3)) ∧ (w'.cell? ⟨C, 0, none⟩ = some (.int .u32 s.x0) ∧ w'.cell? ⟨C, 1, none⟩ = some (.int .u32 s.x1) ∧ w'.cell? ⟨C, 2, none⟩ = some (.int .u32 s.x2) ∧ w'.cell? ⟨C, 3, none⟩ = some (.int .u32 s.x3) ∧ w'.cell? ⟨C, 4, none⟩ = some (.int .u32 s.x4) ∧ w'.cell? ⟨C, 5, none⟩ = some (.int .u32 s.x5) ∧ w'.cell? ⟨C, 6, none⟩ = some (.int .u32 s.x6) ∧ w'.cell? ⟨C, 7, none⟩ = some (.int .u32 s.x7)) := ⟨keepD h f.1, keepS h f.2⟩
theorem keepDD {W w' : World} {d c : D4} {B C : Nat} (h : Below W.heap.size W w') (f : (W.cell? ⟨B, 0, none⟩ = some (.int .u32 d.d0) ∧ W.cell? ⟨B, 1, none⟩ = some (.int .u32 d.d1) ∧ W.cell? ⟨B, 2, none⟩ = some (.int .u32 d.d2) ∧ W.cell? ⟨B, 3, none⟩ = some (.int .u32 d.d3)) ∧ (W.cell? ⟨C, 0, none⟩ = some (.int .u32 c.d0) ∧ W.cell? ⟨C, 1, none⟩ = some (.int .u32 c.d1) ∧ W.cell? ⟨C, 2, none⟩ = some (.int .u32 c.d2) ∧ W.cell? ⟨C, 3, none⟩ = some (.int .u32 c.d3))) : (w'.cell? ⟨B, 0, none⟩ = some (.int .u32 d.d0) ∧ w'.cell? ⟨B, 1, none⟩ = some (.int .u32 d.d1) ∧ w'.cell? ⟨B, 2, none⟩ = some (.int .u32 d.d2) ∧ w'.cell? ⟨B, 3, none⟩ = some (.int .u32 d.d3)) ∧ (w'.cell? ⟨C, 0, none⟩ = some (.int .u32 c.d0) ∧ w'.cell? ⟨C, 1, none⟩ = some (.int .u32 c.d1) ∧ w'.cell? ⟨C, 2, none⟩ = some (.int .u32 c.d2) ∧ w'.cell? ⟨C, 3, none⟩ = some (.int .u32 c.d3)) := ⟨keepD h f.1, keepD h f.2⟩

/-! The document's example: awake answers true. -/
def exD : D4 := ⟨1, 2, 3, 255⟩
theorem exD_ok : exD.ok := by simp [D4.ok, exD, isW]
def exS : S8 := ⟨1, 2, 3, 4, 5, 6, 7, 8⟩
theorem exS_ok : exS.ok := by simp [S8.ok, exS, isW]
theorem ex_read : dRead [48, 48, 48, 48, 48, 48, 48, 49, 48, 48, 48, 48, 48, 48, 48, 50, 48, 48, 48, 48, 48, 48, 48, 51, 48, 48, 48, 48, 48, 48, 70, 70] = exD ∧ dErr [48, 48, 48, 48, 48, 48, 48, 49, 48, 48, 48, 48, 48, 48, 48, 50, 48, 48, 48, 48, 48, 48, 48, 51, 48, 48, 48, 48, 48, 48, 70, 70] = 0 := by
  constructor
  · apply four_inj
    show (dRead _).toL = [1, 2, 3, 255]
    decide +kernel
  · decide +kernel
theorem ex_bad : dRead [48, 48] = zeroD ∧ dErr [48, 48] = 3 := by
  constructor
  · apply four_inj
    show (dRead _).toL = [0, 0, 0, 0]
    decide +kernel
  · decide +kernel
theorem ex_text : [48, 48, 48, 48, 48, 48, 48, 49, 48, 48, 48, 48, 48, 48, 48, 50, 48, 48, 48, 48, 48, 48, 48, 51, 48, 48, 48, 48, 48, 48, 102, 102] = dTextL exD := by decide +kernel
theorem ex_moved : mixN 8 exS ≠ exS := by
  intro h
  have h2 : (mixN 8 exS).x0 = 1 := by rw [h]; rfl
  exact absurd h2 (by decide +kernel)

theorem textX (w : World) (hL : DgOk w) : Calls Tryd.prog 20 #[.agg #[.int .u32 1, .int .u32 2, .int .u32 3, .int .u32 255]] w fun e w' => e = .returned (.string ⟨#[48, 48, 48, 48, 48, 48, 48, 49, 48, 48, 48, 48, 48, 48, 48, 50, 48, 48, 48, 48, 48, 48, 48, 51, 48, 48, 48, 48, 48, 48, 102, 102]⟩) ∧ Below w.heap.size w w' := textC exD ⟨#[48, 48, 48, 48, 48, 48, 48, 49, 48, 48, 48, 48, 48, 48, 48, 50, 48, 48, 48, 48, 48, 48, 48, 51, 48, 48, 48, 48, 48, 48, 102, 102]⟩ w exD_ok hL ex_text
theorem mixX (y : S8) (w : World) (hL : DgOk w) (hy : mixN 8 exS = y) : Calls Tryd.prog 12 #[.agg #[.int .u32 1, .int .u32 2, .int .u32 3, .int .u32 4, .int .u32 5, .int .u32 6, .int .u32 7, .int .u32 8]] w fun e w' => e = .returned (.agg #[.int .u32 y.x0, .int .u32 y.x1, .int .u32 y.x2, .int .u32 y.x3, .int .u32 y.x4, .int .u32 y.x5, .int .u32 y.x6, .int .u32 y.x7]) ∧ Below w.heap.size w w' := mixC exS y w exS_ok hL hy
theorem unmX (y : S8) (w : World) (ho : y.ok) (hL : DgOk w) (hy : unmN 8 y = exS) : Calls Tryd.prog 14 #[.agg #[.int .u32 y.x0, .int .u32 y.x1, .int .u32 y.x2, .int .u32 y.x3, .int .u32 y.x4, .int .u32 y.x5, .int .u32 y.x6, .int .u32 y.x7]] w fun e w' => e = .returned (.agg #[.int .u32 1, .int .u32 2, .int .u32 3, .int .u32 4, .int .u32 5, .int .u32 6, .int .u32 7, .int .u32 8]) ∧ Below w.heap.size w w' := unmC y exS w ho hL hy

theorem DgOk.al {w : World} (h : DgOk w) (o : Obj) : DgOk (w.alloc o) := h.below ((Below.refl _ _).alloc (Nat.le_refl _) _)
theorem DgOk.drew {w : World} (h : DgOk w) : DgOk w.drew := h
set_option maxHeartbeats 4000000 in
theorem awakeD_any (w : World) (hL : DgOk w) : Calls Tryd.prog 11 #[] w fun e w' => e = .returned (.bool true) ∧ Below w.heap.size w w' := by
  have HL := Lib.hid hL
  clear hL
  obtain ⟨y, hy⟩ : ∃ y, mixN 8 exS = y := ⟨_, rfl⟩
  have hyo : y.ok := by rw [← hy]; exact mixN_ok 8 exS_ok
  have HM := Lib.hid hy
  have HU : Hid (unmN 8 y = exS) := by show _ = _; rw [← hy]; exact unm_mix 8 exS_ok
  have HN : Hid (y ≠ exS) := by show y ≠ exS; rw [← hy]; exact ex_moved
  clear hy
  go_enter Tryd.func11, Tryd.ntmps11
  go_wp2_with fail
  refine (parseC ⟨#[48, 48, 48, 48, 48, 48, 48, 49, 48, 48, 48, 48, 48, 48, 48, 50, 48, 48, 48, 48, 48, 48, 48, 51, 48, 48, 48, 48, 48, 48, 70, 70]⟩ exD 0 _ HL.out ex_read).mono ?_
  rintro e w1 ⟨rfl, hB⟩
  have HL1 := Lib.hid (HL.out.below hB)
  simp only [exD]
  have HL1 := Lib.hid ((HL.out.below hB).al (.cells #[.int .u32 1, .int .u32 2, .int .u32 3, .int .u32 255] 29))
  go_wp2_with fail
  refine (parseC ⟨#[48, 48]⟩ zeroD 3 _ HL1.out ex_bad).mono ?_
  rintro e w2 ⟨rfl, hC⟩
  have hD : Arr .u32 29 w1.heap.size [1, 2, 3, 255] w2 := Arr.on (heap_alloc_new w1 _) hC
  have hB2 : Below w.heap.size w w2 := (hB.alloc hB.size _).trans (hC.mono (hB.alloc hB.size _).size)
  have HL2 := Lib.hid (((HL1.out.below hC).al (.cells #[.int .u32 0, .int .u32 0, .int .u32 0, .int .u32 0] 29)).al (.cells #[.int .u32 1, .int .u32 2, .int .u32 3, .int .u32 4, .int .u32 5, .int .u32 6, .int .u32 7, .int .u32 8] 23))
  clear hB hC HL HL1
  simp only [zeroD]
  have hD3 := (hD.al (.cells #[.int .u32 0, .int .u32 0, .int .u32 0, .int .u32 0] 29)).al (.cells #[.int .u32 1, .int .u32 2, .int .u32 3, .int .u32 4, .int .u32 5, .int .u32 6, .int .u32 7, .int .u32 8] 23)
  have hS3 : Arr .u32 23 (w2.alloc (.cells #[.int .u32 0, .int .u32 0, .int .u32 0, .int .u32 0] 29)).heap.size [1, 2, 3, 4, 5, 6, 7, 8] ((w2.alloc (.cells #[.int .u32 0, .int .u32 0, .int .u32 0, .int .u32 0] 29)).alloc (.cells #[.int .u32 1, .int .u32 2, .int .u32 3, .int .u32 4, .int .u32 5, .int .u32 6, .int .u32 7, .int .u32 8] 23)) := heap_alloc_new _ _
  rw [show (w2.alloc (.cells #[.int .u32 0, .int .u32 0, .int .u32 0, .int .u32 0] 29)).heap.size = w2.heap.size + 1 by simp] at hS3
  have hB3 := (hB2.alloc hB2.size (.cells #[.int .u32 0, .int .u32 0, .int .u32 0, .int .u32 0] 29)).alloc (hB2.alloc hB2.size (.cells #[.int .u32 0, .int .u32 0, .int .u32 0, .int .u32 0] 29)).size (.cells #[.int .u32 1, .int .u32 2, .int .u32 3, .int .u32 4, .int .u32 5, .int .u32 6, .int .u32 7, .int .u32 8] 23)
  clear hD hB2
  go_wp2_with fail
  generalize (w2.alloc (.cells #[.int .u32 0, .int .u32 0, .int .u32 0, .int .u32 0] 29)).alloc (.cells #[.int .u32 1, .int .u32 2, .int .u32 3, .int .u32 4, .int .u32 5, .int .u32 6, .int .u32 7, .int .u32 8] 23) = w3 at *
  have hB := hB3.drew
  have HL := Lib.hid (HL2.out.drew)
  have hDd : Arr .u32 29 w1.heap.size exD.toL w3.drew := hD3
  have hSd : Arr .u32 23 (w2.heap.size + 1) exS.toL w3.drew := hS3
  have HS0 := Lib.hid (⟨hDd.c4, hSd.c8⟩ : (w3.drew.cell? ⟨w1.heap.size, 0, none⟩ = some (.int .u32 exD.d0) ∧ w3.drew.cell? ⟨w1.heap.size, 1, none⟩ = some (.int .u32 exD.d1) ∧ w3.drew.cell? ⟨w1.heap.size, 2, none⟩ = some (.int .u32 exD.d2) ∧ w3.drew.cell? ⟨w1.heap.size, 3, none⟩ = some (.int .u32 exD.d3)) ∧ (w3.drew.cell? ⟨(w2.heap.size + 1), 0, none⟩ = some (.int .u32 exS.x0) ∧ w3.drew.cell? ⟨(w2.heap.size + 1), 1, none⟩ = some (.int .u32 exS.x1) ∧ w3.drew.cell? ⟨(w2.heap.size + 1), 2, none⟩ = some (.int .u32 exS.x2) ∧ w3.drew.cell? ⟨(w2.heap.size + 1), 3, none⟩ = some (.int .u32 exS.x3) ∧ w3.drew.cell? ⟨(w2.heap.size + 1), 4, none⟩ = some (.int .u32 exS.x4) ∧ w3.drew.cell? ⟨(w2.heap.size + 1), 5, none⟩ = some (.int .u32 exS.x5) ∧ w3.drew.cell? ⟨(w2.heap.size + 1), 6, none⟩ = some (.int .u32 exS.x6) ∧ w3.drew.cell? ⟨(w2.heap.size + 1), 7, none⟩ = some (.int .u32 exS.x7)))
  clear hD3 hS3 hB3 HL2 hDd hSd
  have hE1 := eqD_yes ⟨1, 2, 3, 255⟩
  have hE2 := eqS_yes ⟨1, 2, 3, 4, 5, 6, 7, 8⟩
  have hE3 := eqS_no HN.out
  simp only [exS] at hE3
  simp only at hE1 hE2
  go_region_held3 (fun w' => (w'.cell? ⟨w1.heap.size, 0, none⟩ = some (.int .u32 1) ∧ w'.cell? ⟨w1.heap.size, 1, none⟩ = some (.int .u32 2) ∧ w'.cell? ⟨w1.heap.size, 2, none⟩ = some (.int .u32 3) ∧ w'.cell? ⟨w1.heap.size, 3, none⟩ = some (.int .u32 255)) ∧ (w'.cell? ⟨w2.heap.size + 1, 0, none⟩ = some (.int .u32 1) ∧ w'.cell? ⟨w2.heap.size + 1, 1, none⟩ = some (.int .u32 2) ∧ w'.cell? ⟨w2.heap.size + 1, 2, none⟩ = some (.int .u32 3) ∧ w'.cell? ⟨w2.heap.size + 1, 3, none⟩ = some (.int .u32 4) ∧ w'.cell? ⟨w2.heap.size + 1, 4, none⟩ = some (.int .u32 5) ∧ w'.cell? ⟨w2.heap.size + 1, 5, none⟩ = some (.int .u32 6) ∧ w'.cell? ⟨w2.heap.size + 1, 6, none⟩ = some (.int .u32 7) ∧ w'.cell? ⟨w2.heap.size + 1, 7, none⟩ = some (.int .u32 8)))
    (first | ((with_reducible refine keepDS (d := ⟨1, 2, 3, 255⟩) (s := ⟨1, 2, 3, 4, 5, 6, 7, 8⟩) hA ?_); assumption) | (with_reducible exact HS0.out) | exact HS0.out)
    (first
      | (go_at_call 20; (with_reducible refine (textX _ HL.out).mono ?_); rintro e w' ⟨rfl, hA⟩; have HL := Lib.hid (HL.out.below hA); have hB := hB.trans (hA.mono hB.size))
      | (go_at_call 12; (with_reducible refine (mixX y _ HL.out HM.out).mono ?_); rintro e w' ⟨rfl, hA⟩; have HL := Lib.hid (HL.out.below hA); have hB := hB.trans (hA.mono hB.size))
      | (go_at_call 14; (with_reducible refine (unmX y _ hyo HL.out HU.out).mono ?_); rintro e w' ⟨rfl, hA⟩; have HL := Lib.hid (HL.out.below hA); have hB := hB.trans (hA.mono hB.size)))
  go_wp2_with fail
  go_ret
  exact ⟨rfl, hB⟩

end Go.Proofs.YtepcpjppogcjbaaDoor
