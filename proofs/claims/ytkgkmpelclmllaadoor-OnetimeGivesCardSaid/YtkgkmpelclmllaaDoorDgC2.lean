/-
  Layer 3, as later layers want it: Pair and Of, of the document and of the code; digests compared.
-/
import Derived.Test.YtkgkmpelclmllaaDoorDgC1
import Derived.Deep.RegionHeld3
import Derived.Test.YtkgkmpelclmllaaDoorWdC
import Derived.Lib.SmallJoins
import Derived.Laws.Cover3
import Derived.StillTailTactics
import Derived.Deep.LoopGhost
import Derived.Deep.AppendLies
import Derived.ChangeKeysEq
namespace Go.Proofs.YtkgkmpelclmllaaDoor

section
/-! The contract of the code's Pair. -/
open Go.RowKit

def twoS : S8 := ⟨2, 0, 0, 0, 0, 0, 0, 0⟩
theorem twoS_ok : twoS.ok := by simp [S8.ok, twoS, isW]
def pairS (a b : D4) : D4 := frontS (takeS (takeS twoS a) b)
theorem pairS_ok {a b : D4} (ha : a.ok) (hb : b.ok) : (pairS a b).ok := frontS_ok (takeS_ok (takeS_ok twoS_ok ha) hb)

/-- The calls of take and first as Pair makes them; the answers named. -/
theorem ctake_two (y : S8) (d : D4) (w : World) (hd : d.ok) (hT : TurnsOk w) (hy : takeS twoS d = y) : Calls Tryd.prog 40 #[.agg #[.int .u32 2, .int .u32 0, .int .u32 0, .int .u32 0, .int .u32 0, .int .u32 0, .int .u32 0, .int .u32 0], .agg #[.int .u32 d.d0, .int .u32 d.d1, .int .u32 d.d2, .int .u32 d.d3]] w fun e w' => e = .returned (.agg #[.int .u32 y.x0, .int .u32 y.x1, .int .u32 y.x2, .int .u32 y.x3, .int .u32 y.x4, .int .u32 y.x5, .int .u32 y.x6, .int .u32 y.x7]) ∧ Below w.heap.size w w' := by
  subst hy
  exact ctake_any twoS d w twoS_ok hd hT
theorem ctake_lit (s y : S8) (d : D4) (w : World) (hs : s.ok) (hd : d.ok) (hT : TurnsOk w) (hy : takeS s d = y) : Calls Tryd.prog 40 #[.agg #[.int .u32 s.x0, .int .u32 s.x1, .int .u32 s.x2, .int .u32 s.x3, .int .u32 s.x4, .int .u32 s.x5, .int .u32 s.x6, .int .u32 s.x7], .agg #[.int .u32 d.d0, .int .u32 d.d1, .int .u32 d.d2, .int .u32 d.d3]] w fun e w' => e = .returned (.agg #[.int .u32 y.x0, .int .u32 y.x1, .int .u32 y.x2, .int .u32 y.x3, .int .u32 y.x4, .int .u32 y.x5, .int .u32 y.x6, .int .u32 y.x7]) ∧ Below w.heap.size w w' := by
  subst hy
  exact ctake_any s d w hs hd hT
theorem cfirst_lit (s : S8) (w : World) : Calls Tryd.prog 39 #[.agg #[.int .u32 s.x0, .int .u32 s.x1, .int .u32 s.x2, .int .u32 s.x3, .int .u32 s.x4, .int .u32 s.x5, .int .u32 s.x6, .int .u32 s.x7]] w fun e w' => e = .returned (.agg #[.int .u32 s.x0, .int .u32 s.x1, .int .u32 s.x2, .int .u32 s.x3]) ∧ Below w.heap.size w w' := cfirst_any s w

theorem cell_lt {W : World} {q j : Nat} {v : Value} (e : W.cell? ⟨q, j, none⟩ = some v) : q < W.heap.size := by
  rcases Nat.lt_or_ge q W.heap.size with x | x
  · exact x
  · simp [World.cell?, Array.getElem?_eq_none x] at e
theorem keep8 {a b : D4} {B : Nat} {W w' : World} (h : Below W.heap.size W w') (f : W.cell? ⟨B, 0, none⟩ = some (.int .u32 a.d0) ∧ W.cell? ⟨B, 1, none⟩ = some (.int .u32 a.d1) ∧ W.cell? ⟨B, 2, none⟩ = some (.int .u32 a.d2) ∧ W.cell? ⟨B, 3, none⟩ = some (.int .u32 a.d3) ∧ W.cell? ⟨B + 1, 0, none⟩ = some (.int .u32 b.d0) ∧ W.cell? ⟨B + 1, 1, none⟩ = some (.int .u32 b.d1) ∧ W.cell? ⟨B + 1, 2, none⟩ = some (.int .u32 b.d2) ∧ W.cell? ⟨B + 1, 3, none⟩ = some (.int .u32 b.d3)) : w'.cell? ⟨B, 0, none⟩ = some (.int .u32 a.d0) ∧ w'.cell? ⟨B, 1, none⟩ = some (.int .u32 a.d1) ∧ w'.cell? ⟨B, 2, none⟩ = some (.int .u32 a.d2) ∧ w'.cell? ⟨B, 3, none⟩ = some (.int .u32 a.d3) ∧ w'.cell? ⟨B + 1, 0, none⟩ = some (.int .u32 b.d0) ∧ w'.cell? ⟨B + 1, 1, none⟩ = some (.int .u32 b.d1) ∧ w'.cell? ⟨B + 1, 2, none⟩ = some (.int .u32 b.d2) ∧ w'.cell? ⟨B + 1, 3, none⟩ = some (.int .u32 b.d3) := by
  obtain ⟨f0, f1, f2, f3, f4, f5, f6, f7⟩ := f
  have lt : ∀ {q : Nat} {j : Nat} {v : Value}, W.cell? ⟨q, j, none⟩ = some v → w'.cell? ⟨q, j, none⟩ = some v := fun {q j v} e => by
    rw [h.cell (p := ⟨q, j, none⟩) (cell_lt e)]
    exact e
  exact ⟨lt f0, lt f1, lt f2, lt f3, lt f4, lt f5, lt f6, lt f7⟩

theorem keep8s {a b : D4} {B : Nat} {W : World} {y0 y1 y2 y3 : Int} (f : W.cell? ⟨B, 0, none⟩ = some (.int .u32 a.d0) ∧ W.cell? ⟨B, 1, none⟩ = some (.int .u32 a.d1) ∧ W.cell? ⟨B, 2, none⟩ = some (.int .u32 a.d2) ∧ W.cell? ⟨B, 3, none⟩ = some (.int .u32 a.d3) ∧ W.cell? ⟨B + 1, 0, none⟩ = some (.int .u32 b.d0) ∧ W.cell? ⟨B + 1, 1, none⟩ = some (.int .u32 b.d1) ∧ W.cell? ⟨B + 1, 2, none⟩ = some (.int .u32 b.d2) ∧ W.cell? ⟨B + 1, 3, none⟩ = some (.int .u32 b.d3)) : ((((W.setCell ⟨B + 1 + 1, 0, none⟩ (.int .u32 y0)).setCell ⟨B + 1 + 1, 1, none⟩ (.int .u32 y1)).setCell ⟨B + 1 + 1, 2, none⟩ (.int .u32 y2)).setCell ⟨B + 1 + 1, 3, none⟩ (.int .u32 y3)).cell? ⟨B, 0, none⟩ = some (.int .u32 a.d0) ∧ ((((W.setCell ⟨B + 1 + 1, 0, none⟩ (.int .u32 y0)).setCell ⟨B + 1 + 1, 1, none⟩ (.int .u32 y1)).setCell ⟨B + 1 + 1, 2, none⟩ (.int .u32 y2)).setCell ⟨B + 1 + 1, 3, none⟩ (.int .u32 y3)).cell? ⟨B, 1, none⟩ = some (.int .u32 a.d1) ∧ ((((W.setCell ⟨B + 1 + 1, 0, none⟩ (.int .u32 y0)).setCell ⟨B + 1 + 1, 1, none⟩ (.int .u32 y1)).setCell ⟨B + 1 + 1, 2, none⟩ (.int .u32 y2)).setCell ⟨B + 1 + 1, 3, none⟩ (.int .u32 y3)).cell? ⟨B, 2, none⟩ = some (.int .u32 a.d2) ∧ ((((W.setCell ⟨B + 1 + 1, 0, none⟩ (.int .u32 y0)).setCell ⟨B + 1 + 1, 1, none⟩ (.int .u32 y1)).setCell ⟨B + 1 + 1, 2, none⟩ (.int .u32 y2)).setCell ⟨B + 1 + 1, 3, none⟩ (.int .u32 y3)).cell? ⟨B, 3, none⟩ = some (.int .u32 a.d3) ∧ ((((W.setCell ⟨B + 1 + 1, 0, none⟩ (.int .u32 y0)).setCell ⟨B + 1 + 1, 1, none⟩ (.int .u32 y1)).setCell ⟨B + 1 + 1, 2, none⟩ (.int .u32 y2)).setCell ⟨B + 1 + 1, 3, none⟩ (.int .u32 y3)).cell? ⟨B + 1, 0, none⟩ = some (.int .u32 b.d0) ∧ ((((W.setCell ⟨B + 1 + 1, 0, none⟩ (.int .u32 y0)).setCell ⟨B + 1 + 1, 1, none⟩ (.int .u32 y1)).setCell ⟨B + 1 + 1, 2, none⟩ (.int .u32 y2)).setCell ⟨B + 1 + 1, 3, none⟩ (.int .u32 y3)).cell? ⟨B + 1, 1, none⟩ = some (.int .u32 b.d1) ∧ ((((W.setCell ⟨B + 1 + 1, 0, none⟩ (.int .u32 y0)).setCell ⟨B + 1 + 1, 1, none⟩ (.int .u32 y1)).setCell ⟨B + 1 + 1, 2, none⟩ (.int .u32 y2)).setCell ⟨B + 1 + 1, 3, none⟩ (.int .u32 y3)).cell? ⟨B + 1, 2, none⟩ = some (.int .u32 b.d2) ∧ ((((W.setCell ⟨B + 1 + 1, 0, none⟩ (.int .u32 y0)).setCell ⟨B + 1 + 1, 1, none⟩ (.int .u32 y1)).setCell ⟨B + 1 + 1, 2, none⟩ (.int .u32 y2)).setCell ⟨B + 1 + 1, 3, none⟩ (.int .u32 y3)).cell? ⟨B + 1, 3, none⟩ = some (.int .u32 b.d3) := by
  obtain ⟨f0, f1, f2, f3, f4, f5, f6, f7⟩ := f
  have h : Below (B + 1 + 1) W ((((W.setCell ⟨B + 1 + 1, 0, none⟩ (.int .u32 y0)).setCell ⟨B + 1 + 1, 1, none⟩ (.int .u32 y1)).setCell ⟨B + 1 + 1, 2, none⟩ (.int .u32 y2)).setCell ⟨B + 1 + 1, 3, none⟩ (.int .u32 y3)) := below_put4 (Below.refl _ W) (Nat.le_refl _) ⟨y0, y1, y2, y3⟩
  have lt : ∀ {q : Nat} {j : Nat} {v : Value}, q < B + 1 + 1 → W.cell? ⟨q, j, none⟩ = some v → ((((W.setCell ⟨B + 1 + 1, 0, none⟩ (.int .u32 y0)).setCell ⟨B + 1 + 1, 1, none⟩ (.int .u32 y1)).setCell ⟨B + 1 + 1, 2, none⟩ (.int .u32 y2)).setCell ⟨B + 1 + 1, 3, none⟩ (.int .u32 y3)).cell? ⟨q, j, none⟩ = some v := fun {q j v} hq e => by
    rw [h.cell (p := ⟨q, j, none⟩) hq]
    exact e
  exact ⟨lt (by omega) f0, lt (by omega) f1, lt (by omega) f2, lt (by omega) f3, lt (by omega) f4, lt (by omega) f5, lt (by omega) f6, lt (by omega) f7⟩

/-- Two digests boxed, and room for a third one. -/
theorem start444 (a b : D4) (w w0 : World) (h : ((w.alloc (.cells #[.int .u32 a.d0, .int .u32 a.d1, .int .u32 a.d2, .int .u32 a.d3] 24)).alloc (.cells #[.int .u32 b.d0, .int .u32 b.d1, .int .u32 b.d2, .int .u32 b.d3] 24)).alloc (.cells #[.int .u32 0, .int .u32 0, .int .u32 0, .int .u32 0] 24) = w0) :
    Arr .u32 24 w.heap.size a.toL w0 ∧ Arr .u32 24 (w.heap.size + 1) b.toL w0 ∧ Arr .u32 24 (w.heap.size + 1 + 1) [0, 0, 0, 0] w0 ∧ Below w.heap.size w w0 := by
  subst h
  obtain ⟨w1, h1⟩ : ∃ w1, w.alloc (.cells #[.int .u32 a.d0, .int .u32 a.d1, .int .u32 a.d2, .int .u32 a.d3] 24) = w1 := ⟨_, rfl⟩
  have hA1 : Arr .u32 24 w.heap.size a.toL w1 := by rw [← h1]; exact heap_alloc_new w _
  have a1 : w1.heap.size = w.heap.size + 1 := by rw [← h1]; simp
  have B1 : Below w.heap.size w w1 := by rw [← h1]; exact (Below.refl _ _).alloc (Nat.le_refl _) _
  rw [h1]
  obtain ⟨w2, h2⟩ : ∃ w2, w1.alloc (.cells #[.int .u32 b.d0, .int .u32 b.d1, .int .u32 b.d2, .int .u32 b.d3] 24) = w2 := ⟨_, rfl⟩
  have hD2 : Arr .u32 24 w1.heap.size b.toL w2 := by rw [← h2]; exact heap_alloc_new w1 _
  have hA2 : Arr .u32 24 w.heap.size a.toL w2 := by rw [← h2]; exact hA1.al _
  have a2 : w2.heap.size = w.heap.size + 1 + 1 := by rw [← h2]; simp [a1]
  have B2 : Below w.heap.size w w2 := by rw [← h2]; exact B1.alloc (by omega) _
  rw [h2]
  refine ⟨hA2.al _, by rw [← a1]; exact hD2.al _, ?_, B2.alloc (by omega) _⟩
  rw [← a2]
  exact heap_alloc_new w2 _

set_option maxHeartbeats 8000000 in
set_option maxRecDepth 100000 in
theorem cpair_any (a b : D4) (w : World) (ha : a.ok) (hb : b.ok) (hT : TurnsOk w) : Calls Tryd.prog 35 #[a.val, b.val] w fun e w' => e = .returned (pairS a b).val ∧ Below w.heap.size w w' := by
  have HT := Lib.hid hT
  clear hT
  obtain ⟨w0, hw0⟩ : ∃ w0, ((w.alloc (.cells #[.int .u32 a.d0, .int .u32 a.d1, .int .u32 a.d2, .int .u32 a.d3] 24)).alloc (.cells #[.int .u32 b.d0, .int .u32 b.d1, .int .u32 b.d2, .int .u32 b.d3] 24)).alloc (.cells #[.int .u32 0, .int .u32 0, .int .u32 0, .int .u32 0] 24) = w0 := ⟨_, rfl⟩
  obtain ⟨hA, hD, hR, hB⟩ := start444 a b w w0 hw0
  have HW := Lib.hid hw0
  clear hw0
  obtain ⟨y1, hy1⟩ : ∃ y, takeS twoS a = y := ⟨_, rfl⟩
  have hy1o : y1.ok := by rw [← hy1]; exact takeS_ok twoS_ok ha
  obtain ⟨y2, hy2⟩ : ∃ y, takeS y1 b = y := ⟨_, rfl⟩
  have HY : Hid (pairS a b = frontS y2) := by show _ = _; rw [pairS, hy1, hy2]
  have HY1 := Lib.hid hy1
  have HY2 := Lib.hid hy2
  clear hy1 hy2
  go_enter Tryd.func35, Tryd.ntmps35
  simp only [D4.val]
  go_wp2_with fail
  rw [HW.out]
  clear HW
  have hAd : Arr .u32 24 w.heap.size a.toL w0.drew := hA
  have hDd : Arr .u32 24 (w.heap.size + 1) b.toL w0.drew := hD
  have hRd : Arr .u32 24 (w.heap.size + 1 + 1) [0, 0, 0, 0] w0.drew := hR
  have hBd := hB.drew
  have hS0 : w0.drew.cell? ⟨w.heap.size, 0, none⟩ = some (.int .u32 a.d0) ∧ w0.drew.cell? ⟨w.heap.size, 1, none⟩ = some (.int .u32 a.d1) ∧ w0.drew.cell? ⟨w.heap.size, 2, none⟩ = some (.int .u32 a.d2) ∧ w0.drew.cell? ⟨w.heap.size, 3, none⟩ = some (.int .u32 a.d3) ∧ w0.drew.cell? ⟨w.heap.size + 1, 0, none⟩ = some (.int .u32 b.d0) ∧ w0.drew.cell? ⟨w.heap.size + 1, 1, none⟩ = some (.int .u32 b.d1) ∧ w0.drew.cell? ⟨w.heap.size + 1, 2, none⟩ = some (.int .u32 b.d2) ∧ w0.drew.cell? ⟨w.heap.size + 1, 3, none⟩ = some (.int .u32 b.d3) :=
    ⟨hAd.c4.1, hAd.c4.2.1, hAd.c4.2.2.1, hAd.c4.2.2.2, hDd.c4.1, hDd.c4.2.1, hDd.c4.2.2.1, hDd.c4.2.2.2⟩
  have HS0 := Lib.hid hS0
  clear hS0 hA hD hR hB hAd hDd
  go_region_held3 (fun w' => w'.cell? ⟨w.heap.size, 0, none⟩ = some (.int .u32 a.d0) ∧ w'.cell? ⟨w.heap.size, 1, none⟩ = some (.int .u32 a.d1) ∧ w'.cell? ⟨w.heap.size, 2, none⟩ = some (.int .u32 a.d2) ∧ w'.cell? ⟨w.heap.size, 3, none⟩ = some (.int .u32 a.d3) ∧ w'.cell? ⟨w.heap.size + 1, 0, none⟩ = some (.int .u32 b.d0) ∧ w'.cell? ⟨w.heap.size + 1, 1, none⟩ = some (.int .u32 b.d1) ∧ w'.cell? ⟨w.heap.size + 1, 2, none⟩ = some (.int .u32 b.d2) ∧ w'.cell? ⟨w.heap.size + 1, 3, none⟩ = some (.int .u32 b.d3))
    (first | ((with_reducible refine keep8s ?_); assumption) | ((with_reducible refine keep8 hA3 ?_); assumption) | ((with_reducible refine keep8 hA2 ?_); assumption) | ((with_reducible refine keep8 hA1 ?_); assumption) | (with_reducible exact HS0.out))
    (first
      | (go_at_call 39; (with_reducible refine (cfirst_lit y2 _).mono ?_); rintro e w3 ⟨rfl, hA3⟩; have hR3 := hR2.on hA3; have hB3 := hB2.trans (hA3.mono hB2.size); obtain ⟨k0, k1, k2, k3⟩ := Arr.c4 (d := zeroD) hR3; obtain ⟨q0, q1, q2, q3⟩ := hR3.f4)
      | (go_at_call 40; (with_reducible refine (ctake_two y1 a _ ha (HT.out.below hBd) HY1.out).mono ?_); rintro e w1 ⟨rfl, hA1⟩; have hR1 := hRd.on hA1; have hB1 := hBd.trans (hA1.mono hBd.size))
      | (go_at_call 40; (with_reducible refine (ctake_lit y1 y2 b _ hy1o hb (HT.out.below hB1) HY2.out).mono ?_); rintro e w2 ⟨rfl, hA2⟩; have hR2 := hR1.on hA2; have hB2 := hB1.trans (hA2.mono hB1.size)))
  go_wp2_with fail
  have hRf := put4 (d := frontS y2) hR3 rfl
  have hBf := below_put4 hB3 (by omega : w.heap.size ≤ w.heap.size + 1 + 1) (frontS y2)
  simp only [frontS] at hRf hBf
  generalize (((w3.setCell ⟨w.heap.size + 1 + 1, 0, none⟩ (.int .u32 y2.x0)).setCell ⟨w.heap.size + 1 + 1, 1, none⟩ (.int .u32 y2.x1)).setCell ⟨w.heap.size + 1 + 1, 2, none⟩ (.int .u32 y2.x2)).setCell ⟨w.heap.size + 1 + 1, 3, none⟩ (.int .u32 y2.x3) = wf at *
  obtain ⟨r0, r1, r2, r3⟩ := Arr.c4 (d := ⟨y2.x0, y2.x1, y2.x2, y2.x3⟩) hRf
  simp only at r0 r1 r2 r3
  refine bodyPost_ret (v := (frontS y2).val) (by simp [results, Tryd.results35, go_sem, D4.val, frontS, r0, r1, r2, r3]) rfl ⟨by rw [HY.out]; rfl, hBf⟩
end

section
/-! The contract of the document's Pair: the room for the state may come at any time. -/
open Go.RowKit

theorem rtake_two (y : S8) (d : D4) (w : World) (hd : d.ok) (hy : takeS twoS d = y) : Calls Tryd.prog 37 #[.agg #[.int .u32 2, .int .u32 0, .int .u32 0, .int .u32 0, .int .u32 0, .int .u32 0, .int .u32 0, .int .u32 0], .agg #[.int .u32 d.d0, .int .u32 d.d1, .int .u32 d.d2, .int .u32 d.d3]] w fun e w' => e = .returned (.agg #[.int .u32 y.x0, .int .u32 y.x1, .int .u32 y.x2, .int .u32 y.x3, .int .u32 y.x4, .int .u32 y.x5, .int .u32 y.x6, .int .u32 y.x7]) ∧ Below w.heap.size w w' := by
  subst hy
  exact take_any twoS d w twoS_ok hd
theorem rtake_lit (s y : S8) (d : D4) (w : World) (hs : s.ok) (hd : d.ok) (hy : takeS s d = y) : Calls Tryd.prog 37 #[.agg #[.int .u32 s.x0, .int .u32 s.x1, .int .u32 s.x2, .int .u32 s.x3, .int .u32 s.x4, .int .u32 s.x5, .int .u32 s.x6, .int .u32 s.x7], .agg #[.int .u32 d.d0, .int .u32 d.d1, .int .u32 d.d2, .int .u32 d.d3]] w fun e w' => e = .returned (.agg #[.int .u32 y.x0, .int .u32 y.x1, .int .u32 y.x2, .int .u32 y.x3, .int .u32 y.x4, .int .u32 y.x5, .int .u32 y.x6, .int .u32 y.x7]) ∧ Below w.heap.size w w' := by
  subst hy
  exact take_any s d w hs hd
theorem new_after {X w' : World} (h : Below (X.alloc (.cells #[.int .u32 0, .int .u32 0, .int .u32 0, .int .u32 0, .int .u32 0, .int .u32 0, .int .u32 0, .int .u32 0] 56)).heap.size (X.alloc (.cells #[.int .u32 0, .int .u32 0, .int .u32 0, .int .u32 0, .int .u32 0, .int .u32 0, .int .u32 0, .int .u32 0] 56)) w') : Arr .u32 56 X.heap.size [0, 0, 0, 0, 0, 0, 0, 0] w' := by
  unfold Arr
  rw [h.block _ (by simp)]
  exact heap_alloc_new X _
theorem keep8al {a b : D4} {B : Nat} {W : World} {o : Obj} (f : W.cell? ⟨B, 0, none⟩ = some (.int .u32 a.d0) ∧ W.cell? ⟨B, 1, none⟩ = some (.int .u32 a.d1) ∧ W.cell? ⟨B, 2, none⟩ = some (.int .u32 a.d2) ∧ W.cell? ⟨B, 3, none⟩ = some (.int .u32 a.d3) ∧ W.cell? ⟨B + 1, 0, none⟩ = some (.int .u32 b.d0) ∧ W.cell? ⟨B + 1, 1, none⟩ = some (.int .u32 b.d1) ∧ W.cell? ⟨B + 1, 2, none⟩ = some (.int .u32 b.d2) ∧ W.cell? ⟨B + 1, 3, none⟩ = some (.int .u32 b.d3)) : (W.alloc o).cell? ⟨B, 0, none⟩ = some (.int .u32 a.d0) ∧ (W.alloc o).cell? ⟨B, 1, none⟩ = some (.int .u32 a.d1) ∧ (W.alloc o).cell? ⟨B, 2, none⟩ = some (.int .u32 a.d2) ∧ (W.alloc o).cell? ⟨B, 3, none⟩ = some (.int .u32 a.d3) ∧ (W.alloc o).cell? ⟨B + 1, 0, none⟩ = some (.int .u32 b.d0) ∧ (W.alloc o).cell? ⟨B + 1, 1, none⟩ = some (.int .u32 b.d1) ∧ (W.alloc o).cell? ⟨B + 1, 2, none⟩ = some (.int .u32 b.d2) ∧ (W.alloc o).cell? ⟨B + 1, 3, none⟩ = some (.int .u32 b.d3) :=
  keep8 ((Below.refl _ W).alloc (Nat.le_refl _) o) f
theorem keep8al2 {a b : D4} {B : Nat} {W : World} {o o' : Obj} (hg : B + 1 < W.heap.size) (f : (W.alloc o).cell? ⟨B, 0, none⟩ = some (.int .u32 a.d0) ∧ (W.alloc o).cell? ⟨B, 1, none⟩ = some (.int .u32 a.d1) ∧ (W.alloc o).cell? ⟨B, 2, none⟩ = some (.int .u32 a.d2) ∧ (W.alloc o).cell? ⟨B, 3, none⟩ = some (.int .u32 a.d3) ∧ (W.alloc o).cell? ⟨B + 1, 0, none⟩ = some (.int .u32 b.d0) ∧ (W.alloc o).cell? ⟨B + 1, 1, none⟩ = some (.int .u32 b.d1) ∧ (W.alloc o).cell? ⟨B + 1, 2, none⟩ = some (.int .u32 b.d2) ∧ (W.alloc o).cell? ⟨B + 1, 3, none⟩ = some (.int .u32 b.d3)) : (W.alloc o').cell? ⟨B, 0, none⟩ = some (.int .u32 a.d0) ∧ (W.alloc o').cell? ⟨B, 1, none⟩ = some (.int .u32 a.d1) ∧ (W.alloc o').cell? ⟨B, 2, none⟩ = some (.int .u32 a.d2) ∧ (W.alloc o').cell? ⟨B, 3, none⟩ = some (.int .u32 a.d3) ∧ (W.alloc o').cell? ⟨B + 1, 0, none⟩ = some (.int .u32 b.d0) ∧ (W.alloc o').cell? ⟨B + 1, 1, none⟩ = some (.int .u32 b.d1) ∧ (W.alloc o').cell? ⟨B + 1, 2, none⟩ = some (.int .u32 b.d2) ∧ (W.alloc o').cell? ⟨B + 1, 3, none⟩ = some (.int .u32 b.d3) := by
  obtain ⟨f0, f1, f2, f3, f4, f5, f6, f7⟩ := f
  have lt : ∀ {q : Nat} {j : Nat} {v : Value}, q < W.heap.size → (W.alloc o).cell? ⟨q, j, none⟩ = some v → (W.alloc o').cell? ⟨q, j, none⟩ = some v := fun {q j v} hq e => by
    rw [((Below.refl _ W).alloc (Nat.le_refl _) o').cell (p := ⟨q, j, none⟩) hq, ← ((Below.refl _ W).alloc (Nat.le_refl _) o).cell (p := ⟨q, j, none⟩) hq]
    exact e
  exact ⟨lt (by omega) f0, lt (by omega) f1, lt (by omega) f2, lt (by omega) f3, lt (by omega) f4, lt (by omega) f5, lt (by omega) f6, lt (by omega) f7⟩
theorem keep8z {a b : D4} {B g : Nat} {W : World} {y0 y1 y2 y3 y4 y5 y6 y7 : Int} (hg : B + 1 < g) (f : W.cell? ⟨B, 0, none⟩ = some (.int .u32 a.d0) ∧ W.cell? ⟨B, 1, none⟩ = some (.int .u32 a.d1) ∧ W.cell? ⟨B, 2, none⟩ = some (.int .u32 a.d2) ∧ W.cell? ⟨B, 3, none⟩ = some (.int .u32 a.d3) ∧ W.cell? ⟨B + 1, 0, none⟩ = some (.int .u32 b.d0) ∧ W.cell? ⟨B + 1, 1, none⟩ = some (.int .u32 b.d1) ∧ W.cell? ⟨B + 1, 2, none⟩ = some (.int .u32 b.d2) ∧ W.cell? ⟨B + 1, 3, none⟩ = some (.int .u32 b.d3)) : ((((((((W.setCell ⟨g, 0, none⟩ (.int .u32 y0)).setCell ⟨g, 1, none⟩ (.int .u32 y1)).setCell ⟨g, 2, none⟩ (.int .u32 y2)).setCell ⟨g, 3, none⟩ (.int .u32 y3)).setCell ⟨g, 4, none⟩ (.int .u32 y4)).setCell ⟨g, 5, none⟩ (.int .u32 y5)).setCell ⟨g, 6, none⟩ (.int .u32 y6)).setCell ⟨g, 7, none⟩ (.int .u32 y7)).cell? ⟨B, 0, none⟩ = some (.int .u32 a.d0) ∧ ((((((((W.setCell ⟨g, 0, none⟩ (.int .u32 y0)).setCell ⟨g, 1, none⟩ (.int .u32 y1)).setCell ⟨g, 2, none⟩ (.int .u32 y2)).setCell ⟨g, 3, none⟩ (.int .u32 y3)).setCell ⟨g, 4, none⟩ (.int .u32 y4)).setCell ⟨g, 5, none⟩ (.int .u32 y5)).setCell ⟨g, 6, none⟩ (.int .u32 y6)).setCell ⟨g, 7, none⟩ (.int .u32 y7)).cell? ⟨B, 1, none⟩ = some (.int .u32 a.d1) ∧ ((((((((W.setCell ⟨g, 0, none⟩ (.int .u32 y0)).setCell ⟨g, 1, none⟩ (.int .u32 y1)).setCell ⟨g, 2, none⟩ (.int .u32 y2)).setCell ⟨g, 3, none⟩ (.int .u32 y3)).setCell ⟨g, 4, none⟩ (.int .u32 y4)).setCell ⟨g, 5, none⟩ (.int .u32 y5)).setCell ⟨g, 6, none⟩ (.int .u32 y6)).setCell ⟨g, 7, none⟩ (.int .u32 y7)).cell? ⟨B, 2, none⟩ = some (.int .u32 a.d2) ∧ ((((((((W.setCell ⟨g, 0, none⟩ (.int .u32 y0)).setCell ⟨g, 1, none⟩ (.int .u32 y1)).setCell ⟨g, 2, none⟩ (.int .u32 y2)).setCell ⟨g, 3, none⟩ (.int .u32 y3)).setCell ⟨g, 4, none⟩ (.int .u32 y4)).setCell ⟨g, 5, none⟩ (.int .u32 y5)).setCell ⟨g, 6, none⟩ (.int .u32 y6)).setCell ⟨g, 7, none⟩ (.int .u32 y7)).cell? ⟨B, 3, none⟩ = some (.int .u32 a.d3) ∧ ((((((((W.setCell ⟨g, 0, none⟩ (.int .u32 y0)).setCell ⟨g, 1, none⟩ (.int .u32 y1)).setCell ⟨g, 2, none⟩ (.int .u32 y2)).setCell ⟨g, 3, none⟩ (.int .u32 y3)).setCell ⟨g, 4, none⟩ (.int .u32 y4)).setCell ⟨g, 5, none⟩ (.int .u32 y5)).setCell ⟨g, 6, none⟩ (.int .u32 y6)).setCell ⟨g, 7, none⟩ (.int .u32 y7)).cell? ⟨B + 1, 0, none⟩ = some (.int .u32 b.d0) ∧ ((((((((W.setCell ⟨g, 0, none⟩ (.int .u32 y0)).setCell ⟨g, 1, none⟩ (.int .u32 y1)).setCell ⟨g, 2, none⟩ (.int .u32 y2)).setCell ⟨g, 3, none⟩ (.int .u32 y3)).setCell ⟨g, 4, none⟩ (.int .u32 y4)).setCell ⟨g, 5, none⟩ (.int .u32 y5)).setCell ⟨g, 6, none⟩ (.int .u32 y6)).setCell ⟨g, 7, none⟩ (.int .u32 y7)).cell? ⟨B + 1, 1, none⟩ = some (.int .u32 b.d1) ∧ ((((((((W.setCell ⟨g, 0, none⟩ (.int .u32 y0)).setCell ⟨g, 1, none⟩ (.int .u32 y1)).setCell ⟨g, 2, none⟩ (.int .u32 y2)).setCell ⟨g, 3, none⟩ (.int .u32 y3)).setCell ⟨g, 4, none⟩ (.int .u32 y4)).setCell ⟨g, 5, none⟩ (.int .u32 y5)).setCell ⟨g, 6, none⟩ (.int .u32 y6)).setCell ⟨g, 7, none⟩ (.int .u32 y7)).cell? ⟨B + 1, 2, none⟩ = some (.int .u32 b.d2) ∧ ((((((((W.setCell ⟨g, 0, none⟩ (.int .u32 y0)).setCell ⟨g, 1, none⟩ (.int .u32 y1)).setCell ⟨g, 2, none⟩ (.int .u32 y2)).setCell ⟨g, 3, none⟩ (.int .u32 y3)).setCell ⟨g, 4, none⟩ (.int .u32 y4)).setCell ⟨g, 5, none⟩ (.int .u32 y5)).setCell ⟨g, 6, none⟩ (.int .u32 y6)).setCell ⟨g, 7, none⟩ (.int .u32 y7)).cell? ⟨B + 1, 3, none⟩ = some (.int .u32 b.d3) := by
  obtain ⟨f0, f1, f2, f3, f4, f5, f6, f7⟩ := f
  have h : Below g W ((((((((W.setCell ⟨g, 0, none⟩ (.int .u32 y0)).setCell ⟨g, 1, none⟩ (.int .u32 y1)).setCell ⟨g, 2, none⟩ (.int .u32 y2)).setCell ⟨g, 3, none⟩ (.int .u32 y3)).setCell ⟨g, 4, none⟩ (.int .u32 y4)).setCell ⟨g, 5, none⟩ (.int .u32 y5)).setCell ⟨g, 6, none⟩ (.int .u32 y6)).setCell ⟨g, 7, none⟩ (.int .u32 y7)) := below_put8 (Below.refl _ W) (Nat.le_refl _) ⟨y0, y1, y2, y3, y4, y5, y6, y7⟩
  have lt : ∀ {q : Nat} {j : Nat} {v : Value}, q < g → W.cell? ⟨q, j, none⟩ = some v → ((((((((W.setCell ⟨g, 0, none⟩ (.int .u32 y0)).setCell ⟨g, 1, none⟩ (.int .u32 y1)).setCell ⟨g, 2, none⟩ (.int .u32 y2)).setCell ⟨g, 3, none⟩ (.int .u32 y3)).setCell ⟨g, 4, none⟩ (.int .u32 y4)).setCell ⟨g, 5, none⟩ (.int .u32 y5)).setCell ⟨g, 6, none⟩ (.int .u32 y6)).setCell ⟨g, 7, none⟩ (.int .u32 y7)).cell? ⟨q, j, none⟩ = some v := fun {q j v} hq e => by
    rw [h.cell (p := ⟨q, j, none⟩) hq]
    exact e
  exact ⟨lt (by omega) f0, lt (by omega) f1, lt (by omega) f2, lt (by omega) f3, lt (by omega) f4, lt (by omega) f5, lt (by omega) f6, lt (by omega) f7⟩

set_option maxHeartbeats 3000000 in
set_option maxRecDepth 100000 in
theorem rpair_any (a b : D4) (w : World) (ha : a.ok) (hb : b.ok) : Calls Tryd.prog 33 #[a.val, b.val] w fun e w' => e = .returned (pairS a b).val ∧ Below w.heap.size w w' := by
  obtain ⟨w0, hw0⟩ : ∃ w0, ((w.alloc (.cells #[.int .u32 a.d0, .int .u32 a.d1, .int .u32 a.d2, .int .u32 a.d3] 24)).alloc (.cells #[.int .u32 b.d0, .int .u32 b.d1, .int .u32 b.d2, .int .u32 b.d3] 24)).alloc (.cells #[.int .u32 0, .int .u32 0, .int .u32 0, .int .u32 0] 24) = w0 := ⟨_, rfl⟩
  obtain ⟨hA, hD, hR, hB⟩ := start444 a b w w0 hw0
  have HW := Lib.hid hw0
  clear hw0
  obtain ⟨y1, hy1⟩ : ∃ y, takeS twoS a = y := ⟨_, rfl⟩
  have hy1o : y1.ok := by rw [← hy1]; exact takeS_ok twoS_ok ha
  obtain ⟨y2, hy2⟩ : ∃ y, takeS y1 b = y := ⟨_, rfl⟩
  have HY : Hid (pairS a b = frontS y2) := by show _ = _; rw [pairS, hy1, hy2]
  have HY1 := Lib.hid hy1
  have HY2 := Lib.hid hy2
  clear hy1 hy2
  go_enter Tryd.func33, Tryd.ntmps33
  simp only [D4.val]
  go_wp2_with fail
  rw [HW.out]
  clear HW
  have hAd : Arr .u32 24 w.heap.size a.toL w0.drew := hA
  have hDd : Arr .u32 24 (w.heap.size + 1) b.toL w0.drew := hD
  have hRd : Arr .u32 24 (w.heap.size + 1 + 1) [0, 0, 0, 0] w0.drew := hR
  have hBd := hB.drew
  have hS0 : w0.drew.cell? ⟨w.heap.size, 0, none⟩ = some (.int .u32 a.d0) ∧ w0.drew.cell? ⟨w.heap.size, 1, none⟩ = some (.int .u32 a.d1) ∧ w0.drew.cell? ⟨w.heap.size, 2, none⟩ = some (.int .u32 a.d2) ∧ w0.drew.cell? ⟨w.heap.size, 3, none⟩ = some (.int .u32 a.d3) ∧ w0.drew.cell? ⟨w.heap.size + 1, 0, none⟩ = some (.int .u32 b.d0) ∧ w0.drew.cell? ⟨w.heap.size + 1, 1, none⟩ = some (.int .u32 b.d1) ∧ w0.drew.cell? ⟨w.heap.size + 1, 2, none⟩ = some (.int .u32 b.d2) ∧ w0.drew.cell? ⟨w.heap.size + 1, 3, none⟩ = some (.int .u32 b.d3) :=
    ⟨hAd.c4.1, hAd.c4.2.1, hAd.c4.2.2.1, hAd.c4.2.2.2, hDd.c4.1, hDd.c4.2.1, hDd.c4.2.2.1, hDd.c4.2.2.2⟩
  have HS0 := Lib.hid hS0
  obtain ⟨wn, hwn⟩ : ∃ wn, (w0.alloc (.cells #[.int .u32 0, .int .u32 0, .int .u32 0, .int .u32 0, .int .u32 0, .int .u32 0, .int .u32 0, .int .u32 0] 56)).drew = wn := ⟨_, rfl⟩
  have hRn : Arr .u32 24 (w.heap.size + 1 + 1) [0, 0, 0, 0] wn := by rw [← hwn]; exact hR.al _
  have hNn : Arr .u32 56 w0.heap.size [0, 0, 0, 0, 0, 0, 0, 0] wn := by rw [← hwn]; exact heap_alloc_new w0 _
  have hBn : Below w.heap.size w wn := by rw [← hwn]; exact (hB.alloc hB.size _).drew
  have hBdn : Below w0.drew.heap.size w0.drew wn := by rw [← hwn]; exact ((Below.refl _ w0.drew).alloc (Nat.le_refl _) _)
  have HSn := Lib.hid (keep8 hBdn hS0)
  have hz0 : w.heap.size + 1 < w0.heap.size := by have := hR.lt; omega
  have hzz0 : w.heap.size + 1 + 1 ≠ w0.heap.size := Nat.ne_of_lt hR.lt
  clear hBdn
  clear hS0 hA hD hR hB hAd hDd
  go_region_held3 (fun w' => w'.cell? ⟨w.heap.size, 0, none⟩ = some (.int .u32 a.d0) ∧ w'.cell? ⟨w.heap.size, 1, none⟩ = some (.int .u32 a.d1) ∧ w'.cell? ⟨w.heap.size, 2, none⟩ = some (.int .u32 a.d2) ∧ w'.cell? ⟨w.heap.size, 3, none⟩ = some (.int .u32 a.d3) ∧ w'.cell? ⟨w.heap.size + 1, 0, none⟩ = some (.int .u32 b.d0) ∧ w'.cell? ⟨w.heap.size + 1, 1, none⟩ = some (.int .u32 b.d1) ∧ w'.cell? ⟨w.heap.size + 1, 2, none⟩ = some (.int .u32 b.d2) ∧ w'.cell? ⟨w.heap.size + 1, 3, none⟩ = some (.int .u32 b.d3))
    (first | ((with_reducible refine keep8z ?_ ?_) <;> assumption) | ((with_reducible refine keep8al ?_); assumption) | ((with_reducible refine keep8al2 (o := .cells #[.int .u32 0, .int .u32 0, .int .u32 0, .int .u32 0, .int .u32 0, .int .u32 0, .int .u32 0, .int .u32 0] 56) ?_ ?_) <;> assumption) | ((with_reducible refine keep8 hA2 ?_); assumption) | ((with_reducible refine keep8 hA1 ?_); assumption) | (with_reducible exact HS0.out) | (with_reducible exact HSn.out))
    (first
      | (go_at_call 37; (with_reducible refine (rtake_two y1 a _ ha HY1.out).mono ?_); rintro e w1 ⟨rfl, hA1⟩; (first | (with_reducible have hR1 := hRd.on hA1) | (with_reducible have hR1 := hRn.on hA1)); (first | (with_reducible have hB1 := hBd.trans (hA1.mono hBd.size)) | (with_reducible have hB1 := hBn.trans (hA1.mono hBn.size))); (try (with_reducible have hN1 := hNn.on hA1)); have hz1 : w.heap.size + 1 < w1.heap.size := Nat.lt_of_succ_lt hR1.lt; have hzz1 : w.heap.size + 1 + 1 ≠ w1.heap.size := Nat.ne_of_lt hR1.lt)
      | (go_at_call 37; (with_reducible refine (rtake_lit y1 y2 b _ hy1o hb HY2.out).mono ?_); rintro e w2 ⟨rfl, hA2⟩; (first | (with_reducible have hR2 := hR1.on hA2) | (with_reducible have hR2 := (hR1.al _).on hA2)); (first | (with_reducible have hB2 := hB1.trans (hA2.mono hB1.size)) | (with_reducible have hB2 := (hB1.alloc hB1.size _).trans (hA2.mono (hB1.alloc hB1.size _).size))); (try (with_reducible have hN2 := hN1.on hA2)); (try (with_reducible have hN2 := new_after hA2)); (try (obtain ⟨k0, k1, k2, k3, k4, k5, k6, k7⟩ := Arr.c8 (y := zeroS) hN2; obtain ⟨q0, q1, q2, q3, q4, q5, q6, q7⟩ := hN2.f8)); have hz2 : w.heap.size + 1 < w2.heap.size := Nat.lt_of_succ_lt hR2.lt; have hzz2 : w.heap.size + 1 + 1 ≠ w2.heap.size := Nat.ne_of_lt hR2.lt))
  · have hNf : Arr .u32 56 w2.heap.size y2.toL (w2.alloc (.cells #[.int .u32 y2.x0, .int .u32 y2.x1, .int .u32 y2.x2, .int .u32 y2.x3, .int .u32 y2.x4, .int .u32 y2.x5, .int .u32 y2.x6, .int .u32 y2.x7] 56)) := heap_alloc_new w2 _
    have hRf := hR2.al (.cells #[.int .u32 y2.x0, .int .u32 y2.x1, .int .u32 y2.x2, .int .u32 y2.x3, .int .u32 y2.x4, .int .u32 y2.x5, .int .u32 y2.x6, .int .u32 y2.x7] 56)
    have hBf := hB2.alloc hB2.size (.cells #[.int .u32 y2.x0, .int .u32 y2.x1, .int .u32 y2.x2, .int .u32 y2.x3, .int .u32 y2.x4, .int .u32 y2.x5, .int .u32 y2.x6, .int .u32 y2.x7] 56)
    generalize w2.alloc (.cells #[.int .u32 y2.x0, .int .u32 y2.x1, .int .u32 y2.x2, .int .u32 y2.x3, .int .u32 y2.x4, .int .u32 y2.x5, .int .u32 y2.x6, .int .u32 y2.x7] 56) = wf at *
    obtain ⟨t0, t1, t2, t3, _, _, _, _⟩ := hNf.c8
    obtain ⟨b0, b1, b2, b3⟩ := Arr.c4 (d := zeroD) hRf
    obtain ⟨f0, f1, f2, f3⟩ := hRf.f4
    have hRg := put4 (d := frontS y2) hRf rfl
    have hBg := below_put4 hBf (by omega : w.heap.size ≤ w.heap.size + 1 + 1) (frontS y2)
    go_wp2_with fail
    simp only [frontS] at hRg hBg
    generalize (((wf.setCell ⟨w.heap.size + 1 + 1, 0, none⟩ (.int .u32 y2.x0)).setCell ⟨w.heap.size + 1 + 1, 1, none⟩ (.int .u32 y2.x1)).setCell ⟨w.heap.size + 1 + 1, 2, none⟩ (.int .u32 y2.x2)).setCell ⟨w.heap.size + 1 + 1, 3, none⟩ (.int .u32 y2.x3) = wg at *
    obtain ⟨r0, r1, r2, r3⟩ := Arr.c4 (d := ⟨y2.x0, y2.x1, y2.x2, y2.x3⟩) hRg
    simp only at r0 r1 r2 r3
    refine bodyPost_ret (v := (frontS y2).val) (by simp [results, Tryd.results33, go_sem, D4.val, frontS, r0, r1, r2, r3]) rfl ⟨by rw [HY.out]; rfl, hBg⟩
  · have hNf := put8 (y := y2) hN2 rfl
    have hRf := far8 hR2 hzz1 y2
    have hBf := below_put8 hB2 hB1.size y2
    generalize ((((((((w2.setCell ⟨w1.heap.size, 0, none⟩ (.int .u32 y2.x0)).setCell ⟨w1.heap.size, 1, none⟩ (.int .u32 y2.x1)).setCell ⟨w1.heap.size, 2, none⟩ (.int .u32 y2.x2)).setCell ⟨w1.heap.size, 3, none⟩ (.int .u32 y2.x3)).setCell ⟨w1.heap.size, 4, none⟩ (.int .u32 y2.x4)).setCell ⟨w1.heap.size, 5, none⟩ (.int .u32 y2.x5)).setCell ⟨w1.heap.size, 6, none⟩ (.int .u32 y2.x6)).setCell ⟨w1.heap.size, 7, none⟩ (.int .u32 y2.x7)) = wf at *
    obtain ⟨t0, t1, t2, t3, _, _, _, _⟩ := hNf.c8
    obtain ⟨b0, b1, b2, b3⟩ := Arr.c4 (d := zeroD) hRf
    obtain ⟨f0, f1, f2, f3⟩ := hRf.f4
    have hRg := put4 (d := frontS y2) hRf rfl
    have hBg := below_put4 hBf (by omega : w.heap.size ≤ w.heap.size + 1 + 1) (frontS y2)
    go_wp2_with fail
    simp only [frontS] at hRg hBg
    generalize (((wf.setCell ⟨w.heap.size + 1 + 1, 0, none⟩ (.int .u32 y2.x0)).setCell ⟨w.heap.size + 1 + 1, 1, none⟩ (.int .u32 y2.x1)).setCell ⟨w.heap.size + 1 + 1, 2, none⟩ (.int .u32 y2.x2)).setCell ⟨w.heap.size + 1 + 1, 3, none⟩ (.int .u32 y2.x3) = wg at *
    obtain ⟨r0, r1, r2, r3⟩ := Arr.c4 (d := ⟨y2.x0, y2.x1, y2.x2, y2.x3⟩) hRg
    simp only at r0 r1 r2 r3
    refine bodyPost_ret (v := (frontS y2).val) (by simp [results, Tryd.results33, go_sem, D4.val, frontS, r0, r1, r2, r3]) rfl ⟨by rw [HY.out]; rfl, hBg⟩
  · have hNf := put8 (y := y2) hN2 rfl
    have hRf := far8 hR2 hzz0 y2
    have hBf := below_put8 hB2 (show w.heap.size ≤ w0.heap.size by omega) y2
    generalize ((((((((w2.setCell ⟨w0.heap.size, 0, none⟩ (.int .u32 y2.x0)).setCell ⟨w0.heap.size, 1, none⟩ (.int .u32 y2.x1)).setCell ⟨w0.heap.size, 2, none⟩ (.int .u32 y2.x2)).setCell ⟨w0.heap.size, 3, none⟩ (.int .u32 y2.x3)).setCell ⟨w0.heap.size, 4, none⟩ (.int .u32 y2.x4)).setCell ⟨w0.heap.size, 5, none⟩ (.int .u32 y2.x5)).setCell ⟨w0.heap.size, 6, none⟩ (.int .u32 y2.x6)).setCell ⟨w0.heap.size, 7, none⟩ (.int .u32 y2.x7)) = wf at *
    obtain ⟨t0, t1, t2, t3, _, _, _, _⟩ := hNf.c8
    obtain ⟨b0, b1, b2, b3⟩ := Arr.c4 (d := zeroD) hRf
    obtain ⟨f0, f1, f2, f3⟩ := hRf.f4
    have hRg := put4 (d := frontS y2) hRf rfl
    have hBg := below_put4 hBf (by omega : w.heap.size ≤ w.heap.size + 1 + 1) (frontS y2)
    go_wp2_with fail
    simp only [frontS] at hRg hBg
    generalize (((wf.setCell ⟨w.heap.size + 1 + 1, 0, none⟩ (.int .u32 y2.x0)).setCell ⟨w.heap.size + 1 + 1, 1, none⟩ (.int .u32 y2.x1)).setCell ⟨w.heap.size + 1 + 1, 2, none⟩ (.int .u32 y2.x2)).setCell ⟨w.heap.size + 1 + 1, 3, none⟩ (.int .u32 y2.x3) = wg at *
    obtain ⟨r0, r1, r2, r3⟩ := Arr.c4 (d := ⟨y2.x0, y2.x1, y2.x2, y2.x3⟩) hRg
    simp only at r0 r1 r2 r3
    refine bodyPost_ret (v := (frontS y2).val) (by simp [results, Tryd.results33, go_sem, D4.val, frontS, r0, r1, r2, r3]) rfl ⟨by rw [HY.out]; rfl, hBg⟩
end

section
/-! Whole states and whole digests, held against each other. -/
open Go.RowKit

def sameD (c d : D4) : Bool := c.d0 == d.d0 && (c.d1 == d.d1 && (c.d2 == d.d2 && c.d3 == d.d3))
def sameS (c d : S8) : Bool := c.x0 == d.x0 && (c.x1 == d.x1 && (c.x2 == d.x2 && (c.x3 == d.x3 && (c.x4 == d.x4 && (c.x5 == d.x5 && (c.x6 == d.x6 && c.x7 == d.x7))))))
theorem sameD_iff (c d : D4) : sameD c d = true ↔ c = d := by
  cases c; cases d
  simp [sameD]
theorem sameS_iff (c d : S8) : sameS c d = true ↔ c = d := by
  cases c; cases d
  simp [sameS]
theorem eqD_run (c d : D4) (w : World) : Sem.run Tryd.prog (Op.equalIn 10000 24 (.agg #[.int .u32 c.d0, .int .u32 c.d1, .int .u32 c.d2, .int .u32 c.d3]) (.agg #[.int .u32 d.d0, .int .u32 d.d1, .int .u32 d.d2, .int .u32 d.d3])) w = Result.ok (sameD c d) w := by
  obtain ⟨i, hi, _⟩ := info_parts (show (Tryd.prog.info? 22).map (fun i => (i.zero, i.size, i.bytes)) = some (some (.int .u32 0), 1, 4) by kernel_rfl)
  rw [run_equalIn_array (P := Tryd.prog) (w := w) 9999 _ _ Tryd.underlying24 hi]
  rw [show Tryd.prog.cellsOf 22 = 1 by kernel_rfl]
  simp [Op.eqItems, List.range, List.range.loop, go_sem, part]
  unfold sameD
  repeat' split
  all_goals simp_all
theorem eqD_yes (d : D4) (w : World) : Sem.run Tryd.prog (Op.equalIn 10000 24 (.agg #[.int .u32 d.d0, .int .u32 d.d1, .int .u32 d.d2, .int .u32 d.d3]) (.agg #[.int .u32 d.d0, .int .u32 d.d1, .int .u32 d.d2, .int .u32 d.d3])) w = Result.ok true w := by
  rw [eqD_run, (sameD_iff d d).mpr rfl]
theorem eqS_run (c d : S8) (w : World) : Sem.run Tryd.prog (Op.equalIn 10000 56 (.agg #[.int .u32 c.x0, .int .u32 c.x1, .int .u32 c.x2, .int .u32 c.x3, .int .u32 c.x4, .int .u32 c.x5, .int .u32 c.x6, .int .u32 c.x7]) (.agg #[.int .u32 d.x0, .int .u32 d.x1, .int .u32 d.x2, .int .u32 d.x3, .int .u32 d.x4, .int .u32 d.x5, .int .u32 d.x6, .int .u32 d.x7])) w = Result.ok (sameS c d) w := by
  obtain ⟨i, hi, _⟩ := info_parts (show (Tryd.prog.info? 22).map (fun i => (i.zero, i.size, i.bytes)) = some (some (.int .u32 0), 1, 4) by kernel_rfl)
  rw [run_equalIn_array (P := Tryd.prog) (w := w) 9999 _ _ Tryd.underlying56 hi]
  rw [show Tryd.prog.cellsOf 22 = 1 by kernel_rfl]
  simp [Op.eqItems, List.range, List.range.loop, go_sem, part]
  unfold sameS
  repeat' split
  all_goals simp_all
theorem eqS_yes (d : S8) (w : World) : Sem.run Tryd.prog (Op.equalIn 10000 56 (.agg #[.int .u32 d.x0, .int .u32 d.x1, .int .u32 d.x2, .int .u32 d.x3, .int .u32 d.x4, .int .u32 d.x5, .int .u32 d.x6, .int .u32 d.x7]) (.agg #[.int .u32 d.x0, .int .u32 d.x1, .int .u32 d.x2, .int .u32 d.x3, .int .u32 d.x4, .int .u32 d.x5, .int .u32 d.x6, .int .u32 d.x7])) w = Result.ok true w := by
  rw [eqS_run, (sameS_iff d d).mpr rfl]
theorem eqS_no {c d : S8} (h : c ≠ d) (w : World) : Sem.run Tryd.prog (Op.equalIn 10000 56 (.agg #[.int .u32 c.x0, .int .u32 c.x1, .int .u32 c.x2, .int .u32 c.x3, .int .u32 c.x4, .int .u32 c.x5, .int .u32 c.x6, .int .u32 c.x7]) (.agg #[.int .u32 d.x0, .int .u32 d.x1, .int .u32 d.x2, .int .u32 d.x3, .int .u32 d.x4, .int .u32 d.x5, .int .u32 d.x6, .int .u32 d.x7])) w = Result.ok false w := by
  rw [eqS_run]
  cases q : sameS c d with
  | false => rfl
  | true => exact absurd ((sameS_iff c d).mp q) h
end

end Go.Proofs.YtkgkmpelclmllaaDoor
