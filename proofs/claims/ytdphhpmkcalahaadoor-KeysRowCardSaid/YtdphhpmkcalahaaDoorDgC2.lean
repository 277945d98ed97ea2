/-
  Layer 3, as later layers want it: Pair and Of, of the document and of the code; digests compared.
-/
import Derived.Test.YtdphhpmkcalahaaDoorDgC1
import Derived.Deep.RegionHeld3
import Derived.Test.YtdphhpmkcalahaaDoorWdC
import Derived.Lib.SmallJoins
import Derived.Laws.Cover3
import Derived.StillTailTactics
import Derived.Deep.LoopGhost
import Derived.Deep.AppendLies
import Derived.ChangeKeysEq
namespace Go.Proofs.YtdphhpmkcalahaaDoor

section
/-! The contract of the code's Pair. -/
open Go.RowKit

def twoS : S8 := ⟨2, 0, 0, 0, 0, 0, 0, 0⟩
theorem twoS_ok : twoS.ok := by simp [S8.ok, twoS, isW]
def pairS (a b : D4) : D4 := frontS (takeS (takeS twoS a) b)
theorem pairS_ok {a b : D4} (ha : a.ok) (hb : b.ok) : (pairS a b).ok := frontS_ok (takeS_ok (takeS_ok twoS_ok ha) hb)

/-- The calls of take and first as Pair makes them; the answers named. -/
theorem ctake_two (y : S8) (d : D4) (w : World) (hd : d.ok) (hT : TurnsOk w) (hy : takeS twoS d = y) : Calls Tryd.prog 69 #[.agg #[.int .u32 2, .int .u32 0, .int .u32 0, .int .u32 0, .int .u32 0, .int .u32 0, .int .u32 0, .int .u32 0], .agg #[.int .u32 d.d0, .int .u32 d.d1, .int .u32 d.d2, .int .u32 d.d3]] w fun e w' => e = .returned (.agg #[.int .u32 y.x0, .int .u32 y.x1, .int .u32 y.x2, .int .u32 y.x3, .int .u32 y.x4, .int .u32 y.x5, .int .u32 y.x6, .int .u32 y.x7]) ∧ Below w.heap.size w w' := by
  subst hy
  exact ctake_any twoS d w twoS_ok hd hT
theorem ctake_lit (s y : S8) (d : D4) (w : World) (hs : s.ok) (hd : d.ok) (hT : TurnsOk w) (hy : takeS s d = y) : Calls Tryd.prog 69 #[.agg #[.int .u32 s.x0, .int .u32 s.x1, .int .u32 s.x2, .int .u32 s.x3, .int .u32 s.x4, .int .u32 s.x5, .int .u32 s.x6, .int .u32 s.x7], .agg #[.int .u32 d.d0, .int .u32 d.d1, .int .u32 d.d2, .int .u32 d.d3]] w fun e w' => e = .returned (.agg #[.int .u32 y.x0, .int .u32 y.x1, .int .u32 y.x2, .int .u32 y.x3, .int .u32 y.x4, .int .u32 y.x5, .int .u32 y.x6, .int .u32 y.x7]) ∧ Below w.heap.size w w' := by
  subst hy
  exact ctake_any s d w hs hd hT
theorem cfirst_lit (s : S8) (w : World) : Calls Tryd.prog 66 #[.agg #[.int .u32 s.x0, .int .u32 s.x1, .int .u32 s.x2, .int .u32 s.x3, .int .u32 s.x4, .int .u32 s.x5, .int .u32 s.x6, .int .u32 s.x7]] w fun e w' => e = .returned (.agg #[.int .u32 s.x0, .int .u32 s.x1, .int .u32 s.x2, .int .u32 s.x3]) ∧ Below w.heap.size w w' := cfirst_any s w

theorem cell_lt {W : World} {q j : Nat} {v : Value} (e : W.cell? ⟨q, j, none⟩ = some v) : q < W.heap.size := by
  rcases Nat.lt_or_ge q W.heap.size with x | x
  · exact x
  · simp [World.cell?, Array.getElem?_eq_none x] at e
theorem keep8 {a b : D4} {B : Nat} {W w' : World} (h : Below W.heap.size W w') (f : W.cell? ⟨B, 0, none⟩ = some (.int .u32 a.d0) ∧ W.cell? ⟨B, 1, none⟩ = some (.int .u32 a.d1) ∧ W.cell? ⟨B, 2, none⟩ = some (.int .u32 a.d2) ∧ W.cell? ⟨B, 3, none⟩ = some (.int .u32 a.d3) ∧ W.cell? ⟨B + 1, 0, none⟩ = some (.int .u32 b.d0) ∧ W.cell? ⟨B + 1, 1, none⟩ = some (.int .u32 b.d1) ∧ W.cell? ⟨B + 1, 2, none⟩ = some (.int .u32 b.d2) ∧ W.cell? ⟨B + 1, 3, none⟩ = some (.int .u32 b.d3)) : w'.cell? ⟨B, 0, none⟩ = some (.int .u32 a.d0) ∧ w'.cell? ⟨B, 1, none⟩ = some (.int .u32 a.d1) ∧ w'.cell? ⟨B, 2, none⟩ = some (.int .u32 a.d2) ∧ w'.cell? ⟨B, 3, none⟩ = some (.int .u32 a.d3) ∧ w'.cell? ⟨B + 1, 0, none⟩ = some (.int .u32 b.d0) ∧ w'.cell? ⟨B + 1, 1, none⟩ = some (.int .u32 b.d1) ∧ w'.cell? ⟨B + 1, 2, none⟩ = some (.int .u32 b.d2) ∧ w'.cell? ⟨B + 1, 3, none⟩ = some (.int .u32 b.d3) := by
  obtain ⟨f0, f1, f2, f3, f4, f5, f6, f7⟩ := f
  have lt : ∀ {q : Nat} {j : Nat} {v : Value}, W.cell? ⟨q, j, none⟩ = some v → w'.cell? ⟨q, j, none⟩ = some v := fun {q j v} e => by
    rw [h.cell (p := ⟨q, j, none⟩) (cell_lt e)]
    exact e
  exact ⟨lt f0, lt f1, lt f2, lt f3, lt f4, lt f5, lt f6, lt f7⟩

theorem keep8s {a b : D4} {B : Nat} {W : World} {y0 y1 y2 y3 : Int} (f : W.cell? ⟨B, 0, none⟩ = some (.int .u32 a.d0) ∧ W.cell? ⟨B, 1, none⟩ = some (.int .u32 a.d1) ∧ W.cell? ⟨B, 2, none⟩ = some (.int .u32 a.d2) ∧ W.cell? ⟨B, 3, none⟩ = some (.int .u32 a.d3) ∧ W.cell? ⟨B + 1, 0, none⟩ = some (.int .u32 b.d0) ∧ W.cell? ⟨B + 1, 1, none⟩ = some (.int .u32 b.d1) ∧ W.cell? ⟨B + 1, 2, none⟩ = some (.int .u32 b.d2) ∧ W.cell? ⟨B + 1, 3, none⟩ = some (.int .u32 b.d3)) : ((((W.setCell ⟨B + 1 + 1, 0, none⟩ (.int .u32 y0)).setCell ⟨B + 1 + 1, 1, none⟩ (.int .u32 y1)).setCell ⟨B + 1 + 1, 2, none⟩ (.int .u32 y2)).setCell ⟨B + 1 + 1, 3, none⟩ (.int .u32 y3)).cell? ⟨B, 0, none⟩ = some (.int .u32 a.d0) ∧ ((((W.setCell ⟨B + 1 + 1, 0, none⟩ (.int .u32 y0)).setCell ⟨B + 1 + 1, 1, none⟩ (.int .u32 y1)).setCell ⟨B + 1 + 1, 2, none⟩ (.int .u32 y2)).setCell ⟨B + 1 + 1, 3, none⟩ (.int .u32 y3)).cell? ⟨B, 1, none⟩ = some (.int .u32 a.d1) ∧ ((((W.setCell ⟨B + 1 + 1, 0, none⟩ (.int .u32 y0)).setCell ⟨B + 1 + 1, 1, none⟩ (.int .u32 y1)).setCell ⟨B + 1 + 1, 2, none⟩ (.int .u32 y2)).setCell ⟨B + 1 + 1, 3, none⟩ (.int .u32 y3)).cell? ⟨B, 2, none⟩ = some (.int .u32 a.d2) ∧ ((((W.setCell ⟨B + 1 + 1, 0, none⟩ (.int .u32 y0)).setCell ⟨B + 1 + 1, 1, none⟩ (.int .u32 y1)).setCell ⟨B + 1 + 1, 2, none⟩ (.int .u32 y2)).setCell ⟨B + 1 + 1, 3, none⟩ (.int .u32 y3)).cell? ⟨B, 3, none⟩ = some (.int .u32 a.d3) ∧ ((((W.setCell ⟨B + 1 + 1, 0, none⟩ (.int .u32 y0)).setCell ⟨B + 1 + 1, 1, none⟩ (.int .u32 y1)).setCell ⟨B + 1 + 1, 2, none⟩ (.int .u32 y2)).setCell ⟨B + 1 + 1, 3, none⟩ (.int .u32 y3)).cell? ⟨B + 1, 0, none⟩ = some (.int .u32 b.d0) ∧ ((((W.setCell ⟨B + 1 + 1, 0, none⟩ (.int .u32 y0)).setCell ⟨B + 1 + 1, 1, none⟩ (.int .u32 y1)).setCell ⟨B + 1 + 1, 2, none⟩ (.int .u32 y2)).setCell ⟨B + 1 + 1, 3, none⟩ (.int .u32 y3)).cell? ⟨B + 1, 1, none⟩ = some (.int .u32 b.d1) ∧ ((((W.setCell ⟨B + 1 + 1, 0, none⟩ (.int .u32 y0)).setCell ⟨B + 1 + 1, 1, none⟩ (.int .u32 y1)).setCell ⟨B + 1 + 1, 2, none⟩ (.int .u32 y2)).setCell ⟨B + 1 + 1, 3, none⟩ (.int .u32 y3)).cell? ⟨B + 1, 2, none⟩ = some (.int .u32 b.d2) ∧ ((((W.setCell ⟨B + 1 + 1, 0, none⟩ (.int .u32 y0)).setCell ⟨B + 1 + 1, 1, none⟩ (.int .u32 y1)).setCell ⟨B + 1 + 1, 2, none⟩ (.int .u32 y2)).setCell ⟨B + 1 + 1, 3, none⟩ (.int .u32 y3)).cell? ⟨B + 1, 3, none⟩ = some (.int .u32 b.d3) := by
  obtain ⟨f0, f1, f2, f3, f4, f5, f6, f7⟩ := f
  have h : Below (B + 1 + 1) W ((((W.setCell ⟨B + 1 + 1, 0, none⟩ (.int .u32 y0)).setCell ⟨B + 1 + 1, 1, none⟩ (.int .u32 y1)).setCell ⟨B + 1 + 1, 2, none⟩ (.int .u32 y2)).setCell ⟨B + 1 + 1, 3, none⟩ (.int .u32 y3)) := below_put4 (Below.refl _ W) (Nat.le_refl _) ⟨y0, y1, y2, y3⟩
  have lt : ∀ {q : Nat} {j : Nat} {v : Value}, q < B + 1 + 1 → W.cell? ⟨q, j, none⟩ = some v → ((((W.setCell ⟨B + 1 + 1, 0, none⟩ (.int .u32 y0)).setCell ⟨B + 1 + 1, 1, none⟩ (.int .u32 y1)).setCell ⟨B + 1 + 1, 2, none⟩ (.int .u32 y2)).setCell ⟨B + 1 + 1, 3, none⟩ (.int .u32 y3)).cell? ⟨q, j, none⟩ = some v := fun {q j v} hq e => by
    rw [h.cell (p := ⟨q, j, none⟩) hq]
    exact e
  exact ⟨lt (by omega) f0, lt (by omega) f1, lt (by omega) f2, lt (by omega) f3, lt (by omega) f4, lt (by omega) f5, lt (by omega) f6, lt (by omega) f7⟩

/-- Two digests boxed, and room for a third one. -/
theorem start444 (a b : D4) (w w0 : World) (h : ((w.alloc (.cells #[.int .u32 a.d0, .int .u32 a.d1, .int .u32 a.d2, .int .u32 a.d3] 24)).alloc (.cells #[.int .u32 b.d0, .int .u32 b.d1, .int .u32 b.d2, .int .u32 b.d3] 24)).alloc (.cells #[.int .u32 0, .int .u32 0, .int .u32 0, .int .u32 0] 24) = w0) :
    Arr .u32 24 w.heap.size a.toL w0 ∧ Arr .u32 24 (w.heap.size + 1) b.toL w0 ∧ Arr .u32 24 (w.heap.size + 1 + 1) [0, 0, 0, 0] w0 ∧ Below w.heap.size w w0 := by
  subst h
  obtain ⟨w1, h1⟩ : ∃ w1, w.alloc (.cells #[.int .u32 a.d0, .int .u32 a.d1, .int .u32 a.d2, .int .u32 a.d3] 24) = w1 := ⟨_, rfl⟩
  have hA1 : Arr .u32 24 w.heap.size a.toL w1 := by rw [← h1]; exact heap_alloc_new w _
  have a1 : w1.heap.size = w.heap.size + 1 := by rw [← h1]; simp
  have B1 : Below w.heap.size w w1 := by rw [← h1]; exact (Below.refl _ _).alloc (Nat.le_refl _) _
  rw [h1]
  obtain ⟨w2, h2⟩ : ∃ w2, w1.alloc (.cells #[.int .u32 b.d0, .int .u32 b.d1, .int .u32 b.d2, .int .u32 b.d3] 24) = w2 := ⟨_, rfl⟩
  have hD2 : Arr .u32 24 w1.heap.size b.toL w2 := by rw [← h2]; exact heap_alloc_new w1 _
  have hA2 : Arr .u32 24 w.heap.size a.toL w2 := by rw [← h2]; exact hA1.al _
  have a2 : w2.heap.size = w.heap.size + 1 + 1 := by rw [← h2]; simp [a1]
  have B2 : Below w.heap.size w w2 := by rw [← h2]; exact B1.alloc (by omega) _
  rw [h2]
  refine ⟨hA2.al _, by rw [← a1]; exact hD2.al _, ?_, B2.alloc (by omega) _⟩
  rw [← a2]
  exact heap_alloc_new w2 _

set_option maxHeartbeats 8000000 in
set_option maxRecDepth 100000 in
theorem cpair_any (a b : D4) (w : World) (ha : a.ok) (hb : b.ok) (hT : TurnsOk w) : Calls Tryd.prog 48 #[a.val, b.val] w fun e w' => e = .returned (pairS a b).val ∧ Below w.heap.size w w' := by
  have HT := Lib.hid hT
  clear hT
  obtain ⟨w0, hw0⟩ : ∃ w0, ((w.alloc (.cells #[.int .u32 a.d0, .int .u32 a.d1, .int .u32 a.d2, .int .u32 a.d3] 24)).alloc (.cells #[.int .u32 b.d0, .int .u32 b.d1, .int .u32 b.d2, .int .u32 b.d3] 24)).alloc (.cells #[.int .u32 0, .int .u32 0, .int .u32 0, .int .u32 0] 24) = w0 := ⟨_, rfl⟩
  obtain ⟨hA, hD, hR, hB⟩ := start444 a b w w0 hw0
  have HW := Lib.hid hw0
  clear hw0
  obtain ⟨y1, hy1⟩ : ∃ y, takeS twoS a = y := ⟨_, rfl⟩
  have hy1o : y1.ok := by rw [← hy1]; exact takeS_ok twoS_ok ha
  obtain ⟨y2, hy2⟩ : ∃ y, takeS y1 b = y := ⟨_, rfl⟩
  have HY : Hid (pairS a b = frontS y2) := by show _ = _; rw [pairS, hy1, hy2]
  have HY1 := Lib.hid hy1
  have HY2 := Lib.hid hy2
  clear hy1 hy2
  go_enter Tryd.func48, Tryd.ntmps48
  simp only [D4.val]
  go_wp2_with fail
  rw [HW.out]
  clear HW
  have hAd : Arr .u32 24 w.heap.size a.toL w0.drew := hA
  have hDd : Arr .u32 24 (w.heap.size + 1) b.toL w0.drew := hD
  have hRd : Arr .u32 24 (w.heap.size + 1 + 1) [0, 0, 0, 0] w0.drew := hR
  have hBd := hB.drew
  have hS0 : w0.drew.cell? ⟨w.heap.size, 0, none⟩ = some (.int .u32 a.d0) ∧ w0.drew.cell? ⟨w.heap.size, 1, none⟩ = some (.int .u32 a.d1) ∧ w0.drew.cell? ⟨w.heap.size, 2, none⟩ = some (.int .u32 a.d2) ∧ w0.drew.cell? ⟨w.heap.size, 3, none⟩ = some (.int .u32 a.d3) ∧ w0.drew.cell? ⟨w.heap.size + 1, 0, none⟩ = some (.int .u32 b.d0) ∧ w0.drew.cell? ⟨w.heap.size + 1, 1, none⟩ = some (.int .u32 b.d1) ∧ w0.drew.cell? ⟨w.heap.size + 1, 2, none⟩ = some (.int .u32 b.d2) ∧ w0.drew.cell? ⟨w.heap.size + 1, 3, none⟩ = some (.int .u32 b.d3) :=
    ⟨hAd.c4.1, hAd.c4.2.1, hAd.c4.2.2.1, hAd.c4.2.2.2, hDd.c4.1, hDd.c4.2.1, hDd.c4.2.2.1, hDd.c4.2.2.2⟩
  have HS0 := Lib.hid hS0
  clear hS0 hA hD hR hB hAd hDd
  go_region_held3 (fun w' => w'.cell? ⟨w.heap.size, 0, none⟩ = some (.int .u32 a.d0) ∧ w'.cell? ⟨w.heap.size, 1, none⟩ = some (.int .u32 a.d1) ∧ w'.cell? ⟨w.heap.size, 2, none⟩ = some (.int .u32 a.d2) ∧ w'.cell? ⟨w.heap.size, 3, none⟩ = some (.int .u32 a.d3) ∧ w'.cell? ⟨w.heap.size + 1, 0, none⟩ = some (.int .u32 b.d0) ∧ w'.cell? ⟨w.heap.size + 1, 1, none⟩ = some (.int .u32 b.d1) ∧ w'.cell? ⟨w.heap.size + 1, 2, none⟩ = some (.int .u32 b.d2) ∧ w'.cell? ⟨w.heap.size + 1, 3, none⟩ = some (.int .u32 b.d3))
    (first | ((with_reducible refine keep8s ?_); assumption) | ((with_reducible refine keep8 hA3 ?_); assumption) | ((with_reducible refine keep8 hA2 ?_); assumption) | ((with_reducible refine keep8 hA1 ?_); assumption) | (with_reducible exact HS0.out))
    (first
      | (go_at_call 66; (with_reducible refine (cfirst_lit y2 _).mono ?_); rintro e w3 ⟨rfl, hA3⟩; have hR3 := hR2.on hA3; have hB3 := hB2.trans (hA3.mono hB2.size); obtain ⟨k0, k1, k2, k3⟩ := Arr.c4 (d := zeroD) hR3; obtain ⟨q0, q1, q2, q3⟩ := hR3.f4)
      | (go_at_call 69; (with_reducible refine (ctake_two y1 a _ ha (HT.out.below hBd) HY1.out).mono ?_); rintro e w1 ⟨rfl, hA1⟩; have hR1 := hRd.on hA1; have hB1 := hBd.trans (hA1.mono hBd.size))
      | (go_at_call 69; (with_reducible refine (ctake_lit y1 y2 b _ hy1o hb (HT.out.below hB1) HY2.out).mono ?_); rintro e w2 ⟨rfl, hA2⟩; have hR2 := hR1.on hA2; have hB2 := hB1.trans (hA2.mono hB1.size)))
  go_wp2_with fail
  have hRf := put4 (d := frontS y2) hR3 rfl
  have hBf := below_put4 hB3 (by omega : w.heap.size ≤ w.heap.size + 1 + 1) (frontS y2)
  simp only [frontS] at hRf hBf
  generalize (((w3.setCell ⟨w.heap.size + 1 + 1, 0, none⟩ (.int .u32 y2.x0)).setCell ⟨w.heap.size + 1 + 1, 1, none⟩ (.int .u32 y2.x1)).setCell ⟨w.heap.size + 1 + 1, 2, none⟩ (.int .u32 y2.x2)).setCell ⟨w.heap.size + 1 + 1, 3, none⟩ (.int .u32 y2.x3) = wf at *
  obtain ⟨r0, r1, r2, r3⟩ := Arr.c4 (d := ⟨y2.x0, y2.x1, y2.x2, y2.x3⟩) hRf
  simp only at r0 r1 r2 r3
  refine bodyPost_ret (v := (frontS y2).val) (by simp [results, Tryd.results48, go_sem, D4.val, frontS, r0, r1, r2, r3]) rfl ⟨by rw [HY.out]; rfl, hBf⟩
end

section
/-! The contract of the document's Pair: the room for the state may come at any time. -/
open Go.RowKit

theorem rtake_two (y : S8) (d : D4) (w : World) (hd : d.ok) (hy : takeS twoS d = y) : Calls Tryd.prog 63 #[.agg #[.int .u32 2, .int .u32 0, .int .u32 0, .int .u32 0, .int .u32 0, .int .u32 0, .int .u32 0, .int .u32 0], .agg #[.int .u32 d.d0, .int .u32 d.d1, .int .u32 d.d2, .int .u32 d.d3]] w fun e w' => e = .returned (.agg #[.int .u32 y.x0, .int .u32 y.x1, .int .u32 y.x2, .int .u32 y.x3, .int .u32 y.x4, .int .u32 y.x5, .int .u32 y.x6, .int .u32 y.x7]) ∧ Below w.heap.size w w' := by
  subst hy
  exact take_any twoS d w twoS_ok hd
theorem rtake_lit (s y : S8) (d : D4) (w : World) (hs : s.ok) (hd : d.ok) (hy : takeS s d = y) : Calls Tryd.prog 63 #[.agg #[.int .u32 s.x0, .int .u32 s.x1, .int .u32 s.x2, .int .u32 s.x3, .int .u32 s.x4, .int .u32 s.x5, .int .u32 s.x6, .int .u32 s.x7], .agg #[.int .u32 d.d0, .int .u32 d.d1, .int .u32 d.d2, .int .u32 d.d3]] w fun e w' => e = .returned (.agg #[.int .u32 y.x0, .int .u32 y.x1, .int .u32 y.x2, .int .u32 y.x3, .int .u32 y.x4, .int .u32 y.x5, .int .u32 y.x6, .int .u32 y.x7]) ∧ Below w.heap.size w w' := by
  subst hy
  exact take_any s d w hs hd
theorem new_after {X w' : World} (h : Below (X.alloc (.cells #[.int .u32 0, .int .u32 0, .int .u32 0, .int .u32 0, .int .u32 0, .int .u32 0, .int .u32 0, .int .u32 0] 87)).heap.size (X.alloc (.cells #[.int .u32 0, .int .u32 0, .int .u32 0, .int .u32 0, .int .u32 0, .int .u32 0, .int .u32 0, .int .u32 0] 87)) w') : Arr .u32 87 X.heap.size [0, 0, 0, 0, 0, 0, 0, 0] w' := by
  unfold Arr
  rw [h.block _ (by simp)]
  exact heap_alloc_new X _
theorem keep8al {a b : D4} {B : Nat} {W : World} {o : Obj} (f : W.cell? ⟨B, 0, none⟩ = some (.int .u32 a.d0) ∧ W.cell? ⟨B, 1, none⟩ = some (.int .u32 a.d1) ∧ W.cell? ⟨B, 2, none⟩ = some (.int .u32 a.d2) ∧ W.cell? ⟨B, 3, none⟩ = some (.int .u32 a.d3) ∧ W.cell? ⟨B + 1, 0, none⟩ = some (.int .u32 b.d0) ∧ W.cell? ⟨B + 1, 1, none⟩ = some (.int .u32 b.d1) ∧ W.cell? ⟨B + 1, 2, none⟩ = some (.int .u32 b.d2) ∧ W.cell? ⟨B + 1, 3, none⟩ = some (.int .u32 b.d3)) : (W.alloc o).cell? ⟨B, 0, none⟩ = some (.int .u32 a.d0) ∧ (W.alloc o).cell? ⟨B, 1, none⟩ = some (.int .u32 a.d1) ∧ (W.alloc o).cell? ⟨B, 2, none⟩ = some (.int .u32 a.d2) ∧ (W.alloc o).cell? ⟨B, 3, none⟩ = some (.int .u32 a.d3) ∧ (W.alloc o).cell? ⟨B + 1, 0, none⟩ = some (.int .u32 b.d0) ∧ (W.alloc o).cell? ⟨B + 1, 1, none⟩ = some (.int .u32 b.d1) ∧ (W.alloc o).cell? ⟨B + 1, 2, none⟩ = some (.int .u32 b.d2) ∧ (W.alloc o).cell? ⟨B + 1, 3, none⟩ = some (.int .u32 b.d3) :=
  keep8 ((Below.refl _ W).alloc (Nat.le_refl _) o) f
theorem keep8al2 {a b : D4} {B : Nat} {W : World} {o o' : Obj} (hg : B + 1 < W.heap.size) (f : (W.alloc o).cell? ⟨B, 0, none⟩ = some (.int .u32 a.d0) ∧ (W.alloc o).cell? ⟨B, 1, none⟩ = some (.int .u32 a.d1) ∧ (W.alloc o).cell? ⟨B, 2, none⟩ = some (.int .u32 a.d2) ∧ (W.alloc o).cell? ⟨B, 3, none⟩ = some (.int .u32 a.d3) ∧ (W.alloc o).cell? ⟨B + 1, 0, none⟩ = some (.int .u32 b.d0) ∧ (W.alloc o).cell? ⟨B + 1, 1, none⟩ = some (.int .u32 b.d1) ∧ (W.alloc o).cell? ⟨B + 1, 2, none⟩ = some (.int .u32 b.d2) ∧ (W.alloc o).cell? ⟨B + 1, 3, none⟩ = some (.int .u32 b.d3)) : (W.alloc o').cell? ⟨B, 0, none⟩ = some (.int .u32 a.d0) ∧ (W.alloc o').cell? ⟨B, 1, none⟩ = some (.int .u32 a.d1) ∧ (W.alloc o').cell? ⟨B, 2, none⟩ = some (.int .u32 a.d2) ∧ (W.alloc o').cell? ⟨B, 3, none⟩ = some (.int .u32 a.d3) ∧ (W.alloc o').cell? ⟨B + 1, 0, none⟩ = some (.int .u32 b.d0) ∧ (W.alloc o').cell? ⟨B + 1, 1, none⟩ = some (.int .u32 b.d1) ∧ (W.alloc o').cell? ⟨B + 1, 2, none⟩ = some (.int .u32 b.d2) ∧ (W.alloc o').cell? ⟨B + 1, 3, none⟩ = some (.int .u32 b.d3) := by
  obtain ⟨f0, f1, f2, f3, f4, f5, f6, f7⟩ := f
  have lt : ∀ {q : Nat} {j : Nat} {v : Value}, q < W.heap.size → (W.alloc o).cell? ⟨q, j, none⟩ = some v → (W.alloc o').cell? ⟨q, j, none⟩ = some v := fun {q j v} hq e => by
    rw [((Below.refl _ W).alloc (Nat.le_refl _) o').cell (p := ⟨q, j, none⟩) hq, ← ((Below.refl _ W).alloc (Nat.le_refl _) o).cell (p := ⟨q, j, none⟩) hq]
    exact e
  exact ⟨lt (by omega) f0, lt (by omega) f1, lt (by omega) f2, lt (by omega) f3, lt (by omega) f4, lt (by omega) f5, lt (by omega) f6, lt (by omega) f7⟩
theorem keep8z {a b : D4} {B g : Nat} {W : World} {y0 y1 y2 y3 y4 y5 y6 y7 : Int} (hg : B + 1 < g) (f : W.cell? ⟨B, 0, none⟩ = some (.int .u32 a.d0) ∧ W.cell? ⟨B, 1, none⟩ = some (.int .u32 a.d1) ∧ W.cell? ⟨B, 2, none⟩ = some (.int .u32 a.d2) ∧ W.cell? ⟨B, 3, none⟩ = some (.int .u32 a.d3) ∧ W.cell? ⟨B + 1, 0, none⟩ = some (.int .u32 b.d0) ∧ W.cell? ⟨B + 1, 1, none⟩ = some (.int .u32 b.d1) ∧ W.cell? ⟨B + 1, 2, none⟩ = some (.int .u32 b.d2) ∧ W.cell? ⟨B + 1, 3, none⟩ = some (.int .u32 b.d3)) : ((((((((W.setCell ⟨g, 0, none⟩ (.int .u32 y0)).setCell ⟨g, 1, none⟩ (.int .u32 y1)).setCell ⟨g, 2, none⟩ (.int .u32 y2)).setCell ⟨g, 3, none⟩ (.int .u32 y3)).setCell ⟨g, 4, none⟩ (.int .u32 y4)).setCell ⟨g, 5, none⟩ (.int .u32 y5)).setCell ⟨g, 6, none⟩ (.int .u32 y6)).setCell ⟨g, 7, none⟩ (.int .u32 y7)).cell? ⟨B, 0, none⟩ = some (.int .u32 a.d0) ∧ ((((((((W.setCell ⟨g, 0, none⟩ (.int .u32 y0)).setCell ⟨g, 1, none⟩ (.int .u32 y1)).setCell ⟨g, 2, none⟩ (.int .u32 y2)).setCell ⟨g, 3, none⟩ (.int .u32 y3)).setCell ⟨g, 4, none⟩ (.int .u32 y4)).setCell ⟨g, 5, none⟩ (.int .u32 y5)).setCell ⟨g, 6, none⟩ (.int .u32 y6)).setCell ⟨g, 7, none⟩ (.int .u32 y7)).cell? ⟨B, 1, none⟩ = some (.int .u32 a.d1) ∧ ((((((((W.setCell ⟨g, 0, none⟩ (.int .u32 y0)).setCell ⟨g, 1, none⟩ (.int .u32 y1)).setCell ⟨g, 2, none⟩ (.int .u32 y2)).setCell ⟨g, 3, none⟩ (.int .u32 y3)).setCell ⟨g, 4, none⟩ (.int .u32 y4)).setCell ⟨g, 5, none⟩ (.int .u32 y5)).setCell ⟨g, 6, none⟩ (.int .u32 y6)).setCell ⟨g, 7, none⟩ (.int .u32 y7)).cell? ⟨B, 2, none⟩ = some (.int .u32 a.d2) ∧ ((((((((W.setCell ⟨g, 0, none⟩ (.int .u32 y0)).setCell ⟨g, 1, none⟩ (.int .u32 y1)).setCell ⟨g, 2, none⟩ (.int .u32 y2)).setCell ⟨g, 3, none⟩ (.int .u32 y3)).setCell ⟨g, 4, none⟩ (.int .u32 y4)).setCell ⟨g, 5, none⟩ (.int .u32 y5)).setCell ⟨g, 6, none⟩ (.int .u32 y6)).setCell ⟨g, 7, none⟩ (.int .u32 y7)).cell? ⟨B, 3, none⟩ = some (.int .u32 a.d3) ∧ ((((((((W.setCell ⟨g, 0, none⟩ (.int .u32 y0)).setCell ⟨g, 1, none⟩ (.int .u32 y1)).setCell ⟨g, 2, none⟩ (.int .u32 y2)).setCell ⟨g, 3, none⟩ (.int .u32 y3)).setCell ⟨g, 4, none⟩ (.int .u32 y4)).setCell ⟨g, 5, none⟩ (.int .u32 y5)).setCell ⟨g, 6, none⟩ (.int .u32 y6)).setCell ⟨g, 7, none⟩ (.int .u32 y7)).cell? ⟨B + 1, 0, none⟩ = some (.int .u32 b.d0) ∧ ((((((((W.setCell ⟨g, 0, none⟩ (.int .u32 y0)).setCell ⟨g, 1, none⟩ (.int .u32 y1)).setCell ⟨g, 2, none⟩ (.int .u32 y2)).setCell ⟨g, 3, none⟩ (.int .u32 y3)).setCell ⟨g, 4, none⟩ (.int .u32 y4)).setCell ⟨g, 5, none⟩ (.int .u32 y5)).setCell ⟨g, 6, none⟩ (.int .u32 y6)).setCell ⟨g, 7, none⟩ (.int .u32 y7)).cell? ⟨B + 1, 1, none⟩ = some (.int .u32 b.d1) ∧ ((((((((W.setCell ⟨g, 0, none⟩ (.int .u32 y0)).setCell ⟨g, 1, none⟩ (.int .u32 y1)).setCell ⟨g, 2, none⟩ (.int .u32 y2)).setCell ⟨g, 3, none⟩ (.int .u32 y3)).setCell ⟨g, 4, none⟩ (.int .u32 y4)).setCell ⟨g, 5, none⟩ (.int .u32 y5)).setCell ⟨g, 6, none⟩ (.int .u32 y6)).setCell ⟨g, 7, none⟩ (.int .u32 y7)).cell? ⟨B + 1, 2, none⟩ = some (.int .u32 b.d2) ∧ ((((((((W.setCell ⟨g, 0, none⟩ (.int .u32 y0)).setCell ⟨g, 1, none⟩ (.int .u32 y1)).setCell ⟨g, 2, none⟩ (.int .u32 y2)).setCell ⟨g, 3, none⟩ (.int .u32 y3)).setCell ⟨g, 4, none⟩ (.int .u32 y4)).setCell ⟨g, 5, none⟩ (.int .u32 y5)).setCell ⟨g, 6, none⟩ (.int .u32 y6)).setCell ⟨g, 7, none⟩ (.int .u32 y7)).cell? ⟨B + 1, 3, none⟩ = some (.int .u32 b.d3) := by
  obtain ⟨f0, f1, f2, f3, f4, f5, f6, f7⟩ := f
  have h : Below g W ((((((((W.setCell ⟨g, 0, none⟩ (.int .u32 y0)).setCell ⟨g, 1, none⟩ (.int .u32 y1)).setCell ⟨g, 2, none⟩ (.int .u32 y2)).setCell ⟨g, 3, none⟩ (.int .u32 y3)).setCell ⟨g, 4, none⟩ (.int .u32 y4)).setCell ⟨g, 5, none⟩ (.int .u32 y5)).setCell ⟨g, 6, none⟩ (.int .u32 y6)).setCell ⟨g, 7, none⟩ (.int .u32 y7)) := below_put8 (Below.refl _ W) (Nat.le_refl _) ⟨y0, y1, y2, y3, y4, y5, y6, y7⟩
  have lt : ∀ {q : Nat} {j : Nat} {v : Value}, q < g → W.cell? ⟨q, j, none⟩ = some v → ((((((((W.setCell ⟨g, 0, none⟩ (.int .u32 y0)).setCell ⟨g, 1, none⟩ (.int .u32 y1)).setCell ⟨g, 2, none⟩ (.int .u32 y2)).setCell ⟨g, 3, none⟩ (.int .u32 y3)).setCell ⟨g, 4, none⟩ (.int .u32 y4)).setCell ⟨g, 5, none⟩ (.int .u32 y5)).setCell ⟨g, 6, none⟩ (.int .u32 y6)).setCell ⟨g, 7, none⟩ (.int .u32 y7)).cell? ⟨q, j, none⟩ = some v := fun {q j v} hq e => by
    rw [h.cell (p := ⟨q, j, none⟩) hq]
    exact e
  exact ⟨lt (by omega) f0, lt (by omega) f1, lt (by omega) f2, lt (by omega) f3, lt (by omega) f4, lt (by omega) f5, lt (by omega) f6, lt (by omega) f7⟩

set_option maxHeartbeats 3000000 in
set_option maxRecDepth 100000 in
theorem rpair_any (a b : D4) (w : World) (ha : a.ok) (hb : b.ok) : Calls Tryd.prog 42 #[a.val, b.val] w fun e w' => e = .returned (pairS a b).val ∧ Below w.heap.size w w' := by
  obtain ⟨w0, hw0⟩ : ∃ w0, ((w.alloc (.cells #[.int .u32 a.d0, .int .u32 a.d1, .int .u32 a.d2, .int .u32 a.d3] 24)).alloc (.cells #[.int .u32 b.d0, .int .u32 b.d1, .int .u32 b.d2, .int .u32 b.d3] 24)).alloc (.cells #[.int .u32 0, .int .u32 0, .int .u32 0, .int .u32 0] 24) = w0 := ⟨_, rfl⟩
  obtain ⟨hA, hD, hR, hB⟩ := start444 a b w w0 hw0
  have HW := Lib.hid hw0
  clear hw0
  obtain ⟨y1, hy1⟩ : ∃ y, takeS twoS a = y := ⟨_, rfl⟩
  have hy1o : y1.ok := by rw [← hy1]; exact takeS_ok twoS_ok ha
  obtain ⟨y2, hy2⟩ : ∃ y, takeS y1 b = y := ⟨_, rfl⟩
  have HY : Hid (pairS a b = frontS y2) := by show _ = _; rw [pairS, hy1, hy2]
  have HY1 := Lib.hid hy1
  have HY2 := Lib.hid hy2
  clear hy1 hy2
  go_enter Tryd.func42, Tryd.ntmps42
  simp only [D4.val]
  go_wp2_with fail
  rw [HW.out]
  clear HW
  have hAd : Arr .u32 24 w.heap.size a.toL w0.drew := hA
  have hDd : Arr .u32 24 (w.heap.size + 1) b.toL w0.drew := hD
  have hRd : Arr .u32 24 (w.heap.size + 1 + 1) [0, 0, 0, 0] w0.drew := hR
  have hBd := hB.drew
  have hS0 : w0.drew.cell? ⟨w.heap.size, 0, none⟩ = some (.int .u32 a.d0) ∧ w0.drew.cell? ⟨w.heap.size, 1, none⟩ = some (.int .u32 a.d1) ∧ w0.drew.cell? ⟨w.heap.size, 2, none⟩ = some (.int .u32 a.d2) ∧ w0.drew.cell? ⟨w.heap.size, 3, none⟩ = some (.int .u32 a.d3) ∧ w0.drew.cell? ⟨w.heap.size + 1, 0, none⟩ = some (.int .u32 b.d0) ∧ w0.drew.cell? ⟨w.heap.size + 1, 1, none⟩ = some (.int .u32 b.d1) ∧ w0.drew.cell? ⟨w.heap.size + 1, 2, none⟩ = some (.int .u32 b.d2) ∧ w0.drew.cell? ⟨w.heap.size + 1, 3, none⟩ = some (.int .u32 b.d3) :=
    ⟨hAd.c4.1, hAd.c4.2.1, hAd.c4.2.2.1, hAd.c4.2.2.2, hDd.c4.1, hDd.c4.2.1, hDd.c4.2.2.1, hDd.c4.2.2.2⟩
  have HS0 := Lib.hid hS0
  obtain ⟨wn, hwn⟩ : ∃ wn, (w0.alloc (.cells #[.int .u32 0, .int .u32 0, .int .u32 0, .int .u32 0, .int .u32 0, .int .u32 0, .int .u32 0, .int .u32 0] 87)).drew = wn := ⟨_, rfl⟩
  have hRn : Arr .u32 24 (w.heap.size + 1 + 1) [0, 0, 0, 0] wn := by rw [← hwn]; exact hR.al _
  have hNn : Arr .u32 87 w0.heap.size [0, 0, 0, 0, 0, 0, 0, 0] wn := by rw [← hwn]; exact heap_alloc_new w0 _
  have hBn : Below w.heap.size w wn := by rw [← hwn]; exact (hB.alloc hB.size _).drew
  have hBdn : Below w0.drew.heap.size w0.drew wn := by rw [← hwn]; exact ((Below.refl _ w0.drew).alloc (Nat.le_refl _) _)
  have HSn := Lib.hid (keep8 hBdn hS0)
  have hz0 : w.heap.size + 1 < w0.heap.size := by have := hR.lt; omega
  have hzz0 : w.heap.size + 1 + 1 ≠ w0.heap.size := Nat.ne_of_lt hR.lt
  clear hBdn
  clear hS0 hA hD hR hB hAd hDd
  go_region_held3 (fun w' => w'.cell? ⟨w.heap.size, 0, none⟩ = some (.int .u32 a.d0) ∧ w'.cell? ⟨w.heap.size, 1, none⟩ = some (.int .u32 a.d1) ∧ w'.cell? ⟨w.heap.size, 2, none⟩ = some (.int .u32 a.d2) ∧ w'.cell? ⟨w.heap.size, 3, none⟩ = some (.int .u32 a.d3) ∧ w'.cell? ⟨w.heap.size + 1, 0, none⟩ = some (.int .u32 b.d0) ∧ w'.cell? ⟨w.heap.size + 1, 1, none⟩ = some (.int .u32 b.d1) ∧ w'.cell? ⟨w.heap.size + 1, 2, none⟩ = some (.int .u32 b.d2) ∧ w'.cell? ⟨w.heap.size + 1, 3, none⟩ = some (.int .u32 b.d3))
    (first | ((with_reducible refine keep8z ?_ ?_) <;> assumption) | ((with_reducible refine keep8al ?_); assumption) | ((with_reducible refine keep8al2 (o := .cells #[.int .u32 0, .int .u32 0, .int .u32 0, .int .u32 0, .int .u32 0, .int .u32 0, .int .u32 0, .int .u32 0] 87) ?_ ?_) <;> assumption) | ((with_reducible refine keep8 hA2 ?_); assumption) | ((with_reducible refine keep8 hA1 ?_); assumption) | (with_reducible exact HS0.out) | (with_reducible exact HSn.out))
    (first
      | (go_at_call 63; (with_reducible refine (rtake_two y1 a _ ha HY1.out).mono ?_); rintro e w1 ⟨rfl, hA1⟩; (first | (with_reducible have hR1 := hRd.on hA1) | (with_reducible have hR1 := hRn.on hA1)); (first | (with_reducible have hB1 := hBd.trans (hA1.mono hBd.size)) | (with_reducible have hB1 := hBn.trans (hA1.mono hBn.size))); (try (with_reducible have hN1 := hNn.on hA1)); have hz1 : w.heap.size + 1 < w1.heap.size := Nat.lt_of_succ_lt hR1.lt; have hzz1 : w.heap.size + 1 + 1 ≠ w1.heap.size := Nat.ne_of_lt hR1.lt)
      | (go_at_call 63; (with_reducible refine (rtake_lit y1 y2 b _ hy1o hb HY2.out).mono ?_); rintro e w2 ⟨rfl, hA2⟩; (first | (with_reducible have hR2 := hR1.on hA2) | (with_reducible have hR2 := (hR1.al _).on hA2)); (first | (with_reducible have hB2 := hB1.trans (hA2.mono hB1.size)) | (with_reducible have hB2 := (hB1.alloc hB1.size _).trans (hA2.mono (hB1.alloc hB1.size _).size))); (try (with_reducible have hN2 := hN1.on hA2)); (try (with_reducible have hN2 := new_after hA2)); (try (obtain ⟨k0, k1, k2, k3, k4, k5, k6, k7⟩ := Arr.c8 (y := zeroS) hN2; obtain ⟨q0, q1, q2, q3, q4, q5, q6, q7⟩ := hN2.f8)); have hz2 : w.heap.size + 1 < w2.heap.size := Nat.lt_of_succ_lt hR2.lt; have hzz2 : w.heap.size + 1 + 1 ≠ w2.heap.size := Nat.ne_of_lt hR2.lt))
  · have hNf : Arr .u32 87 w2.heap.size y2.toL (w2.alloc (.cells #[.int .u32 y2.x0, .int .u32 y2.x1, .int .u32 y2.x2, .int .u32 y2.x3, .int .u32 y2.x4, .int .u32 y2.x5, .int .u32 y2.x6, .int .u32 y2.x7] 87)) := heap_alloc_new w2 _
    have hRf := hR2.al (.cells #[.int .u32 y2.x0, .int .u32 y2.x1, .int .u32 y2.x2, .int .u32 y2.x3, .int .u32 y2.x4, .int .u32 y2.x5, .int .u32 y2.x6, .int .u32 y2.x7] 87)
    have hBf := hB2.alloc hB2.size (.cells #[.int .u32 y2.x0, .int .u32 y2.x1, .int .u32 y2.x2, .int .u32 y2.x3, .int .u32 y2.x4, .int .u32 y2.x5, .int .u32 y2.x6, .int .u32 y2.x7] 87)
    generalize w2.alloc (.cells #[.int .u32 y2.x0, .int .u32 y2.x1, .int .u32 y2.x2, .int .u32 y2.x3, .int .u32 y2.x4, .int .u32 y2.x5, .int .u32 y2.x6, .int .u32 y2.x7] 87) = wf at *
    obtain ⟨t0, t1, t2, t3, _, _, _, _⟩ := hNf.c8
    obtain ⟨b0, b1, b2, b3⟩ := Arr.c4 (d := zeroD) hRf
    obtain ⟨f0, f1, f2, f3⟩ := hRf.f4
    have hRg := put4 (d := frontS y2) hRf rfl
    have hBg := below_put4 hBf (by omega : w.heap.size ≤ w.heap.size + 1 + 1) (frontS y2)
    go_wp2_with fail
    simp only [frontS] at hRg hBg
    generalize (((wf.setCell ⟨w.heap.size + 1 + 1, 0, none⟩ (.int .u32 y2.x0)).setCell ⟨w.heap.size + 1 + 1, 1, none⟩ (.int .u32 y2.x1)).setCell ⟨w.heap.size + 1 + 1, 2, none⟩ (.int .u32 y2.x2)).setCell ⟨w.heap.size + 1 + 1, 3, none⟩ (.int .u32 y2.x3) = wg at *
    obtain ⟨r0, r1, r2, r3⟩ := Arr.c4 (d := ⟨y2.x0, y2.x1, y2.x2, y2.x3⟩) hRg
    simp only at r0 r1 r2 r3
    refine bodyPost_ret (v := (frontS y2).val) (by simp [results, Tryd.results42, go_sem, D4.val, frontS, r0, r1, r2, r3]) rfl ⟨by rw [HY.out]; rfl, hBg⟩
  · have hNf := put8 (y := y2) hN2 rfl
    have hRf := far8 hR2 hzz1 y2
    have hBf := below_put8 hB2 hB1.size y2
    generalize ((((((((w2.setCell ⟨w1.heap.size, 0, none⟩ (.int .u32 y2.x0)).setCell ⟨w1.heap.size, 1, none⟩ (.int .u32 y2.x1)).setCell ⟨w1.heap.size, 2, none⟩ (.int .u32 y2.x2)).setCell ⟨w1.heap.size, 3, none⟩ (.int .u32 y2.x3)).setCell ⟨w1.heap.size, 4, none⟩ (.int .u32 y2.x4)).setCell ⟨w1.heap.size, 5, none⟩ (.int .u32 y2.x5)).setCell ⟨w1.heap.size, 6, none⟩ (.int .u32 y2.x6)).setCell ⟨w1.heap.size, 7, none⟩ (.int .u32 y2.x7)) = wf at *
    obtain ⟨t0, t1, t2, t3, _, _, _, _⟩ := hNf.c8
    obtain ⟨b0, b1, b2, b3⟩ := Arr.c4 (d := zeroD) hRf
    obtain ⟨f0, f1, f2, f3⟩ := hRf.f4
    have hRg := put4 (d := frontS y2) hRf rfl
    have hBg := below_put4 hBf (by omega : w.heap.size ≤ w.heap.size + 1 + 1) (frontS y2)
    go_wp2_with fail
    simp only [frontS] at hRg hBg
    generalize (((wf.setCell ⟨w.heap.size + 1 + 1, 0, none⟩ (.int .u32 y2.x0)).setCell ⟨w.heap.size + 1 + 1, 1, none⟩ (.int .u32 y2.x1)).setCell ⟨w.heap.size + 1 + 1, 2, none⟩ (.int .u32 y2.x2)).setCell ⟨w.heap.size + 1 + 1, 3, none⟩ (.int .u32 y2.x3) = wg at *
    obtain ⟨r0, r1, r2, r3⟩ := Arr.c4 (d := ⟨y2.x0, y2.x1, y2.x2, y2.x3⟩) hRg
    simp only at r0 r1 r2 r3
    refine bodyPost_ret (v := (frontS y2).val) (by simp [results, Tryd.results42, go_sem, D4.val, frontS, r0, r1, r2, r3]) rfl ⟨by rw [HY.out]; rfl, hBg⟩
  · have hNf := put8 (y := y2) hN2 rfl
    have hRf := far8 hR2 hzz0 y2
    have hBf := below_put8 hB2 (show w.heap.size ≤ w0.heap.size by omega) y2
    generalize ((((((((w2.setCell ⟨w0.heap.size, 0, none⟩ (.int .u32 y2.x0)).setCell ⟨w0.heap.size, 1, none⟩ (.int .u32 y2.x1)).setCell ⟨w0.heap.size, 2, none⟩ (.int .u32 y2.x2)).setCell ⟨w0.heap.size, 3, none⟩ (.int .u32 y2.x3)).setCell ⟨w0.heap.size, 4, none⟩ (.int .u32 y2.x4)).setCell ⟨w0.heap.size, 5, none⟩ (.int .u32 y2.x5)).setCell ⟨w0.heap.size, 6, none⟩ (.int .u32 y2.x6)).setCell ⟨w0.heap.size, 7, none⟩ (.int .u32 y2.x7)) = wf at *
    obtain ⟨t0, t1, t2, t3, _, _, _, _⟩ := hNf.c8
    obtain ⟨b0, b1, b2, b3⟩ := Arr.c4 (d := zeroD) hRf
    obtain ⟨f0, f1, f2, f3⟩ := hRf.f4
    have hRg := put4 (d := frontS y2) hRf rfl
    have hBg := below_put4 hBf (by omega : w.heap.size ≤ w.heap.size + 1 + 1) (frontS y2)
    go_wp2_with fail
    simp only [frontS] at hRg hBg
    generalize (((wf.setCell ⟨w.heap.size + 1 + 1, 0, none⟩ (.int .u32 y2.x0)).setCell ⟨w.heap.size + 1 + 1, 1, none⟩ (.int .u32 y2.x1)).setCell ⟨w.heap.size + 1 + 1, 2, none⟩ (.int .u32 y2.x2)).setCell ⟨w.heap.size + 1 + 1, 3, none⟩ (.int .u32 y2.x3) = wg at *
    obtain ⟨r0, r1, r2, r3⟩ := Arr.c4 (d := ⟨y2.x0, y2.x1, y2.x2, y2.x3⟩) hRg
    simp only at r0 r1 r2 r3
    refine bodyPost_ret (v := (frontS y2).val) (by simp [results, Tryd.results42, go_sem, D4.val, frontS, r0, r1, r2, r3]) rfl ⟨by rw [HY.out]; rfl, hBg⟩
end

section
/-! Plain mathematics of blocks taken in, one behind the other: what stands behind the bytes; the digest of bytes. No program is named here. -/
open Go.RowKit

/-- Blocks of four words, taken in one behind the other by any step. -/
def absorbG (f : S8 → D4 → S8) : S8 → List Int → S8
  | s, a :: b :: c :: d :: r => absorbG f (f s ⟨a, b, c, d⟩) r
  | s, _ => s
theorem absorbG_four (f : S8 → D4 → S8) (s : S8) (a b c d : Int) (r : List Int) : absorbG f s (a :: b :: c :: d :: r) = absorbG f (f s ⟨a, b, c, d⟩) r := by rw [absorbG]
theorem absorbG_nil (f : S8 → D4 → S8) (s : S8) : absorbG f s [] = s := by simp [absorbG]
theorem absorbG_append (f : S8 → D4 → S8) (xs ys : List Int) (s : S8) (h : xs.length % 4 = 0) : absorbG f s (xs ++ ys) = absorbG f (absorbG f s xs) ys := by
  match xs, h with
  | [], _ => rw [List.nil_append, absorbG_nil]
  | [_], h => simp at h
  | [_, _], h => simp at h
  | [_, _, _], h => simp at h
  | a :: b :: c :: d :: r, h =>
    rw [List.cons_append, List.cons_append, List.cons_append, List.cons_append, absorbG_four, absorbG_four, absorbG_append f r ys _ (by simp at h; omega)]
theorem absorbG_ok (f : S8 → D4 → S8) (hf : ∀ s d, s.ok → d.ok → (f s d).ok) (xs : List Int) (s : S8) (hs : s.ok) (hx : ∀ x ∈ xs, isW x) (h : xs.length % 4 = 0) : (absorbG f s xs).ok := by
  match xs, hx, h with
  | [], _, _ => rw [absorbG_nil]; exact hs
  | [_], _, h => simp at h
  | [_, _], _, h => simp at h
  | [_, _, _], _, h => simp at h
  | a :: b :: c :: d :: r, hx, h =>
    rw [absorbG_four]
    exact absorbG_ok f hf r _ (hf _ _ hs ⟨hx a (by simp), hx b (by simp), hx c (by simp), hx d (by simp)⟩) (fun x h => hx x (by simp [h])) (by simp at h; omega)
def absorb (s : S8) (xs : List Int) : S8 := absorbG takeS s xs
theorem absorb_nil (s : S8) : absorb s [] = s := absorbG_nil takeS s
theorem absorb_four (s : S8) (d : D4) (r : List Int) : absorb s (d.d0 :: d.d1 :: d.d2 :: d.d3 :: r) = absorb (takeS s d) r := absorbG_four takeS s d.d0 d.d1 d.d2 d.d3 r
theorem absorb_append (xs ys : List Int) (s : S8) (h : xs.length % 4 = 0) : absorb s (xs ++ ys) = absorb (absorb s xs) ys := absorbG_append takeS xs ys s h
theorem absorb_ok (xs : List Int) (s : S8) (hs : s.ok) (hx : ∀ x ∈ xs, isW x) (h : xs.length % 4 = 0) : (absorb s xs).ok := absorbG_ok takeS (fun _ _ => takeS_ok) xs s hs hx h
theorem wordsR_append (u v : List UInt8) (h : u.length % 4 = 0) : wordsR (u ++ v) = wordsR u ++ wordsR v := by
  match u, h with
  | [], _ => simp [wordsR]
  | [_], h => simp at h
  | [_, _], h => simp at h
  | [_, _, _], h => simp at h
  | a :: b :: c :: d :: r, h =>
    rw [List.cons_append, List.cons_append, List.cons_append, List.cons_append, wordsR, wordsR, wordsR_append r v (by simp at h; omega), List.cons_append]
/-- What stands behind n bytes ahead of their number: one byte 128, noughts. -/
def padN (n : Nat) : Nat := (23 - n % 16) % 16
def padB (n : Nat) : List UInt8 := 128 :: List.replicate (padN n) 0
theorem padB_len (n : Nat) : (padB n).length = padN n + 1 := by simp [padB]
theorem pad_mod (n : Nat) : (n + (padN n + 1)) % 16 = 8 := by unfold padN; omega
theorem padN_lt (n : Nat) : padN n < 16 := by unfold padN; omega
def oneS : S8 := ⟨1, 0, 0, 0, 0, 0, 0, 0⟩
theorem oneS_ok : oneS.ok := by simp [S8.ok, oneS, isW]
/-- The words of bytes, with what stands behind them; their digest. -/
def allWs (l : List UInt8) : List Int := wordsR (l ++ padB l.length) ++ [(l.length : Int), 0]
def ofD (l : List UInt8) : D4 := frontS (absorb oneS (allWs l))
theorem wordsR_ok (l : List UInt8) : ∀ x ∈ wordsR l, isW x := fun x hx => wordsR_bd l x hx
theorem allWs_ok (l : List UInt8) (h : l.length < 4294967296) : ∀ x ∈ allWs l, isW x := by
  intro x hx
  rw [allWs, List.mem_append] at hx
  rcases hx with hx | hx
  · exact wordsR_ok _ x hx
  · simp at hx
    rcases hx with rfl | rfl
    · unfold isW; omega
    · exact ⟨by decide, by decide⟩
theorem ofD_ok (l : List UInt8) (h : l.length < 4294967296) : (ofD l).ok := frontS_ok (absorb_ok _ _ oneS_ok (allWs_ok l h) (by
    have := pad_mod l.length
    rw [allWs, List.length_append, wordsR_length, List.length_append, padB_len]; show ((l.length + (padN l.length + 1)) / 4 + 2) % 4 = 0; omega))
/-- The code takes the whole blocks first, then the rest with what stands behind. -/
theorem ofD_code (l : List UInt8) (m : Nat) (h : l.length < 4294967296) (hm : m = l.length - l.length % 16) :
    absorb (absorb oneS (wordsR (l.take m))) (wordsR (l.drop m ++ (padB l.length ++ wbytes [(l.length : Int), 0]))) = absorb oneS (allWs l) := by
  have hml : m ≤ l.length := by omega
  have ht : (l.take m).length = m := by rw [List.length_take]; omega
  have hd : (l.drop m).length = l.length - m := List.length_drop
  have hp := pad_mod l.length
  have h4 : m % 4 = 0 := by omega
  rw [← absorb_append _ _ _ (by rw [wordsR_length, ht]; omega), ← wordsR_append _ _ (by rw [ht]; exact h4), ← List.append_assoc, List.take_append_drop, ← List.append_assoc, wordsR_append _ _ (by rw [List.length_append, padB_len]; omega), wordsR_wbytes]
  · rfl
  · intro x hx
    simp at hx
    rcases hx with rfl | rfl
    · omega
    · exact ⟨by decide, by decide⟩
end

section
/-! The contract of the code's takeAll: whole blocks, taken in. -/
open Go.RowKit

def lenOf : Value → Nat
  | .slice _ n _ => n
  | _ => 0
theorem OwnsW.form {B : Nat} {v : Value} {xs : List Int} {w : World} (h : OwnsW B v xs w) : ∃ p cap g, v = .slice p xs.length cap ∧ xs.length ≤ cap ∧ cap ≤ maxLen ∧ (xs.length ≠ 0 → p = some ⟨g, 0, none⟩ ∧ B ≤ g ∧ g < w.heap.size ∧ ∀ k, k < xs.length → w.cell? ⟨g, k, none⟩ = some (.int .u32 (xs.getD k 0))) := by
  have h0 := h
  unfold OwnsW at h
  rcases h.2 with ⟨hv, hn⟩ | ⟨g, cap, cur, rfl, hb, hg, hc, hm, _⟩
  · exact ⟨none, 0, 0, by rw [hv, hn], by omega, by unfold maxLen; omega, fun q => absurd hn q⟩
  · refine ⟨some ⟨g, 0, none⟩, cap, g, rfl, hc, hm, fun _ => ⟨rfl, hb, (h.lt g rfl).2, fun k hk => ?_⟩⟩
    rw [h.cellAt k (by omega)]
    simp [wCells, List.getD, List.getElem?_eq_getElem hk]
theorem drop_four (xs : List Int) (j : Nat) (h : 4 * j + 4 ≤ xs.length) : xs.drop (4 * j) = xs.getD (4 * j) 0 :: xs.getD (4 * j + 1) 0 :: xs.getD (4 * j + 2) 0 :: xs.getD (4 * j + 3) 0 :: xs.drop (4 * (j + 1)) := by
  rw [List.drop_eq_getElem_cons (by omega), List.drop_eq_getElem_cons (by omega), List.drop_eq_getElem_cons (by omega), List.drop_eq_getElem_cons (by omega)]
  simp [List.getD, List.getElem?_eq_getElem (show 4 * j < xs.length by omega), List.getElem?_eq_getElem (show 4 * j + 1 < xs.length by omega), List.getElem?_eq_getElem (show 4 * j + 2 < xs.length by omega), List.getElem?_eq_getElem (show 4 * j + 3 < xs.length by omega), show 4 * j + 3 + 1 = 4 * (j + 1) by omega]

set_option maxHeartbeats 4000000 in
set_option maxRecDepth 100000 in
theorem ctakeAll_any (s : S8) (t : ByteArray) (w : World) (hs : s.ok) (ht : t.size ≤ 1000000) (h16 : t.size % 16 = 0) (hT : TurnsOk w) : Calls Tryd.prog 65 #[s.val, .string t] w fun e w' => e = .returned (absorb s (wordsR t.data.toList)).val ∧ Below w.heap.size w w' := by
  have HT := Lib.hid hT
  clear hT
  have HW := Lib.hid (words_ok t · ht (by omega))
  have hxn := wordsR_length t.data.toList
  have hxo := wordsR_ok t.data.toList
  rw [len_toList] at hxn
  generalize wordsR t.data.toList = xs at *
  obtain ⟨N, hN⟩ : ∃ N, xs.length = 4 * N := ⟨t.size / 16, by omega⟩
  have HN := Lib.hid hN
  have hN1 : N ≤ 100000 := by omega
  have HXO := Lib.hid hxo
  clear hxn hxo h16 ht hN
  obtain ⟨w0, hw0⟩ : ∃ w0, (w.alloc (.cells #[.int .u32 s.x0, .int .u32 s.x1, .int .u32 s.x2, .int .u32 s.x3, .int .u32 s.x4, .int .u32 s.x5, .int .u32 s.x6, .int .u32 s.x7] 87)).alloc (.cells #[.int .u32 0, .int .u32 0, .int .u32 0, .int .u32 0, .int .u32 0, .int .u32 0, .int .u32 0, .int .u32 0] 87) = w0 := ⟨_, rfl⟩
  obtain ⟨hA0, hR0, hB0⟩ := start2 s w w0 hw0
  go_enter Tryd.func65, Tryd.ntmps65
  simp only [S8.val]
  go_wp2_with fail
  clear hw0
  refine (HW.out w0).mono ?_
  rintro e w1 ⟨v, rfl, hv, hC⟩
  obtain ⟨p, cap, g, rfl, hcap, hmx, hg⟩ := hv.form
  have hA1 := hA0.on hC
  have hR1 := hR0.on hC
  have hB1 := hB0.trans (hC.mono hB0.size)
  have hw0g := hA0.lt
  have HG : Hid (0 < N → p = some ⟨g, 0, none⟩ ∧ w.heap.size < g ∧ g < w1.heap.size ∧ ∀ k, k < xs.length → w1.cell? ⟨g, k, none⟩ = some (.int .u32 (xs.getD k 0))) := fun h => by
    obtain ⟨h1, h2, h3, h4⟩ := hg (by rw [HN.out]; omega)
    exact ⟨h1, by omega, h3, h4⟩
  unfold maxLen at hmx
  rw [HN.out] at hcap
  rw [HN.out]
  clear hg hv hC hA0 hR0 hB0 HW hw0g
  go_wp2_with fail
  go_loopw [5] (fun v wr => ∃ (j b c : Nat) (p : Option Addr) (x : S8), j + b = N ∧ v = .slice p ((4 * b : Nat)) c ∧ 4 * b ≤ c ∧ c ≤ cap ∧ Hid (0 < b → p = some ⟨g, 4 * j, none⟩) ∧ Hid (0 < b → wr.heap[g]? = w1.heap[g]?) ∧ x.ok ∧ Hid (absorb x (xs.drop (4 * j)) = absorb s xs) ∧ Arr .u32 87 w.heap.size x.toL wr ∧ Arr .u32 87 (w.heap.size + 1) [0, 0, 0, 0, 0, 0, 0, 0] wr ∧ Below w.heap.size w wr) (fun v _ => lenOf v)
  case atStart => exact ⟨0, N, cap, p, s, by omega, rfl, hcap, Nat.le_refl _, fun h => (HG.out h).1, fun _ => rfl, hs, rfl, hA1, hR1, hB1⟩
  case round =>
    clear hA1 hR1 hB1
    obtain ⟨j, b, c, p2, x, hjb, rfl, hbc, hcc, HP, HH, hx, HX, hA, hR, hB⟩ := hrel
    by_cases hb : 0 < b
    · obtain ⟨g1, g2, g3, g4⟩ := HG.out (by omega)
      obtain rfl := HP.out hb
      have hlen : 4 * j + 4 ≤ xs.length := by have := HN.out; omega
      have HD := Lib.hid (drop_four xs j hlen)
      have cl : ∀ k, k < xs.length → wr.cell? ⟨g, k, none⟩ = some (.int .u32 (xs.getD k 0)) := fun k hk => by
        rw [World.cell?_of_block (w := w1) (HH.out hb)]
        exact g4 k hk
      have k0 := cl (4 * j) (by omega)
      have k1 := cl (4 * j + 1) (by omega)
      have k2 := cl (4 * j + 2) (by omega)
      have k3 := cl (4 * j + 3) (by omega)
      have hd : (⟨xs.getD (4 * j) 0, xs.getD (4 * j + 1) 0, xs.getD (4 * j + 2) 0, xs.getD (4 * j + 3) 0⟩ : D4).ok := ⟨(allW.get HXO.out _), (allW.get HXO.out _), (allW.get HXO.out _), (allW.get HXO.out _)⟩
      generalize xs.getD (4 * j) 0 = d0 at *
      generalize xs.getD (4 * j + 1) 0 = d1 at *
      generalize xs.getD (4 * j + 2) 0 = d2 at *
      generalize xs.getD (4 * j + 3) 0 = d3 at *
      have hng : w.heap.size ≠ g := by omega
      clear cl g4 g1
      obtain ⟨b1, rfl⟩ : ∃ b1, b = b1 + 1 := ⟨b - 1, by omega⟩
      have har := fun W => run_arrayAt (P := Tryd.prog) (w := W) 23 22 4 (some ⟨g, 4 * j, none⟩) (4 * (b1 + 1)) c Tryd.underlying23 (by omega)
      obtain ⟨t0, t1, t2, t3, t4, t5, t6, t7⟩ := hA.c8
      have hbd : decide ((0 : Int) < ((4 * (b1 + 1) : Nat) : Int)) = true := by simp; omega
      clear hb
      go_wp2_with fail
      go_still_tail 4, (by kernel_rfl)
      change wpList _ _ _ _ _ wr.drew
      obtain ⟨wd, hwd⟩ : ∃ wd, wr.drew = wd := ⟨_, rfl⟩
      have hAd : Arr .u32 87 w.heap.size x.toL wd := by rw [← hwd]; exact hA
      have hRd : Arr .u32 87 (w.heap.size + 1) [0, 0, 0, 0, 0, 0, 0, 0] wd := by rw [← hwd]; exact hR
      have hBd : Below w.heap.size w wd := by rw [← hwd]; exact hB.drew
      have HHd : Hid (wd.heap[g]? = w1.heap[g]?) := by show _ = _; rw [← hwd]; exact HH.out (by omega)
      have HTd := Lib.hid (HT.out.below hBd)
      rw [hwd]
      clear hwd t0 t1 t2 t3 t4 t5 t6 t7 k0 k1 k2 k3 hA hR hB HH har hbd
      obtain ⟨y, hy⟩ : ∃ y, takeS x ⟨d0, d1, d2, d3⟩ = y := ⟨_, rfl⟩
      have hyo : y.ok := by rw [← hy]; exact takeS_ok hx hd
      have HY : Hid (absorb y (xs.drop (4 * (j + 1))) = absorb s xs) := by
        show _ = _
        rw [← hy, ← HX.out, HD.out]
        exact (absorb_four x ⟨d0, d1, d2, d3⟩ _).symm
      have HCK := Lib.hid (ctake_any x ⟨d0, d1, d2, d3⟩ wd hx hd HTd.out)
      rw [hy] at HCK
      clear hy HX
      go_wp2_with fail
      refine (HCK.out).mono ?_
      simp only [S8.val]
      rintro e w2 ⟨rfl, hC⟩
      clear HCK
      have hgd : g < wd.heap.size := by
        rcases Nat.lt_or_ge g wd.heap.size with q | q
        · exact q
        · have e := HHd.out
          rw [Array.getElem?_eq_none q] at e
          have := Array.getElem?_eq_getElem g3
          rw [← e] at this; cases this
      have hA2 := hAd.on hC
      have hR2 := hRd.on hC
      have hB2 := hBd.trans (hC.mono hBd.size)
      have HH2 : Hid (w2.heap[g]? = w1.heap[g]?) := by show _ = _; rw [hC.block g hgd]; exact HHd.out
      clear hAd hRd hBd HHd hC hgd
      obtain ⟨t0, t1, t2, t3, t4, t5, t6, t7⟩ := hA2.c8
      obtain ⟨f0, f1, f2, f3, f4, f5, f6, f7⟩ := hA2.f8
      have hA3 := put8 (y := y) hA2 rfl
      have hR3 := far8 hR2 (by simp : w.heap.size + 1 ≠ w.heap.size) y
      have hB3 := below_put8 hB2 (Nat.le_refl _) y
      have HH3 : Hid (((((((((w2.setCell ⟨w.heap.size, 0, none⟩ (.int .u32 y.x0)).setCell ⟨w.heap.size, 1, none⟩ (.int .u32 y.x1)).setCell ⟨w.heap.size, 2, none⟩ (.int .u32 y.x2)).setCell ⟨w.heap.size, 3, none⟩ (.int .u32 y.x3)).setCell ⟨w.heap.size, 4, none⟩ (.int .u32 y.x4)).setCell ⟨w.heap.size, 5, none⟩ (.int .u32 y.x5)).setCell ⟨w.heap.size, 6, none⟩ (.int .u32 y.x6)).setCell ⟨w.heap.size, 7, none⟩ (.int .u32 y.x7)).heap[g]? = w1.heap[g]?) := by
        show _ = _
        rw [heap_setCell_other _ _ _ _ hng.symm, heap_setCell_other _ _ _ _ hng.symm, heap_setCell_other _ _ _ _ hng.symm, heap_setCell_other _ _ _ _ hng.symm, heap_setCell_other _ _ _ _ hng.symm, heap_setCell_other _ _ _ _ hng.symm, heap_setCell_other _ _ _ _ hng.symm, heap_setCell_other _ _ _ _ hng.symm]
        exact HH2.out
      clear hA2 hR2 hB2 HH2
      by_cases hc4 : c = 4
      · subst hc4
        have hb0 : b1 = 0 := by omega
        subst hb0
        go_wp2_with fail
        go_roundw
        case rel => exact ⟨j + 1, 0, 0, _, y, by omega, rfl, by omega, by omega, fun h => by omega, fun h => by omega, hyo, HY, hA3, hR3, hB3⟩
        case measure => simp [lenOf]
      · have hc1 : 4 < c := by omega
        go_wp2_with fail
        go_roundw
        case rel => exact ⟨j + 1, b1, c - 4, some ⟨g, 4 * (j + 1), none⟩, y, by omega, by rw [show 4 * (b1 + 1) - 4 = 4 * b1 by omega, show 4 * j + 4 = 4 * (j + 1) by omega], by omega, by omega, fun _ => rfl, fun _ => HH3.out, hyo, HY, hA3, hR3, hB3⟩
        case measure => simp [lenOf]; omega
    · have hb0 : b = 0 := by omega
      subst hb0
      have HE : Hid (absorb s xs = x) := by
        show _ = _
        rw [← HX.out, List.drop_eq_nil_of_le (by have := HN.out; omega), absorb_nil]
      clear HX HP HH
      obtain ⟨t0, t1, t2, t3, t4, t5, t6, t7⟩ := hA.c8
      obtain ⟨b0, b1, b2, b3, b4, b5, b6, b7⟩ := Arr.c8 (y := zeroS) hR
      obtain ⟨f0, f1, f2, f3, f4, f5, f6, f7⟩ := hR.f8
      have hRf := put8 (y := x) hR rfl
      have hBf := below_put8 hB (Nat.le_succ _) x
      clear hA hR hB
      go_wp2_with fail
      generalize ((((((((wr.setCell ⟨w.heap.size + 1, 0, none⟩ (.int .u32 x.x0)).setCell ⟨w.heap.size + 1, 1, none⟩ (.int .u32 x.x1)).setCell ⟨w.heap.size + 1, 2, none⟩ (.int .u32 x.x2)).setCell ⟨w.heap.size + 1, 3, none⟩ (.int .u32 x.x3)).setCell ⟨w.heap.size + 1, 4, none⟩ (.int .u32 x.x4)).setCell ⟨w.heap.size + 1, 5, none⟩ (.int .u32 x.x5)).setCell ⟨w.heap.size + 1, 6, none⟩ (.int .u32 x.x6)).setCell ⟨w.heap.size + 1, 7, none⟩ (.int .u32 x.x7)) = wf at *
      obtain ⟨r0, r1, r2, r3, r4, r5, r6, r7⟩ := hRf.c8
      refine bodyPost_ret (v := x.val) (by simp [results, Tryd.results65, go_sem, S8.val, r0, r1, r2, r3, r4, r5, r6, r7]) rfl ⟨by rw [HE.out]; rfl, hBf⟩
end

section
/-! The contract of the code's padding. -/
open Go.RowKit

theorem builder_on {B b : Nat} {L : List UInt8} {w w' : World} (h : Lib.IsBuilder 102 5 B b (Lib.byteCells L) w) (hb : Below w.heap.size w w') : Lib.IsBuilder 102 5 B b (Lib.byteCells L) w' := by
  have go : ∀ p, Lib.BuilderAt 102 5 B b p (Lib.byteCells L) w → Lib.BuilderAt 102 5 B b p (Lib.byteCells L) w' := by
    rintro p ⟨h1, v, h2, h3, h4⟩
    have hlt : b < w.heap.size := by
      rcases Nat.lt_or_ge b w.heap.size with q | q
      · exact q
      · rw [Array.getElem?_eq_none q] at h2; cases h2
    refine ⟨h1, v, by rw [hb.block b hlt]; exact h2, ⟨h3.1, ?_⟩, h4⟩
    rcases h3.2 with q | ⟨g, cap, cur, e1, e2, e3, e4⟩
    · exact Or.inl q
    · have hg : g < w.heap.size := by
        rcases Nat.lt_or_ge g w.heap.size with q | q
        · exact q
        · rw [Array.getElem?_eq_none q] at e3; cases e3
      exact Or.inr ⟨g, cap, cur, e1, e2, by rw [hb.block g hg]; exact e3, e4⟩
  rcases h with h | h
  · exact Or.inl (go _ h)
  · exact Or.inr (go _ h)
def padK (k : Nat) : List UInt8 := 128 :: List.replicate k 0
theorem padK_len (k : Nat) : (padK k).length = k + 1 := by simp [padK]
theorem padK_one (k : Nat) : Lib.byteCells (padK k) ++ [.int .u8 0] = Lib.byteCells (padK (k + 1)) := by
  simp [padK, Lib.byteCells, List.replicate_succ']
theorem len_named (B b : Nat) (L : List UInt8) (m : Int) (w : World) (h : Lib.IsBuilder 102 5 B b (Lib.byteCells L) w) (hm : (L.length : Int) = m) :
    Calls Tryd.prog 80 #[.pointer (some ⟨b, 0, none⟩)] w fun e w' => e = .returned (.int .i64 m) ∧ w = w' := by
  refine (len_any B b _ w h).mono ?_
  rintro e w' ⟨rfl, rfl⟩
  exact ⟨by rw [Lib.byteCells_length, hm], rfl⟩

theorem bytes_two (a c : Int) (t : ByteArray) (b cap : Nat) (w : World) (ha : isW a) (hc : isW c) (h : Arr .u32 22 b [a, c] w) (ht : t.data.toList = wbytes [a, c]) :
    Calls Tryd.prog 55 #[.slice (some ⟨b, 0, none⟩) 2 cap] w fun e w' => e = .returned (.string t) ∧ Below w.heap.size w w' := by
  rw [show t = ⟨(wbytes [a, c]).toArray⟩ by rw [← ht]]
  have hw : allW [a, c] := by
    intro x hx
    simp at hx
    rcases hx with rfl | rfl <;> assumption
  refine bytes_any (some ⟨b, 0, none⟩) [a, c] cap w (by show 2 ≤ 1000000; decide) (fun k hk => hw _ (List.getElem_mem hk)) (fun _ => ⟨b, 0, rfl, h.lt, fun k hk => ?_⟩)
  rw [Nat.zero_add, h.cell hk]
  simp [List.getD, List.getElem?_eq_getElem hk]
theorem str_cellsD (L : List UInt8) (t : ByteArray) (M : List UInt8) (h : t.data.toList = M) : Lib.byteCells L ++ Lib.strCells t = Lib.byteCells (L ++ M) := by
  subst h
  simp [Lib.byteCells, Lib.strCells]

set_option maxHeartbeats 4000000 in
set_option maxRecDepth 100000 in
theorem padding_any (n : Nat) (w : World) (hn : n ≤ 1000000) : Calls Tryd.prog 67 #[.int .i64 (n : Int)] w fun e w' => e = .returned (.string ⟨(padB n ++ wbytes [(n : Int), 0]).toArray⟩) ∧ Below w.heap.size w w' := by
  have HF := Lib.hid (Lib.fresh_isBuilder 102 5 w)
  have hW0 : Below w.heap.size w (w.alloc (.cells #[.pointer none, .slice none 0 0] 102)) := (Below.refl _ w).alloc (Nat.le_refl _) _
  go_enter Tryd.func67, Tryd.ntmps67
  go_wp2_with fail
  refine (writeByte_any w.heap.size w.heap.size [] 128 _ HF.out (by decide) hW0.size).mono ?_
  rintro e w1 ⟨rfl, hI, hB⟩
  have hI1 : Lib.IsBuilder 102 5 w.heap.size w.heap.size (Lib.byteCells (padK 0)) w1 := Or.inr hI
  have hW1 := hW0.trans hB
  clear hI hB hW0 HF
  go_wp2_with fail
  go_loopg [] (padN n) (fun gk wr => ∃ k : Nat, k + gk = padN n ∧ Lib.IsBuilder 102 5 w.heap.size w.heap.size (Lib.byteCells (padK k)) wr ∧ Below w.heap.size w wr)
  case atStart => exact ⟨0, by omega, hI1, hW1⟩
  case round =>
    clear hI1 hW1
    obtain ⟨k, hk, hI, hW⟩ := hrel
    have hpn := padN_lt n
    have hpd : padN n = (23 - n % 16) % 16 := rfl
    obtain ⟨m, hm⟩ : ∃ m : Int, ((padK k).length : Int) = m := ⟨_, rfl⟩
    have hmk : m = (k : Int) + 1 := by rw [← hm, padK_len]; omega
    have hm0 : 0 ≤ m := by omega
    have hm1 : m ≤ 20 := by omega
    by_cases hg : 0 < gk
    · have hc : (((n : Int) + m) % 16 != 8) = true := by simp; omega
      have HI := Lib.hid hI
      have HM := Lib.hid hm
      have HK := Lib.hid hmk
      clear hI hm hpd hmk
      go_wp2_with fail
      refine (len_named w.heap.size w.heap.size (padK k) m wr HI.out HM.out).mono ?_
      rintro e w2 ⟨rfl, rfl⟩
      go_wp2_with fail
      refine (writeByte_any w.heap.size w.heap.size (Lib.byteCells (padK k)) 0 wr HI.out (by rw [Lib.byteCells_length, padK_len]; omega) hW.size).mono ?_
      rw [padK_one]
      rintro e w3 ⟨rfl, hI3, hB3⟩
      have hI4 : Lib.IsBuilder 102 5 w.heap.size w.heap.size (Lib.byteCells (padK (k + 1))) w3 := Or.inr hI3
      go_wp2_with fail
      go_roundg (gk - 1)
      case measure => omega
      case rel => exact ⟨k + 1, by omega, hI4, hW.trans hB3⟩
    · have hc : (((n : Int) + m) % 16 != 8) = false := by simp; omega
      have hkn : k = padN n := by omega
      have HI := Lib.hid hI
      have HM := Lib.hid hm
      clear hI hm hpd hmk hg hk
      subst hkn
      have hn1 : (n : Int) ≤ 1000000 := by omega
      have hn2 : (n : Int) / 4294967296 = 0 := by omega
      go_wp2_with fail
      refine (len_named w.heap.size w.heap.size (padK (padN n)) m wr HI.out HM.out).mono ?_
      rintro e w2 ⟨rfl, rfl⟩
      go_wp2_with fail
      obtain ⟨t, ht⟩ : ∃ t : ByteArray, t.data.toList = wbytes [(n : Int), 0] := ⟨⟨(wbytes [(n : Int), 0]).toArray⟩, List.toList_toArray⟩
      have hts : t.size = 8 := by rw [← len_toList, ht, wbytes_length]; rfl
      have HT := Lib.hid ht
      have HTS := Lib.hid hts
      clear ht hts
      have hR : Arr .u32 22 wr.heap.size [(n : Int), 0] (wr.alloc (.cells #[.int .u32 (n : Int), .int .u32 0] 22)) := heap_alloc_new wr _
      have hW2 := hW.alloc hW.size (.cells #[.int .u32 (n : Int), .int .u32 0] 22)
      have HI2 := Lib.hid (builder_on HI.out ((Below.refl _ wr).alloc (Nat.le_refl _) (.cells #[.int .u32 (n : Int), .int .u32 0] 22)))
      refine (bytes_two n 0 t wr.heap.size 2 _ ⟨by omega, by omega⟩ ⟨by decide, by decide⟩ hR HT.out).mono ?_
      clear hR
      generalize wr.alloc (.cells #[.int .u32 (n : Int), .int .u32 0] 22) = w4 at *
      rintro e w5 ⟨rfl, hC⟩
      have HI3 := Lib.hid (builder_on HI2.out hC)
      have hW3 := hW2.trans (hC.mono hW2.size)
      clear HI2 HI hW2 hC hW
      go_wp2_with fail
      refine (writeString_any w.heap.size w.heap.size (Lib.byteCells (padK (padN n))) t w5 HI3.out (by rw [Lib.byteCells_length, padK_len, HTS.out]; omega) hW3.size).mono ?_
      rw [str_cellsD _ t _ HT.out]
      rintro e w6 ⟨rfl, hI6, hB6⟩
      have HI6 := Lib.hid (Or.inr hI6 : Lib.IsBuilder 102 5 w.heap.size w.heap.size (Lib.byteCells (padK (padN n) ++ wbytes [(n : Int), 0])) w6)
      have hW6 := hW3.trans hB6
      clear hI6 hB6 hW3 HI3
      go_wp2_with fail
      refine (string_any w.heap.size w.heap.size _ w6 HI6.out hW6.size).mono ?_
      rintro e w7 ⟨rfl, hB7⟩
      go_wp2_with fail
      go_ret
      exact ⟨rfl, hW6.trans hB7⟩
end

section
/-! The contract of the code's Of. -/
open Go.RowKit

theorem ctakeAll_named (s y : S8) (t : ByteArray) (w : World) (hs : s.ok) (ht : t.size ≤ 1000000) (h16 : t.size % 16 = 0) (hT : TurnsOk w) (hy : absorb s (wordsR t.data.toList) = y) : Calls Tryd.prog 65 #[.agg #[.int .u32 s.x0, .int .u32 s.x1, .int .u32 s.x2, .int .u32 s.x3, .int .u32 s.x4, .int .u32 s.x5, .int .u32 s.x6, .int .u32 s.x7], .string t] w fun e w' => e = .returned (.agg #[.int .u32 y.x0, .int .u32 y.x1, .int .u32 y.x2, .int .u32 y.x3, .int .u32 y.x4, .int .u32 y.x5, .int .u32 y.x6, .int .u32 y.x7]) ∧ Below w.heap.size w w' := by
  subst hy; exact ctakeAll_any s t w hs ht h16 hT
theorem ctakeAll_one (y : S8) (t : ByteArray) (w : World) (ht : t.size ≤ 1000000) (h16 : t.size % 16 = 0) (hT : TurnsOk w) (hy : absorb oneS (wordsR t.data.toList) = y) : Calls Tryd.prog 65 #[.agg #[.int .u32 1, .int .u32 0, .int .u32 0, .int .u32 0, .int .u32 0, .int .u32 0, .int .u32 0, .int .u32 0], .string t] w fun e w' => e = .returned (.agg #[.int .u32 y.x0, .int .u32 y.x1, .int .u32 y.x2, .int .u32 y.x3, .int .u32 y.x4, .int .u32 y.x5, .int .u32 y.x6, .int .u32 y.x7]) ∧ Below w.heap.size w w' := ctakeAll_named oneS y t w oneS_ok ht h16 hT hy
theorem padding_named (n : Nat) (t : ByteArray) (w : World) (hn : n ≤ 1000000) (ht : t.data.toList = padB n ++ wbytes [(n : Int), 0]) : Calls Tryd.prog 67 #[.int .i64 (n : Int)] w fun e w' => e = .returned (.string t) ∧ Below w.heap.size w w' := by
  rw [show t = ⟨(padB n ++ wbytes [(n : Int), 0]).toArray⟩ by rw [← ht]]; exact padding_any n w hn
theorem keepS_far {W : World} {s : S8} {B G : Nat} {z0 z1 z2 z3 : Int} (hne : G ≠ B) (f : W.cell? ⟨G, 0, none⟩ = some (.int .u32 s.x0) ∧ W.cell? ⟨G, 1, none⟩ = some (.int .u32 s.x1) ∧ W.cell? ⟨G, 2, none⟩ = some (.int .u32 s.x2) ∧ W.cell? ⟨G, 3, none⟩ = some (.int .u32 s.x3) ∧ W.cell? ⟨G, 4, none⟩ = some (.int .u32 s.x4) ∧ W.cell? ⟨G, 5, none⟩ = some (.int .u32 s.x5) ∧ W.cell? ⟨G, 6, none⟩ = some (.int .u32 s.x6) ∧ W.cell? ⟨G, 7, none⟩ = some (.int .u32 s.x7)) : ((((W.setCell ⟨B, 0, none⟩ (.int .u32 z0)).setCell ⟨B, 1, none⟩ (.int .u32 z1)).setCell ⟨B, 2, none⟩ (.int .u32 z2)).setCell ⟨B, 3, none⟩ (.int .u32 z3)).cell? ⟨G, 0, none⟩ = some (.int .u32 s.x0) ∧ ((((W.setCell ⟨B, 0, none⟩ (.int .u32 z0)).setCell ⟨B, 1, none⟩ (.int .u32 z1)).setCell ⟨B, 2, none⟩ (.int .u32 z2)).setCell ⟨B, 3, none⟩ (.int .u32 z3)).cell? ⟨G, 1, none⟩ = some (.int .u32 s.x1) ∧ ((((W.setCell ⟨B, 0, none⟩ (.int .u32 z0)).setCell ⟨B, 1, none⟩ (.int .u32 z1)).setCell ⟨B, 2, none⟩ (.int .u32 z2)).setCell ⟨B, 3, none⟩ (.int .u32 z3)).cell? ⟨G, 2, none⟩ = some (.int .u32 s.x2) ∧ ((((W.setCell ⟨B, 0, none⟩ (.int .u32 z0)).setCell ⟨B, 1, none⟩ (.int .u32 z1)).setCell ⟨B, 2, none⟩ (.int .u32 z2)).setCell ⟨B, 3, none⟩ (.int .u32 z3)).cell? ⟨G, 3, none⟩ = some (.int .u32 s.x3) ∧ ((((W.setCell ⟨B, 0, none⟩ (.int .u32 z0)).setCell ⟨B, 1, none⟩ (.int .u32 z1)).setCell ⟨B, 2, none⟩ (.int .u32 z2)).setCell ⟨B, 3, none⟩ (.int .u32 z3)).cell? ⟨G, 4, none⟩ = some (.int .u32 s.x4) ∧ ((((W.setCell ⟨B, 0, none⟩ (.int .u32 z0)).setCell ⟨B, 1, none⟩ (.int .u32 z1)).setCell ⟨B, 2, none⟩ (.int .u32 z2)).setCell ⟨B, 3, none⟩ (.int .u32 z3)).cell? ⟨G, 5, none⟩ = some (.int .u32 s.x5) ∧ ((((W.setCell ⟨B, 0, none⟩ (.int .u32 z0)).setCell ⟨B, 1, none⟩ (.int .u32 z1)).setCell ⟨B, 2, none⟩ (.int .u32 z2)).setCell ⟨B, 3, none⟩ (.int .u32 z3)).cell? ⟨G, 6, none⟩ = some (.int .u32 s.x6) ∧ ((((W.setCell ⟨B, 0, none⟩ (.int .u32 z0)).setCell ⟨B, 1, none⟩ (.int .u32 z1)).setCell ⟨B, 2, none⟩ (.int .u32 z2)).setCell ⟨B, 3, none⟩ (.int .u32 z3)).cell? ⟨G, 7, none⟩ = some (.int .u32 s.x7) := by
  have hb : ((((W.setCell ⟨B, 0, none⟩ (.int .u32 z0)).setCell ⟨B, 1, none⟩ (.int .u32 z1)).setCell ⟨B, 2, none⟩ (.int .u32 z2)).setCell ⟨B, 3, none⟩ (.int .u32 z3)).heap[G]? = W.heap[G]? := by
    rw [heap_setCell_other _ _ _ _ hne, heap_setCell_other _ _ _ _ hne, heap_setCell_other _ _ _ _ hne, heap_setCell_other _ _ _ _ hne]
  obtain ⟨f0, f1, f2, f3, f4, f5, f6, f7⟩ := f
  have lt : ∀ {j : Nat} {v : Value}, W.cell? ⟨G, j, none⟩ = some v → ((((W.setCell ⟨B, 0, none⟩ (.int .u32 z0)).setCell ⟨B, 1, none⟩ (.int .u32 z1)).setCell ⟨B, 2, none⟩ (.int .u32 z2)).setCell ⟨B, 3, none⟩ (.int .u32 z3)).cell? ⟨G, j, none⟩ = some v := fun {j v} e => by
    rw [World.cell?_of_block (a := ⟨G, j, none⟩) hb]
    exact e
  exact ⟨lt f0, lt f1, lt f2, lt f3, lt f4, lt f5, lt f6, lt f7⟩
theorem keepSb {W w' : World} {s : S8} {B : Nat} (h : Below W.heap.size W w') (f : W.cell? ⟨B, 0, none⟩ = some (.int .u32 s.x0) ∧ W.cell? ⟨B, 1, none⟩ = some (.int .u32 s.x1) ∧ W.cell? ⟨B, 2, none⟩ = some (.int .u32 s.x2) ∧ W.cell? ⟨B, 3, none⟩ = some (.int .u32 s.x3) ∧ W.cell? ⟨B, 4, none⟩ = some (.int .u32 s.x4) ∧ W.cell? ⟨B, 5, none⟩ = some (.int .u32 s.x5) ∧ W.cell? ⟨B, 6, none⟩ = some (.int .u32 s.x6) ∧ W.cell? ⟨B, 7, none⟩ = some (.int .u32 s.x7)) : w'.cell? ⟨B, 0, none⟩ = some (.int .u32 s.x0) ∧ w'.cell? ⟨B, 1, none⟩ = some (.int .u32 s.x1) ∧ w'.cell? ⟨B, 2, none⟩ = some (.int .u32 s.x2) ∧ w'.cell? ⟨B, 3, none⟩ = some (.int .u32 s.x3) ∧ w'.cell? ⟨B, 4, none⟩ = some (.int .u32 s.x4) ∧ w'.cell? ⟨B, 5, none⟩ = some (.int .u32 s.x5) ∧ w'.cell? ⟨B, 6, none⟩ = some (.int .u32 s.x6) ∧ w'.cell? ⟨B, 7, none⟩ = some (.int .u32 s.x7) := by
  obtain ⟨f0, f1, f2, f3, f4, f5, f6, f7⟩ := f
  have lt : ∀ {q : Nat} {j : Nat} {v : Value}, W.cell? ⟨q, j, none⟩ = some v → w'.cell? ⟨q, j, none⟩ = some v := fun {q j v} e => by
    rw [h.cell (p := ⟨q, j, none⟩) (cell_lt e)]
    exact e
  exact ⟨lt f0, lt f1, lt f2, lt f3, lt f4, lt f5, lt f6, lt f7⟩

set_option maxHeartbeats 4000000 in
set_option maxRecDepth 100000 in
theorem cof_any (s : ByteArray) (w : World) (hs : s.size ≤ 100000) (hT : TurnsOk w) : Calls Tryd.prog 46 #[.string s] w fun e w' => e = .returned (ofD s.data.toList).val ∧ Below w.heap.size w w' := by
  have HT := Lib.hid hT
  obtain ⟨m, hm⟩ : ∃ m, s.size - s.size % 16 = m := ⟨_, rfl⟩
  have hms : m ≤ s.size := by omega
  have hu : (s.extract 0 m).data.toList = s.data.toList.take m := by simp
  have hv : (s.extract m s.size).data.toList = s.data.toList.drop m := by rw [Lib.extract_to_end]
  have hus : (s.extract 0 m).size = m := by simp; omega
  have hvs : (s.extract m s.size).size = s.size - m := by simp
  obtain ⟨pt, hpt⟩ : ∃ t : ByteArray, t.data.toList = padB s.size ++ wbytes [(s.size : Int), 0] := ⟨⟨(padB s.size ++ wbytes [(s.size : Int), 0]).toArray⟩, List.toList_toArray⟩
  have hpn := pad_mod s.size
  have hpz := padN_lt s.size
  have hps : pt.size = padN s.size + 1 + 8 := by rw [← len_toList, hpt, List.length_append, padB_len, wbytes_length]; rfl
  obtain ⟨y1, hy1⟩ : ∃ y, absorb oneS (wordsR (s.extract 0 m).data.toList) = y := ⟨_, rfl⟩
  obtain ⟨u, hun⟩ : ∃ u, s.extract 0 m = u := ⟨_, rfl⟩
  obtain ⟨v, hvn⟩ : ∃ v, s.extract m s.size = v := ⟨_, rfl⟩
  have hvp : (v ++ pt).data.toList = s.data.toList.drop m ++ (padB s.data.toList.length ++ wbytes [(s.data.toList.length : Int), 0]) := by
    rw [ByteArray.data_append, Array.toList_append, ← hvn, hv, hpt, len_toList]
  obtain ⟨y2, hy2⟩ : ∃ y, absorb y1 (wordsR (v ++ pt).data.toList) = y := ⟨_, rfl⟩
  have HO : Hid (ofD s.data.toList = frontS y2) := by
    show _ = _
    rw [ofD, ← ofD_code s.data.toList m (by rw [len_toList]; omega) (by rw [len_toList]; exact hm.symm), ← hvp, ← hu, hy1, hy2]
  have hy1o : y1.ok := by
    rw [← hy1]
    exact absorb_ok _ _ oneS_ok (wordsR_ok _) (by rw [wordsR_length, len_toList, hus]; omega)
  have HU16 := Lib.hid (show u.size ≤ 1000000 ∧ u.size % 16 = 0 by rw [← hun, hus]; omega)
  have HV16 := Lib.hid (show (v ++ pt).size ≤ 1000000 ∧ (v ++ pt).size % 16 = 0 by rw [ByteArray.size_append, hps, ← hvn, hvs]; omega)
  rw [hun] at hy1
  have HY1 := Lib.hid hy1
  have HY2 := Lib.hid hy2
  have HPT := Lib.hid hpt
  have HS := Lib.hid (show s.size ≤ 1000000 by omega)
  have hr1 : (s.size : Int) - (s.size : Int) % 16 = (m : Int) := by omega
  have hm0 : (0 : Int) ≤ (m : Int) := by omega
  have hm1 : (m : Int) ≤ (s.size : Int) := by omega
  have hm2 : ((m : Int)).toNat = m := by omega
  have hsz : (s.size : Int) ≤ 1000000 := by omega
  have hvz : v.size ≤ 100000 := by rw [← hvn, hvs]; omega
  have hptz : pt.size ≤ 100 := by omega
  clear hT hm hms hu hv hus hvs hpn hpz hps hy1 hy2 hvp hpt
  obtain ⟨w0, hw0⟩ : ∃ w0, w.alloc (.cells #[.int .u32 0, .int .u32 0, .int .u32 0, .int .u32 0] 24) = w0 := ⟨_, rfl⟩
  obtain ⟨hR, hB⟩ := start4 w w0 hw0
  have HT0 := Lib.hid (HT.out.below hB)
  go_enter Tryd.func46, Tryd.ntmps46
  go_wp2_with fail
  clear hw0
  refine (ctakeAll_one y1 u w0 HU16.out.1 HU16.out.2 HT0.out HY1.out).mono ?_
  rintro e w1 ⟨rfl, hC⟩
  have hR1 := hR.on hC
  have hB1 := hB.trans (hC.mono hB.size)
  have HT1 := Lib.hid (HT0.out.below hC)
  clear hR hB hC HT0 HT hun
  obtain ⟨w2, hw2⟩ : ∃ w2, w1.alloc (.cells #[.int .u32 y1.x0, .int .u32 y1.x1, .int .u32 y1.x2, .int .u32 y1.x3, .int .u32 y1.x4, .int .u32 y1.x5, .int .u32 y1.x6, .int .u32 y1.x7] 87) = w2 := ⟨_, rfl⟩
  have hRd : Arr .u32 24 w.heap.size [0, 0, 0, 0] w2.drew := by rw [← hw2]; exact hR1.al _
  have hAd : Arr .u32 87 w1.heap.size y1.toL w2.drew := by rw [← hw2]; exact heap_alloc_new w1 _
  have hBd : Below w.heap.size w w2.drew := by rw [← hw2]; exact (hB1.alloc hB1.size _).drew
  have HTd := Lib.hid (show TurnsOk w2.drew from HT1.out.below (by rw [← hw2]; exact ((Below.refl _ _).alloc (Nat.le_refl _) _).drew))
  have hne : w1.heap.size ≠ w.heap.size := (Nat.ne_of_lt hR1.lt).symm
  have HS0 := Lib.hid (hAd.c8)
  clear hR1 hB1 HT1 hAd
  go_wp2_with fail
  clear hw2
  generalize w1.heap.size = G at *
  have hadd := fun W => run_string_add_sum (P := Tryd.prog) (w := W) v pt (by omega)
  go_region_held3 (fun w' => w'.cell? ⟨G, 0, none⟩ = some (.int .u32 y1.x0) ∧ w'.cell? ⟨G, 1, none⟩ = some (.int .u32 y1.x1) ∧ w'.cell? ⟨G, 2, none⟩ = some (.int .u32 y1.x2) ∧ w'.cell? ⟨G, 3, none⟩ = some (.int .u32 y1.x3) ∧ w'.cell? ⟨G, 4, none⟩ = some (.int .u32 y1.x4) ∧ w'.cell? ⟨G, 5, none⟩ = some (.int .u32 y1.x5) ∧ w'.cell? ⟨G, 6, none⟩ = some (.int .u32 y1.x6) ∧ w'.cell? ⟨G, 7, none⟩ = some (.int .u32 y1.x7))
    (first | ((with_reducible refine keepS_far ?_ ?_) <;> assumption) | ((with_reducible refine keepSb (s := y1) hA ?_); assumption) | (with_reducible exact HS0.out))
    (first
      | (go_at_call 67; (with_reducible refine (padding_named s.size pt _ HS.out HPT.out).mono ?_); rintro e w3 ⟨rfl, hA⟩; have HT3 := Lib.hid (HTd.out.below hA); have hB3 := hBd.trans (hA.mono hBd.size); have hR3 := hRd.on hA)
      | (go_at_call 65; (with_reducible refine (ctakeAll_named y1 y2 (v ++ pt) _ hy1o HV16.out.1 HV16.out.2 HT3.out HY2.out).mono ?_); rintro e w4 ⟨rfl, hA⟩; have hB4 := hB3.trans (hA.mono hB3.size); have hR4 := hR3.on hA)
      | (go_at_call 66; (with_reducible refine (cfirst_lit y2 _).mono ?_); rintro e w5 ⟨rfl, hA⟩; have hB5 := hB4.trans (hA.mono hB4.size); have hR5 := hR4.on hA; obtain ⟨k0, k1, k2, k3⟩ := Arr.c4 (d := zeroD) hR5; obtain ⟨q0, q1, q2, q3⟩ := hR5.f4))
  go_wp2_with fail
  have hRf := put4 (d := frontS y2) hR5 rfl
  have hBf := below_put4 hB5 (Nat.le_refl _) (frontS y2)
  simp only [frontS] at hRf hBf
  generalize (((w5.setCell ⟨w.heap.size, 0, none⟩ (.int .u32 y2.x0)).setCell ⟨w.heap.size, 1, none⟩ (.int .u32 y2.x1)).setCell ⟨w.heap.size, 2, none⟩ (.int .u32 y2.x2)).setCell ⟨w.heap.size, 3, none⟩ (.int .u32 y2.x3) = wf at *
  obtain ⟨r0, r1, r2, r3⟩ := Arr.c4 (d := ⟨y2.x0, y2.x1, y2.x2, y2.x3⟩) hRf
  simp only at r0 r1 r2 r3
  refine bodyPost_ret (v := (frontS y2).val) (by simp [results, Tryd.results46, go_sem, D4.val, frontS, r0, r1, r2, r3]) rfl ⟨by rw [HO.out], hBf⟩
end

section
/-! The contract of the document's Of. -/
open Go.RowKit

theorem rwords_named (t : ByteArray) (xs : List Int) (w : World) (hs : t.size ≤ 1000000) (h : t.size % 4 = 0) (hx : wordsR t.data.toList = xs) :
    Calls Tryd.prog 64 #[.string t] w fun e w' => ∃ v, e = .returned (.tuple #[v, .int .i64 0]) ∧ OwnsW w.heap.size v xs w' ∧ Below w.heap.size w w' := by
  subst hx; exact refWords_ok t w hs h
theorem rtake_named (s y : S8) (d : D4) (w : World) (hs : s.ok) (hd : d.ok) (hy : takeS s d = y) : Calls Tryd.prog 63 #[.agg #[.int .u32 s.x0, .int .u32 s.x1, .int .u32 s.x2, .int .u32 s.x3, .int .u32 s.x4, .int .u32 s.x5, .int .u32 s.x6, .int .u32 s.x7], .agg #[.int .u32 d.d0, .int .u32 d.d1, .int .u32 d.d2, .int .u32 d.d3]] w fun e w' => e = .returned (.agg #[.int .u32 y.x0, .int .u32 y.x1, .int .u32 y.x2, .int .u32 y.x3, .int .u32 y.x4, .int .u32 y.x5, .int .u32 y.x6, .int .u32 y.x7]) ∧ Below w.heap.size w w' := by
  subst hy; exact take_any s d w hs hd

set_option maxHeartbeats 4000000 in
set_option maxRecDepth 100000 in
theorem rof_any (s : ByteArray) (w : World) (hs : s.size ≤ 100000) : Calls Tryd.prog 44 #[.string s] w fun e w' => e = .returned (ofD s.data.toList).val ∧ Below w.heap.size w w' := by
  obtain ⟨i0, hi, hz0, hz1, hz2⟩ := info_parts info_u32
  have hpn := pad_mod s.size
  have hpz := padN_lt s.size
  have HPN := Lib.hid hpn
  have HPD : Hid (padN s.size = (23 - s.size % 16) % 16) := rfl
  clear hpn
  have hs1 : (s.size : Int) ≤ 100000 := by omega
  obtain ⟨w0, hw0⟩ : ∃ w0, w.alloc (.cells #[.int .u32 0, .int .u32 0, .int .u32 0, .int .u32 0] 24) = w0 := ⟨_, rfl⟩
  obtain ⟨hR, hB⟩ := start4 w w0 hw0
  have hadd := fun W => run_string_add_sum (P := Tryd.prog) (w := W) s ⟨#[128]⟩ (by show s.size + 1 ≤ _; omega)
  go_enter Tryd.func44, Tryd.ntmps44
  go_wp2_with fail
  clear hw0 hadd
  go_loopg [0] (padN s.size) (fun gk v wr => ∃ (k : Nat) (t : ByteArray), k + gk = padN s.size ∧ v = .string t ∧ t.size = s.size + 1 + k ∧ Hid (t.data.toList = s.data.toList ++ padK k) ∧ wr = w0)
  case atStart =>
    refine ⟨0, _, by omega, rfl, ?_, ?_, rfl⟩
    · rw [ByteArray.size_append]; rfl
    · show (s ++ (⟨#[128]⟩ : ByteArray)).data.toList = _
      rw [ByteArray.data_append, Array.toList_append]; rfl
  case round =>
    obtain ⟨k, t, hk, rfl, hts, HT, rfl⟩ := hrel
    by_cases hg : 0 < gk
    · have hc : ((t.size : Int) % 16 != 8) = true := by
        have := HPD.out
        simp; omega
      have hadd := fun W => run_string_add_sum (P := Tryd.prog) (w := W) t ⟨#[0]⟩ (by show t.size + 1 ≤ _; omega)
      have HTS := Lib.hid hts
      have ht1 : (t.size : Int) ≤ 100100 := by omega
      clear hts
      go_wp2_with fail
      go_roundg (gk - 1)
      case measure => omega
      case rel =>
        refine ⟨k + 1, _, by omega, rfl, ?_, ?_, rfl⟩
        · rw [ByteArray.size_append, HTS.out]; rfl
        · show (t ++ (⟨#[0]⟩ : ByteArray)).data.toList = _
          rw [ByteArray.data_append, Array.toList_append, HT.out, List.append_assoc]
          simp [padK, List.replicate_succ']
    · have hkn : k = padN s.size := by omega
      subst hkn
      have hc : ((t.size : Int) % 16 != 8) = false := by
        have := HPN.out
        simp; omega
      have HT4 := Lib.hid (show t.size ≤ 1000000 ∧ t.size % 4 = 0 by have := HPN.out; omega)
      obtain ⟨xs, hxs⟩ : ∃ xs, wordsR t.data.toList = xs := ⟨_, rfl⟩
      have HXS := Lib.hid hxs
      have HA : Hid (allWs s.data.toList = xs ++ [(s.size : Int), 0]) := by
        show _ = _
        rw [allWs, ← hxs, HT.out, len_toList]; rfl
      have hxn : xs.length = t.size / 4 := by rw [← hxs, wordsR_length, len_toList]
      have HXN := Lib.hid hxn
      have hx1 : xs.length ≤ 100000 := by omega
      have hc16 := Lib.hid (show t.size % 16 = 8 by have := HPN.out; omega)
      clear hxs hts hxn HT hg
      go_wp2_with fail
      clear hc
      refine (rwords_named t xs _ HT4.out.1 HT4.out.2 HXS.out).mono ?_
      rintro e w1 ⟨v, rfl, hown, hC⟩
      have hR1 := hR.on hC
      have hB1 := hB.trans (hC.mono hB.size)
      have hb0 := hB.size
      have hrl := hR.lt
      clear hR hB
      have hownr : w1.ownsRow wr.heap.size 22 1 v xs.length (wCells xs) := hown
      have hn2 : (s.size : Int) / 4294967296 = 0 := by omega
      go_wp2_with (at_builtin; refine wpList_append_own _ rfl _ _ 72 rfl wr.heap.size 22 i0 (.int .u32 0) 1 4 Tryd.underlying72 hi hz0 hz1 hz2 rfl (by decide) _ _ _ rfl (hownr.alloc _) ⟨w1.heap.size, 0, none⟩ 2 2 [.int .u32 (s.size : Int), .int .u32 0] rfl rfl ?c1 ?c2 ?c3 ?c4 ?c5 ?_)
      case c1 => exact World.news_of_block (cs := #[.int .u32 (s.size : Int), .int .u32 0]) (t := 22) (fr := (0, 0)) (heap_alloc_new w1 _)
      case c2 => simp [Value.oneCell']
      case c3 => unfold maxLen; omega
      case c4 => omega
      case c5 => have := hC.size; simp; omega
      intro v' w2 hown' hgrow _
      have hV : Below wr.heap.size (w1.alloc (.cells #[.int .u32 (s.size : Int), .int .u32 0] 22)) w2 := (Below.refl _ _).grown hgrow (by have := hC.size; simp; omega) (fun k hk => (hownr.lt k hk).1)
      have hR2 := (hR1.al (.cells #[.int .u32 (s.size : Int), .int .u32 0] 22)).thr hV hrl
      have hB2 := (hB1.alloc hB1.size (.cells #[.int .u32 (s.size : Int), .int .u32 0] 22)).trans (hV.mono hb0)
      obtain ⟨N, hN⟩ : ∃ N, xs.length + 2 = 4 * N := ⟨(xs.length + 2) / 4, by have h1 := HXN.out; have h2 := HT4.out.2; have h3 := hc16.out; omega⟩
      obtain ⟨zs, hzs⟩ : ∃ zs, xs ++ [(s.size : Int), 0] = zs := ⟨_, rfl⟩
      have hzn : zs.length = 4 * N := by rw [← hzs, List.length_append]; exact hN
      have hO : OwnsW wr.heap.size v' zs w2 := by
        unfold OwnsW
        rw [show wCells zs = wCells xs ++ [.int .u32 (s.size : Int), .int .u32 0] by rw [← hzs]; simp [wCells], hzn, ← hN]
        exact hown'
      have HZ : Hid (allWs s.data.toList = zs) := by show _ = _; rw [HA.out, hzs]
      have HXO : Hid (allW zs) := by
        show allW zs
        rw [← HZ.out]
        exact allWs_ok s.data.toList (by rw [len_toList]; omega)
      obtain ⟨p, cap, g, rfl, hcap, hmx, hg⟩ := hO.form
      have hN0 : 0 < N := by omega
      obtain ⟨rfl, hgb, hgl, hgc⟩ := hg (by omega)
      have HGC := Lib.hid hgc
      have HGN := Lib.hid (show w2.heap[g]? ≠ none by rw [Array.getElem?_eq_getElem hgl]; simp)
      have HZN := Lib.hid hzn
      have hN1 : N ≤ 100000 := by omega
      unfold maxLen at hmx
      rw [hzn] at hcap ⊢
      clear hown hownr hown' hgrow hV hR1 hB1 hzs hO hgc hg HA hN HXN hzn
      have hA3 : Arr .u32 87 w2.heap.size oneS.toL (w2.alloc (.cells #[.int .u32 1, .int .u32 0, .int .u32 0, .int .u32 0, .int .u32 0, .int .u32 0, .int .u32 0, .int .u32 0] 87)) := heap_alloc_new w2 _
      have hR3 := hR2.al (.cells #[.int .u32 1, .int .u32 0, .int .u32 0, .int .u32 0, .int .u32 0, .int .u32 0, .int .u32 0, .int .u32 0] 87)
      have hB3 := hB2.alloc hB2.size (.cells #[.int .u32 1, .int .u32 0, .int .u32 0, .int .u32 0, .int .u32 0, .int .u32 0, .int .u32 0, .int .u32 0] 87)
      have HH3 : Hid ((w2.alloc (.cells #[.int .u32 1, .int .u32 0, .int .u32 0, .int .u32 0, .int .u32 0, .int .u32 0, .int .u32 0, .int .u32 0] 87)).heap[g]? = w2.heap[g]?) := Below.heap_alloc w2 _ g hgl
      have hng : w2.heap.size ≠ g := (Nat.ne_of_lt hgl).symm
      have hnr : w.heap.size ≠ w2.heap.size := Nat.ne_of_lt hR2.lt
      have hle := hB2.size
      clear hR2 hB2
      go_wp2_with fail
      generalize w2.alloc (.cells #[.int .u32 1, .int .u32 0, .int .u32 0, .int .u32 0, .int .u32 0, .int .u32 0, .int .u32 0, .int .u32 0] 87) = w3 at *
      generalize w2.heap.size = E at *
      go_loopw [7] (fun i wr => ∃ (j : Nat) (x : S8), j ≤ N ∧ i = .int .i64 (4 * (j : Int)) ∧ Hid (wr.heap[g]? = w2.heap[g]?) ∧ x.ok ∧ Hid (absorb x (zs.drop (4 * j)) = absorb oneS zs) ∧ Arr .u32 87 E x.toL wr ∧ Arr .u32 24 w.heap.size [0, 0, 0, 0] wr ∧ Below w.heap.size w wr) (fun i _ => 4 * N - (intOf i).toNat)
      case atStart => exact ⟨0, oneS, by omega, rfl, HH3.out, oneS_ok, rfl, hA3, hR3, hB3⟩
      case round =>
        clear hA3 hR3 hB3 HH3
        obtain ⟨j, x, hj, rfl, HH, hx, HX, hA, hR, hB⟩ := hrel
        by_cases hlt : j < N
        · have hlen : 4 * j + 4 ≤ zs.length := by have := HZN.out; omega
          have HD := Lib.hid (drop_four zs j hlen)
          have cl : ∀ k, k < zs.length → wr.cell? ⟨g, k, none⟩ = some (.int .u32 (zs.getD k 0)) := fun k hk => by
            rw [World.cell?_of_block (w := w2) HH.out]
            exact HGC.out k hk
          have k0 := cl (4 * j) (by omega)
          have k1 := cl (4 * j + 1) (by omega)
          have k2 := cl (4 * j + 2) (by omega)
          have k3 := cl (4 * j + 3) (by omega)
          have hd : (⟨zs.getD (4 * j) 0, zs.getD (4 * j + 1) 0, zs.getD (4 * j + 2) 0, zs.getD (4 * j + 3) 0⟩ : D4).ok := ⟨(allW.get HXO.out _), (allW.get HXO.out _), (allW.get HXO.out _), (allW.get HXO.out _)⟩
          generalize zs.getD (4 * j) 0 = d0 at *
          generalize zs.getD (4 * j + 1) 0 = d1 at *
          generalize zs.getD (4 * j + 2) 0 = d2 at *
          generalize zs.getD (4 * j + 3) 0 = d3 at *
          clear cl
          have hgd : g < wr.heap.size := by
            rcases Nat.lt_or_ge g wr.heap.size with q | q
            · exact q
            · have e := HH.out
              rw [Array.getElem?_eq_none q] at e
              exact absurd e.symm HGN.out
          obtain ⟨t0, t1, t2, t3, t4, t5, t6, t7⟩ := hA.c8
          have hbd : decide (4 * (j : Int) < ((4 * N : Nat) : Int)) = true := by simp; omega
          have q0 : (0 : Int) ≤ 4 * (j : Int) := by omega
          have q1 : (0 : Int) ≤ 4 * (j : Int) + 1 := by omega
          have q2 : (0 : Int) ≤ 4 * (j : Int) + 2 := by omega
          have q3 : (0 : Int) ≤ 4 * (j : Int) + 3 := by omega
          have p0 : 4 * (j : Int) < 4 * (N : Int) := by omega
          have p1 : 4 * (j : Int) + 1 < 4 * (N : Int) := by omega
          have p2 : 4 * (j : Int) + 2 < 4 * (N : Int) := by omega
          have p3 : 4 * (j : Int) + 3 < 4 * (N : Int) := by omega
          have r0 : (4 * (j : Int)).toNat = 4 * j := by omega
          have r1 : (4 * (j : Int) + 1).toNat = 4 * j + 1 := by omega
          have r2 : (4 * (j : Int) + 2).toNat = 4 * j + 2 := by omega
          have r3 : (4 * (j : Int) + 3).toNat = 4 * j + 3 := by omega
          have e1 : IntKind.i64.wrap (4 * (j : Int) + 1) = 4 * (j : Int) + 1 := IntWalk.i64_in _ (by omega)
          have e2 : IntKind.i64.wrap (4 * (j : Int) + 2) = 4 * (j : Int) + 2 := IntWalk.i64_in _ (by omega)
          have e3 : IntKind.i64.wrap (4 * (j : Int) + 3) = 4 * (j : Int) + 3 := IntWalk.i64_in _ (by omega)
          go_wp2_with fail
          go_still_tail 21, (by kernel_rfl)
          change wpList _ _ _ _ _ wr.drew
          clear e1 e2 e3 r0 r1 r2 r3 p1 p2 p3 q1 q2 q3 k0 k1 k2 k3 t0 t1 t2 t3 t4 t5 t6 t7
          obtain ⟨wd, hwd⟩ : ∃ wd, wr.drew = wd := ⟨_, rfl⟩
          have hAd : Arr .u32 87 E x.toL wd := by rw [← hwd]; exact hA
          have hRd : Arr .u32 24 w.heap.size [0, 0, 0, 0] wd := by rw [← hwd]; exact hR
          have hBd : Below w.heap.size w wd := by rw [← hwd]; exact hB.drew
          have HHd : Hid (wd.heap[g]? = w2.heap[g]?) := by show _ = _; rw [← hwd]; exact HH.out
          have hgd2 : g < wd.heap.size := by rw [← hwd]; exact hgd
          rw [hwd]
          clear hwd hA hR hB HH hbd hgd
          obtain ⟨y, hy⟩ : ∃ y, takeS x ⟨d0, d1, d2, d3⟩ = y := ⟨_, rfl⟩
          have hyo : y.ok := by rw [← hy]; exact takeS_ok hx hd
          have HY : Hid (absorb y (zs.drop (4 * (j + 1))) = absorb oneS zs) := by
            show _ = _
            rw [← hy, ← HX.out, HD.out]
            exact (absorb_four x ⟨d0, d1, d2, d3⟩ _).symm
          have HCK := Lib.hid (rtake_named x y ⟨d0, d1, d2, d3⟩ wd hx hd hy)
          clear hy HX
          go_wp2_with fail
          refine (HCK.out).mono ?_
          rintro e w5 ⟨rfl, hC⟩
          clear HCK
          have hA2 := hAd.on hC
          have hR2 := hRd.on hC
          have hB2 := hBd.trans (hC.mono hBd.size)
          have HH2 : Hid (w5.heap[g]? = w2.heap[g]?) := by show _ = _; rw [hC.block g hgd2]; exact HHd.out
          clear hAd hRd hBd HHd hC hgd2
          obtain ⟨t0, t1, t2, t3, t4, t5, t6, t7⟩ := hA2.c8
          obtain ⟨f0, f1, f2, f3, f4, f5, f6, f7⟩ := hA2.f8
          have hA3 := put8 (y := y) hA2 rfl
          have hR3 := far8 hR2 hnr y
          have hB3 := below_put8 hB2 hle y
          have HH3 : Hid (((((((((w5.setCell ⟨E, 0, none⟩ (.int .u32 y.x0)).setCell ⟨E, 1, none⟩ (.int .u32 y.x1)).setCell ⟨E, 2, none⟩ (.int .u32 y.x2)).setCell ⟨E, 3, none⟩ (.int .u32 y.x3)).setCell ⟨E, 4, none⟩ (.int .u32 y.x4)).setCell ⟨E, 5, none⟩ (.int .u32 y.x5)).setCell ⟨E, 6, none⟩ (.int .u32 y.x6)).setCell ⟨E, 7, none⟩ (.int .u32 y.x7)).heap[g]? = w2.heap[g]?) := by
            show _ = _
            rw [heap_setCell_other _ _ _ _ hng.symm, heap_setCell_other _ _ _ _ hng.symm, heap_setCell_other _ _ _ _ hng.symm, heap_setCell_other _ _ _ _ hng.symm, heap_setCell_other _ _ _ _ hng.symm, heap_setCell_other _ _ _ _ hng.symm, heap_setCell_other _ _ _ _ hng.symm, heap_setCell_other _ _ _ _ hng.symm]
            exact HH2.out
          clear hA2 hR2 hB2 HH2
          go_wp2_with fail
          go_roundw
          case rel => exact ⟨j + 1, y, by omega, congrArg (Value.int .i64) (by omega), HH3, hyo, HY, hA3, hR3, hB3⟩
          case measure => simp [intOf]; omega
        · have hjN : j = N := by omega
          subst hjN
          have HE : Hid (ofD s.data.toList = frontS x) := by
            show _ = _
            rw [ofD, HZ.out, ← HX.out, List.drop_eq_nil_of_le (by have := HZN.out; omega), absorb_nil]
          clear HX HH
          have hbd : decide (4 * (j : Int) < ((4 * j : Nat) : Int)) = false := by simp
          have hbe : ((4 * j : Nat) : Int) ≤ 4 * (j : Int) := by omega
          obtain ⟨t0, t1, t2, t3, _, _, _, _⟩ := hA.c8
          obtain ⟨b0, b1, b2, b3⟩ := Arr.c4 (d := zeroD) hR
          obtain ⟨f0, f1, f2, f3⟩ := hR.f4
          have hRf := put4 (d := frontS x) hR rfl
          have hBf := below_put4 hB (Nat.le_refl _) (frontS x)
          clear hA hR hB
          go_wp2_with fail
          simp only [frontS] at hRf hBf
          generalize (((wr.setCell ⟨w.heap.size, 0, none⟩ (.int .u32 x.x0)).setCell ⟨w.heap.size, 1, none⟩ (.int .u32 x.x1)).setCell ⟨w.heap.size, 2, none⟩ (.int .u32 x.x2)).setCell ⟨w.heap.size, 3, none⟩ (.int .u32 x.x3) = wf at *
          obtain ⟨r0, r1, r2, r3⟩ := Arr.c4 (d := ⟨x.x0, x.x1, x.x2, x.x3⟩) hRf
          simp only at r0 r1 r2 r3
          refine bodyPost_ret (v := (frontS x).val) (by simp [results, Tryd.results44, go_sem, D4.val, frontS, r0, r1, r2, r3]) rfl ⟨by rw [HE.out], hBf⟩
end

section
/-! Whole states and whole digests, held against each other. -/
open Go.RowKit

def sameD (c d : D4) : Bool := c.d0 == d.d0 && (c.d1 == d.d1 && (c.d2 == d.d2 && c.d3 == d.d3))
def sameS (c d : S8) : Bool := c.x0 == d.x0 && (c.x1 == d.x1 && (c.x2 == d.x2 && (c.x3 == d.x3 && (c.x4 == d.x4 && (c.x5 == d.x5 && (c.x6 == d.x6 && c.x7 == d.x7))))))
theorem sameD_iff (c d : D4) : sameD c d = true ↔ c = d := by
  cases c; cases d
  simp [sameD]
theorem sameS_iff (c d : S8) : sameS c d = true ↔ c = d := by
  cases c; cases d
  simp [sameS]
theorem eqD_run (c d : D4) (w : World) : Sem.run Tryd.prog (Op.equalIn 10000 24 (.agg #[.int .u32 c.d0, .int .u32 c.d1, .int .u32 c.d2, .int .u32 c.d3]) (.agg #[.int .u32 d.d0, .int .u32 d.d1, .int .u32 d.d2, .int .u32 d.d3])) w = Result.ok (sameD c d) w := by
  obtain ⟨i, hi, _⟩ := info_parts (show (Tryd.prog.info? 22).map (fun i => (i.zero, i.size, i.bytes)) = some (some (.int .u32 0), 1, 4) by kernel_rfl)
  rw [run_equalIn_array (P := Tryd.prog) (w := w) 9999 _ _ Tryd.underlying24 hi]
  rw [show Tryd.prog.cellsOf 22 = 1 by kernel_rfl]
  simp [Op.eqItems, List.range, List.range.loop, go_sem, part]
  unfold sameD
  repeat' split
  all_goals simp_all
theorem eqD_yes (d : D4) (w : World) : Sem.run Tryd.prog (Op.equalIn 10000 24 (.agg #[.int .u32 d.d0, .int .u32 d.d1, .int .u32 d.d2, .int .u32 d.d3]) (.agg #[.int .u32 d.d0, .int .u32 d.d1, .int .u32 d.d2, .int .u32 d.d3])) w = Result.ok true w := by
  rw [eqD_run, (sameD_iff d d).mpr rfl]
theorem eqS_run (c d : S8) (w : World) : Sem.run Tryd.prog (Op.equalIn 10000 87 (.agg #[.int .u32 c.x0, .int .u32 c.x1, .int .u32 c.x2, .int .u32 c.x3, .int .u32 c.x4, .int .u32 c.x5, .int .u32 c.x6, .int .u32 c.x7]) (.agg #[.int .u32 d.x0, .int .u32 d.x1, .int .u32 d.x2, .int .u32 d.x3, .int .u32 d.x4, .int .u32 d.x5, .int .u32 d.x6, .int .u32 d.x7])) w = Result.ok (sameS c d) w := by
  obtain ⟨i, hi, _⟩ := info_parts (show (Tryd.prog.info? 22).map (fun i => (i.zero, i.size, i.bytes)) = some (some (.int .u32 0), 1, 4) by kernel_rfl)
  rw [run_equalIn_array (P := Tryd.prog) (w := w) 9999 _ _ Tryd.underlying87 hi]
  rw [show Tryd.prog.cellsOf 22 = 1 by kernel_rfl]
  simp [Op.eqItems, List.range, List.range.loop, go_sem, part]
  unfold sameS
  repeat' split
  all_goals simp_all
theorem eqS_yes (d : S8) (w : World) : Sem.run Tryd.prog (Op.equalIn 10000 87 (.agg #[.int .u32 d.x0, .int .u32 d.x1, .int .u32 d.x2, .int .u32 d.x3, .int .u32 d.x4, .int .u32 d.x5, .int .u32 d.x6, .int .u32 d.x7]) (.agg #[.int .u32 d.x0, .int .u32 d.x1, .int .u32 d.x2, .int .u32 d.x3, .int .u32 d.x4, .int .u32 d.x5, .int .u32 d.x6, .int .u32 d.x7])) w = Result.ok true w := by
  rw [eqS_run, (sameS_iff d d).mpr rfl]
theorem eqS_no {c d : S8} (h : c ≠ d) (w : World) : Sem.run Tryd.prog (Op.equalIn 10000 87 (.agg #[.int .u32 c.x0, .int .u32 c.x1, .int .u32 c.x2, .int .u32 c.x3, .int .u32 c.x4, .int .u32 c.x5, .int .u32 c.x6, .int .u32 c.x7]) (.agg #[.int .u32 d.x0, .int .u32 d.x1, .int .u32 d.x2, .int .u32 d.x3, .int .u32 d.x4, .int .u32 d.x5, .int .u32 d.x6, .int .u32 d.x7])) w = Result.ok false w := by
  rw [eqS_run]
  cases q : sameS c d with
  | false => rfl
  | true => exact absurd ((sameS_iff c d).mp q) h
end

end Go.Proofs.YtdphhpmkcalahaaDoor
