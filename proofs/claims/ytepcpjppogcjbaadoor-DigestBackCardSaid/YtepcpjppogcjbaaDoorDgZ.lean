/-
  The contract of the document's Pair: the room for the state may come at any time.
-/
import Derived.Test.YtepcpjppogcjbaaDoorDgY
namespace Go.Proofs.YtepcpjppogcjbaaDoor
open Go.RowKit

theorem rtake_two (y : S8) (d : D4) (w : World) (hd : d.ok) (hy : takeS twoS d = y) : Calls Tryd.prog 32 #[.agg #[.int .u32 2, .int .u32 0, .int .u32 0, .int .u32 0, .int .u32 0, .int .u32 0, .int .u32 0, .int .u32 0], .agg #[.int .u32 d.d0, .int .u32 d.d1, .int .u32 d.d2, .int .u32 d.d3]] w fun e w' => e = .returned (.agg #[.int .u32 y.x0, .int .u32 y.x1, .int .u32 y.x2, .int .u32 y.x3, .int .u32 y.x4, .int .u32 y.x5, .int .u32 y.x6, .int .u32 y.x7]) ∧ Below w.heap.size w w' := by
  subst hy
  exact take_any twoS d w twoS_ok hd
theorem rtake_lit (s y : S8) (d : D4) (w : World) (hs : s.ok) (hd : d.ok) (hy : takeS s d = y) : Calls Tryd.prog 32 #[.agg #[.int .u32 s.x0, .int .u32 s.x1, .int .u32 s.x2, .int .u32 s.x3, .int .u32 s.x4, .int .u32 s.x5, .int .u32 s.x6, .int .u32 s.x7], .agg #[.int .u32 d.d0, .int .u32 d.d1, .int .u32 d.d2, .int .u32 d.d3]] w fun e w' => e = .returned (.agg #[.int .u32 y.x0, .int .u32 y.x1, .int .u32 y.x2, .int .u32 y.x3, .int .u32 y.x4, .int .u32 y.x5, .int .u32 y.x6, .int .u32 y.x7]) ∧ Below w.heap.size w w' := by
  subst hy
  exact take_any s d w hs hd
theorem new_after {X w' : World} (h : Below (X.alloc (.cells #[.int .u32 0, .int .u32 0, .int .u32 0, .int .u32 0, .int .u32 0, .int .u32 0, .int .u32 0, .int .u32 0] 23)).heap.size (X.alloc (.cells #[.int .u32 0, .int .u32 0, .int .u32 0, .int .u32 0, .int .u32 0, .int .u32 0, .int .u32 0, .int .u32 0] 23)) w') : Arr .u32 23 X.heap.size [0, 0, 0, 0, 0, 0, 0, 0] w' := by
  unfold Arr
  rw [h.block _ (by simp)]
  exact heap_alloc_new X _
theorem keep8al {a b : D4} {B : Nat} {W : World} {o : Obj} (f : W.cell? ⟨B, 0, none⟩ = some (.int .u32 a.d0) ∧ W.cell? ⟨B, 1, none⟩ = some (.int .u32 a.d1) ∧ W.cell? ⟨B, 2, none⟩ = some (.int .u32 a.d2) ∧ W.cell? ⟨B, 3, none⟩ = some (.int .u32 a.d3) ∧ W.cell? ⟨B + 1, 0, none⟩ = some (.int .u32 b.d0) ∧ W.cell? ⟨B + 1, 1, none⟩ = some (.int .u32 b.d1) ∧ W.cell? ⟨B + 1, 2, none⟩ = some (.int .u32 b.d2) ∧ W.cell? ⟨B + 1, 3, none⟩ = some (.int .u32 b.d3)) : (W.alloc o).cell? ⟨B, 0, none⟩ = some (.int .u32 a.d0) ∧ (W.alloc o).cell? ⟨B, 1, none⟩ = some (.int .u32 a.d1) ∧ (W.alloc o).cell? ⟨B, 2, none⟩ = some (.int .u32 a.d2) ∧ (W.alloc o).cell? ⟨B, 3, none⟩ = some (.int .u32 a.d3) ∧ (W.alloc o).cell? ⟨B + 1, 0, none⟩ = some (.int .u32 b.d0) ∧ (W.alloc o).cell? ⟨B + 1, 1, none⟩ = some (.int .u32 b.d1) ∧ (W.alloc o).cell? ⟨B + 1, 2, none⟩ = some (.int .u32 b.d2) ∧ (W.alloc o).cell? ⟨B + 1, 3, none⟩ = some (.int .u32 b.d3) :=
  keep8 ((Below.refl _ W).alloc (Nat.le_refl _) o) f
theorem keep8al2 {a b : D4} {B : Nat} {W : World} {o o' : Obj} (hg : B + 1 < W.heap.size) (f : (W.alloc o).cell? ⟨B, 0, none⟩ = some (.int .u32 a.d0) ∧ (W.alloc o).cell? ⟨B, 1, none⟩ = some (.int .u32 a.d1) ∧ (W.alloc o).cell? ⟨B, 2, none⟩ = some (.int .u32 a.d2) ∧ (W.alloc o).cell? ⟨B, 3, none⟩ = some (.int .u32 a.d3) ∧ (W.alloc o).cell? ⟨B + 1, 0, none⟩ = some (.int .u32 b.d0) ∧ (W.alloc o).cell? ⟨B + 1, 1, none⟩ = some (.int .u32 b.d1) ∧ (W.alloc o).cell? ⟨B + 1, 2, none⟩ = some (.int .u32 b.d2) ∧ (W.alloc o).cell? ⟨B + 1, 3, none⟩ = some (.int .u32 b.d3)) : (W.alloc o').cell? ⟨B, 0, none⟩ = some (.int .u32 a.d0) ∧ (W.alloc o').cell? ⟨B, 1, none⟩ = some (.int .u32 a.d1) ∧ (W.alloc o').cell? ⟨B, 2, none⟩ = some (.int .u32 a.d2) ∧ (W.alloc o').cell? ⟨B, 3, none⟩ = some (.int .u32 a.d3) ∧ (W.alloc o').cell? ⟨B + 1, 0, none⟩ = some (.int .u32 b.d0) ∧ (W.alloc o').cell? ⟨B + 1, 1, none⟩ = some (.int .u32 b.d1) ∧ (W.alloc o').cell? ⟨B + 1, 2, none⟩ = some (.int .u32 b.d2) ∧ (W.alloc o').cell? ⟨B + 1, 3, none⟩ = some (.int .u32 b.d3) := by
  obtain ⟨f0, f1, f2, f3, f4, f5, f6, f7⟩ := f
  have lt : ∀ {q : Nat} {j : Nat} {v : Value}, q < W.heap.size → (W.alloc o).cell? ⟨q, j, none⟩ = some v → (W.alloc o').cell? ⟨q, j, none⟩ = some v := fun {q j v} hq e => by
    rw [((Below.refl _ W).alloc (Nat.le_refl _) o').cell (p := ⟨q, j, none⟩) hq, ← ((Below.refl _ W).alloc (Nat.le_refl _) o).cell (p := ⟨q, j, none⟩) hq]
    exact e
  exact ⟨lt (by omega) f0, lt (by omega) f1, lt (by omega) f2, lt (by omega) f3, lt (by omega) f4, lt (by omega) f5, lt (by omega) f6, lt (by omega) f7⟩
theorem keep8z {a b : D4} {B g : Nat} {W : World} {y0 y1 y2 y3 y4 y5 y6 y7 : Int} (hg : B + 1 < g) (f : W.cell? ⟨B, 0, none⟩ = some (.int .u32 a.d0) ∧ W.cell? ⟨B, 1, none⟩ = some (.int .u32 a.d1) ∧ W.cell? ⟨B, 2, none⟩ = some (.int .u32 a.d2) ∧ W.cell? ⟨B, 3, none⟩ = some (.int .u32 a.d3) ∧ W.cell? ⟨B + 1, 0, none⟩ = some (.int .u32 b.d0) ∧ W.cell? ⟨B + 1, 1, none⟩ = some (.int .u32 b.d1) ∧ W.cell? ⟨B + 1, 2, none⟩ = some (.int .u32 b.d2) ∧ W.cell? ⟨B + 1, 3, none⟩ = some (.int .u32 b.d3)) : ((((((((W.setCell ⟨g, 0, none⟩ (.int .u32 y0)).setCell ⟨g, 1, none⟩ (.int .u32 y1)).setCell ⟨g, 2, none⟩ (.int .u32 y2)).setCell ⟨g, 3, none⟩ (.int .u32 y3)).setCell ⟨g, 4, none⟩ (.int .u32 y4)).setCell ⟨g, 5, none⟩ (.int .u32 y5)).setCell ⟨g, 6, none⟩ (.int .u32 y6)).setCell ⟨g, 7, none⟩ (.int .u32 y7)).cell? ⟨B, 0, none⟩ = some (.int .u32 a.d0) ∧ ((((((((W.setCell ⟨g, 0, none⟩ (.int .u32 y0)).setCell ⟨g, 1, none⟩ (.int .u32 y1)).setCell ⟨g, 2, none⟩ (.int .u32 y2)).setCell ⟨g, 3, none⟩ (.int .u32 y3)).setCell ⟨g, 4, none⟩ (.int .u32 y4)).setCell ⟨g, 5, none⟩ (.int .u32 y5)).setCell ⟨g, 6, none⟩ (.int .u32 y6)).setCell ⟨g, 7, none⟩ (.int .u32 y7)).cell? ⟨B, 1, none⟩ = some (.int .u32 a.d1) ∧ ((((((((W.setCell ⟨g, 0, none⟩ (.int .u32 y0)).setCell ⟨g, 1, none⟩ (.int .u32 y1)).setCell ⟨g, 2, none⟩ (.int .u32 y2)).setCell ⟨g, 3, none⟩ (.int .u32 y3)).setCell ⟨g, 4, none⟩ (.int .u32 y4)).setCell ⟨g, 5, none⟩ (.int .u32 y5)).setCell ⟨g, 6, none⟩ (.int .u32 y6)).setCell ⟨g, 7, none⟩ (.int .u32 y7)).cell? ⟨B, 2, none⟩ = some (.int .u32 a.d2) ∧ ((((((((W.setCell ⟨g, 0, none⟩ (.int .u32 y0)).setCell ⟨g, 1, none⟩ (.int .u32 y1)).setCell ⟨g, 2, none⟩ (.int .u32 y2)).setCell ⟨g, 3, none⟩ (.int .u32 y3)).setCell ⟨g, 4, none⟩ (.int .u32 y4)).setCell ⟨g, 5, none⟩ (.int .u32 y5)).setCell ⟨g, 6, none⟩ (.int .u32 y6)).setCell ⟨g, 7, none⟩ (.int .u32 y7)).cell? ⟨B, 3, none⟩ = some (.int .u32 a.d3) ∧ ((((((((W.setCell ⟨g, 0, none⟩ (.int .u32 y0)).setCell ⟨g, 1, none⟩ (.int .u32 y1)).setCell ⟨g, 2, none⟩ (.int .u32 y2)).setCell ⟨g, 3, none⟩ (.int .u32 y3)).setCell ⟨g, 4, none⟩ (.int .u32 y4)).setCell ⟨g, 5, none⟩ (.int .u32 y5)).setCell ⟨g, 6, none⟩ (.int .u32 y6)).setCell ⟨g, 7, none⟩ (.int .u32 y7)).cell? ⟨B + 1, 0, none⟩ = some (.int .u32 b.d0) ∧ ((((((((W.setCell ⟨g, 0, none⟩ (.int .u32 y0)).setCell ⟨g, 1, none⟩ (.int .u32 y1)).setCell ⟨g, 2, none⟩ (.int .u32 y2)).setCell ⟨g, 3, none⟩ (.int .u32 y3)).setCell ⟨g, 4, none⟩ (.int .u32 y4)).setCell ⟨g, 5, none⟩ (.int .u32 y5)).setCell ⟨g, 6, none⟩ (.int .u32 y6)).setCell ⟨g, 7, none⟩ (.int .u32 y7)).cell? ⟨B + 1, 1, none⟩ = some (.int .u32 b.d1) ∧ ((((((((W.setCell ⟨g, 0, none⟩ (.int .u32 y0)).setCell ⟨g, 1, none⟩ (.int .u32 y1)).setCell ⟨g, 2, none⟩ (.int .u32 y2)).setCell ⟨g, 3, none⟩ (.int .u32 y3)).setCell ⟨g, 4, none⟩ (.int .u32 y4)).setCell ⟨g, 5, none⟩ (.int .u32 y5)).setCell ⟨g, 6, none⟩ (.int .u32 y6)).setCell ⟨g, 7, none⟩ (.int .u32 y7)).cell? ⟨B + 1, 2, none⟩ = some (.int .u32 b.d2) ∧ ((((((((W.setCell ⟨g, 0, none⟩ (.int .u32 y0)).setCell ⟨g, 1, none⟩ (.int .u32 y1)).setCell ⟨g, 2, none⟩ (.int .u32 y2)).setCell ⟨g, 3, none⟩ (.int .u32 y3)).setCell ⟨g, 4, none⟩ (.int .u32 y4)).setCell ⟨g, 5, none⟩ (.int .u32 y5)).setCell ⟨g, 6, none⟩ (.int .u32 y6)).setCell ⟨g, 7, none⟩ (.int .u32 y7)).cell? ⟨B + 1, 3, none⟩ = some (.int .u32 b.d3) := by
  obtain ⟨f0, f1, f2, f3, f4, f5, f6, f7⟩ := f
  have h : Below g W ((((((((W.setCell ⟨g, 0, none⟩ (.int .u32 y0)).setCell ⟨g, 1, none⟩ (.int .u32 y1)).setCell ⟨g, 2, none⟩ (.int .u32 y2)).setCell ⟨g, 3, none⟩ (.int .u32 y3)).setCell ⟨g, 4, none⟩ (.int .u32 y4)).setCell ⟨g, 5, none⟩ (.int .u32 y5)).setCell ⟨g, 6, none⟩ (.int .u32 y6)).setCell ⟨g, 7, none⟩ (.int .u32 y7)) := below_put8 (Below.refl _ W) (Nat.le_refl _) ⟨y0, y1, y2, y3, y4, y5, y6, y7⟩
  have lt : ∀ {q : Nat} {j : Nat} {v : Value}, q < g → W.cell? ⟨q, j, none⟩ = some v → ((((((((W.setCell ⟨g, 0, none⟩ (.int .u32 y0)).setCell ⟨g, 1, none⟩ (.int .u32 y1)).setCell ⟨g, 2, none⟩ (.int .u32 y2)).setCell ⟨g, 3, none⟩ (.int .u32 y3)).setCell ⟨g, 4, none⟩ (.int .u32 y4)).setCell ⟨g, 5, none⟩ (.int .u32 y5)).setCell ⟨g, 6, none⟩ (.int .u32 y6)).setCell ⟨g, 7, none⟩ (.int .u32 y7)).cell? ⟨q, j, none⟩ = some v := fun {q j v} hq e => by
    rw [h.cell (p := ⟨q, j, none⟩) hq]
    exact e
  exact ⟨lt (by omega) f0, lt (by omega) f1, lt (by omega) f2, lt (by omega) f3, lt (by omega) f4, lt (by omega) f5, lt (by omega) f6, lt (by omega) f7⟩

set_option maxHeartbeats 3000000 in
theorem rpair_any (a b : D4) (w : World) (ha : a.ok) (hb : b.ok) : Calls Tryd.prog 19 #[a.val, b.val] w fun e w' => e = .returned (pairS a b).val ∧ Below w.heap.size w w' := by
  obtain ⟨w0, hw0⟩ : ∃ w0, ((w.alloc (.cells #[.int .u32 a.d0, .int .u32 a.d1, .int .u32 a.d2, .int .u32 a.d3] 29)).alloc (.cells #[.int .u32 b.d0, .int .u32 b.d1, .int .u32 b.d2, .int .u32 b.d3] 29)).alloc (.cells #[.int .u32 0, .int .u32 0, .int .u32 0, .int .u32 0] 29) = w0 := ⟨_, rfl⟩
  obtain ⟨hA, hD, hR, hB⟩ := start444 a b w w0 hw0
  have HW := Lib.hid hw0
  clear hw0
  obtain ⟨y1, hy1⟩ : ∃ y, takeS twoS a = y := ⟨_, rfl⟩
  have hy1o : y1.ok := by rw [← hy1]; exact takeS_ok twoS_ok ha
  obtain ⟨y2, hy2⟩ : ∃ y, takeS y1 b = y := ⟨_, rfl⟩
  have HY : Hid (pairS a b = frontS y2) := by show _ = _; rw [pairS, hy1, hy2]
  have HY1 := Lib.hid hy1
  have HY2 := Lib.hid hy2
  clear hy1 hy2
  go_enter Tryd.func19, Tryd.ntmps19
  simp only [D4.val]
  go_wp2_with fail
  rw [HW.out]
  clear HW
  have hAd : Arr .u32 29 w.heap.size a.toL w0.drew := hA
  have hDd : Arr .u32 29 (w.heap.size + 1) b.toL w0.drew := hD
  have hRd : Arr .u32 29 (w.heap.size + 1 + 1) [0, 0, 0, 0] w0.drew := hR
  have hBd := hB.drew
  have hS0 : w0.drew.cell? ⟨w.heap.size, 0, none⟩ = some (.int .u32 a.d0) ∧ w0.drew.cell? ⟨w.heap.size, 1, none⟩ = some (.int .u32 a.d1) ∧ w0.drew.cell? ⟨w.heap.size, 2, none⟩ = some (.int .u32 a.d2) ∧ w0.drew.cell? ⟨w.heap.size, 3, none⟩ = some (.int .u32 a.d3) ∧ w0.drew.cell? ⟨w.heap.size + 1, 0, none⟩ = some (.int .u32 b.d0) ∧ w0.drew.cell? ⟨w.heap.size + 1, 1, none⟩ = some (.int .u32 b.d1) ∧ w0.drew.cell? ⟨w.heap.size + 1, 2, none⟩ = some (.int .u32 b.d2) ∧ w0.drew.cell? ⟨w.heap.size + 1, 3, none⟩ = some (.int .u32 b.d3) :=
    ⟨hAd.c4.1, hAd.c4.2.1, hAd.c4.2.2.1, hAd.c4.2.2.2, hDd.c4.1, hDd.c4.2.1, hDd.c4.2.2.1, hDd.c4.2.2.2⟩
  have HS0 := Lib.hid hS0
  obtain ⟨wn, hwn⟩ : ∃ wn, (w0.alloc (.cells #[.int .u32 0, .int .u32 0, .int .u32 0, .int .u32 0, .int .u32 0, .int .u32 0, .int .u32 0, .int .u32 0] 23)).drew = wn := ⟨_, rfl⟩
  have hRn : Arr .u32 29 (w.heap.size + 1 + 1) [0, 0, 0, 0] wn := by rw [← hwn]; exact hR.al _
  have hNn : Arr .u32 23 w0.heap.size [0, 0, 0, 0, 0, 0, 0, 0] wn := by rw [← hwn]; exact heap_alloc_new w0 _
  have hBn : Below w.heap.size w wn := by rw [← hwn]; exact (hB.alloc hB.size _).drew
  have hBdn : Below w0.drew.heap.size w0.drew wn := by rw [← hwn]; exact ((Below.refl _ w0.drew).alloc (Nat.le_refl _) _)
  have HSn := Lib.hid (keep8 hBdn hS0)
  have hz0 : w.heap.size + 1 < w0.heap.size := by have := hR.lt; omega
  have hzz0 : w.heap.size + 1 + 1 ≠ w0.heap.size := Nat.ne_of_lt hR.lt
  clear hBdn
  clear hS0 hA hD hR hB hAd hDd
  go_region_held3 (fun w' => w'.cell? ⟨w.heap.size, 0, none⟩ = some (.int .u32 a.d0) ∧ w'.cell? ⟨w.heap.size, 1, none⟩ = some (.int .u32 a.d1) ∧ w'.cell? ⟨w.heap.size, 2, none⟩ = some (.int .u32 a.d2) ∧ w'.cell? ⟨w.heap.size, 3, none⟩ = some (.int .u32 a.d3) ∧ w'.cell? ⟨w.heap.size + 1, 0, none⟩ = some (.int .u32 b.d0) ∧ w'.cell? ⟨w.heap.size + 1, 1, none⟩ = some (.int .u32 b.d1) ∧ w'.cell? ⟨w.heap.size + 1, 2, none⟩ = some (.int .u32 b.d2) ∧ w'.cell? ⟨w.heap.size + 1, 3, none⟩ = some (.int .u32 b.d3))
    (first | ((with_reducible refine keep8z ?_ ?_) <;> assumption) | ((with_reducible refine keep8al ?_); assumption) | ((with_reducible refine keep8al2 (o := .cells #[.int .u32 0, .int .u32 0, .int .u32 0, .int .u32 0, .int .u32 0, .int .u32 0, .int .u32 0, .int .u32 0] 23) ?_ ?_) <;> assumption) | ((with_reducible refine keep8 hA2 ?_); assumption) | ((with_reducible refine keep8 hA1 ?_); assumption) | (with_reducible exact HS0.out) | (with_reducible exact HSn.out))
    (first
      | (go_at_call 32; (with_reducible refine (rtake_two y1 a _ ha HY1.out).mono ?_); rintro e w1 ⟨rfl, hA1⟩; (first | (with_reducible have hR1 := hRd.on hA1) | (with_reducible have hR1 := hRn.on hA1)); (first | (with_reducible have hB1 := hBd.trans (hA1.mono hBd.size)) | (with_reducible have hB1 := hBn.trans (hA1.mono hBn.size))); (try (with_reducible have hN1 := hNn.on hA1)); have hz1 : w.heap.size + 1 < w1.heap.size := Nat.lt_of_succ_lt hR1.lt; have hzz1 : w.heap.size + 1 + 1 ≠ w1.heap.size := Nat.ne_of_lt hR1.lt)
      | (go_at_call 32; (with_reducible refine (rtake_lit y1 y2 b _ hy1o hb HY2.out).mono ?_); rintro e w2 ⟨rfl, hA2⟩; (first | (with_reducible have hR2 := hR1.on hA2) | (with_reducible have hR2 := (hR1.al _).on hA2)); (first | (with_reducible have hB2 := hB1.trans (hA2.mono hB1.size)) | (with_reducible have hB2 := (hB1.alloc hB1.size _).trans (hA2.mono (hB1.alloc hB1.size _).size))); (try (with_reducible have hN2 := hN1.on hA2)); (try (with_reducible have hN2 := new_after hA2)); (try (obtain ⟨k0, k1, k2, k3, k4, k5, k6, k7⟩ := Arr.c8 (y := zeroS) hN2; obtain ⟨q0, q1, q2, q3, q4, q5, q6, q7⟩ := hN2.f8)); have hz2 : w.heap.size + 1 < w2.heap.size := Nat.lt_of_succ_lt hR2.lt; have hzz2 : w.heap.size + 1 + 1 ≠ w2.heap.size := Nat.ne_of_lt hR2.lt))
  · have hNf : Arr .u32 23 w2.heap.size y2.toL (w2.alloc (.cells #[.int .u32 y2.x0, .int .u32 y2.x1, .int .u32 y2.x2, .int .u32 y2.x3, .int .u32 y2.x4, .int .u32 y2.x5, .int .u32 y2.x6, .int .u32 y2.x7] 23)) := heap_alloc_new w2 _
    have hRf := hR2.al (.cells #[.int .u32 y2.x0, .int .u32 y2.x1, .int .u32 y2.x2, .int .u32 y2.x3, .int .u32 y2.x4, .int .u32 y2.x5, .int .u32 y2.x6, .int .u32 y2.x7] 23)
    have hBf := hB2.alloc hB2.size (.cells #[.int .u32 y2.x0, .int .u32 y2.x1, .int .u32 y2.x2, .int .u32 y2.x3, .int .u32 y2.x4, .int .u32 y2.x5, .int .u32 y2.x6, .int .u32 y2.x7] 23)
    generalize w2.alloc (.cells #[.int .u32 y2.x0, .int .u32 y2.x1, .int .u32 y2.x2, .int .u32 y2.x3, .int .u32 y2.x4, .int .u32 y2.x5, .int .u32 y2.x6, .int .u32 y2.x7] 23) = wf at *
    obtain ⟨t0, t1, t2, t3, _, _, _, _⟩ := hNf.c8
    obtain ⟨b0, b1, b2, b3⟩ := Arr.c4 (d := zeroD) hRf
    obtain ⟨f0, f1, f2, f3⟩ := hRf.f4
    have hRg := put4 (d := frontS y2) hRf rfl
    have hBg := below_put4 hBf (by omega : w.heap.size ≤ w.heap.size + 1 + 1) (frontS y2)
    go_wp2_with fail
    simp only [frontS] at hRg hBg
    generalize (((wf.setCell ⟨w.heap.size + 1 + 1, 0, none⟩ (.int .u32 y2.x0)).setCell ⟨w.heap.size + 1 + 1, 1, none⟩ (.int .u32 y2.x1)).setCell ⟨w.heap.size + 1 + 1, 2, none⟩ (.int .u32 y2.x2)).setCell ⟨w.heap.size + 1 + 1, 3, none⟩ (.int .u32 y2.x3) = wg at *
    obtain ⟨r0, r1, r2, r3⟩ := Arr.c4 (d := ⟨y2.x0, y2.x1, y2.x2, y2.x3⟩) hRg
    simp only at r0 r1 r2 r3
    refine bodyPost_ret (v := (frontS y2).val) (by simp [results, Tryd.results19, go_sem, D4.val, frontS, r0, r1, r2, r3]) rfl ⟨by rw [HY.out]; rfl, hBg⟩
  · have hNf := put8 (y := y2) hN2 rfl
    have hRf := far8 hR2 hzz1 y2
    have hBf := below_put8 hB2 hB1.size y2
    generalize ((((((((w2.setCell ⟨w1.heap.size, 0, none⟩ (.int .u32 y2.x0)).setCell ⟨w1.heap.size, 1, none⟩ (.int .u32 y2.x1)).setCell ⟨w1.heap.size, 2, none⟩ (.int .u32 y2.x2)).setCell ⟨w1.heap.size, 3, none⟩ (.int .u32 y2.x3)).setCell ⟨w1.heap.size, 4, none⟩ (.int .u32 y2.x4)).setCell ⟨w1.heap.size, 5, none⟩ (.int .u32 y2.x5)).setCell ⟨w1.heap.size, 6, none⟩ (.int .u32 y2.x6)).setCell ⟨w1.heap.size, 7, none⟩ (.int .u32 y2.x7)) = wf at *
    obtain ⟨t0, t1, t2, t3, _, _, _, _⟩ := hNf.c8
    obtain ⟨b0, b1, b2, b3⟩ := Arr.c4 (d := zeroD) hRf
    obtain ⟨f0, f1, f2, f3⟩ := hRf.f4
    have hRg := put4 (d := frontS y2) hRf rfl
    have hBg := below_put4 hBf (by omega : w.heap.size ≤ w.heap.size + 1 + 1) (frontS y2)
    go_wp2_with fail
    simp only [frontS] at hRg hBg
    generalize (((wf.setCell ⟨w.heap.size + 1 + 1, 0, none⟩ (.int .u32 y2.x0)).setCell ⟨w.heap.size + 1 + 1, 1, none⟩ (.int .u32 y2.x1)).setCell ⟨w.heap.size + 1 + 1, 2, none⟩ (.int .u32 y2.x2)).setCell ⟨w.heap.size + 1 + 1, 3, none⟩ (.int .u32 y2.x3) = wg at *
    obtain ⟨r0, r1, r2, r3⟩ := Arr.c4 (d := ⟨y2.x0, y2.x1, y2.x2, y2.x3⟩) hRg
    simp only at r0 r1 r2 r3
    refine bodyPost_ret (v := (frontS y2).val) (by simp [results, Tryd.results19, go_sem, D4.val, frontS, r0, r1, r2, r3]) rfl ⟨by rw [HY.out]; rfl, hBg⟩
  · have hNf := put8 (y := y2) hN2 rfl
    have hRf := far8 hR2 hzz0 y2
    have hBf := below_put8 hB2 (show w.heap.size ≤ w0.heap.size by omega) y2
    generalize ((((((((w2.setCell ⟨w0.heap.size, 0, none⟩ (.int .u32 y2.x0)).setCell ⟨w0.heap.size, 1, none⟩ (.int .u32 y2.x1)).setCell ⟨w0.heap.size, 2, none⟩ (.int .u32 y2.x2)).setCell ⟨w0.heap.size, 3, none⟩ (.int .u32 y2.x3)).setCell ⟨w0.heap.size, 4, none⟩ (.int .u32 y2.x4)).setCell ⟨w0.heap.size, 5, none⟩ (.int .u32 y2.x5)).setCell ⟨w0.heap.size, 6, none⟩ (.int .u32 y2.x6)).setCell ⟨w0.heap.size, 7, none⟩ (.int .u32 y2.x7)) = wf at *
    obtain ⟨t0, t1, t2, t3, _, _, _, _⟩ := hNf.c8
    obtain ⟨b0, b1, b2, b3⟩ := Arr.c4 (d := zeroD) hRf
    obtain ⟨f0, f1, f2, f3⟩ := hRf.f4
    have hRg := put4 (d := frontS y2) hRf rfl
    have hBg := below_put4 hBf (by omega : w.heap.size ≤ w.heap.size + 1 + 1) (frontS y2)
    go_wp2_with fail
    simp only [frontS] at hRg hBg
    generalize (((wf.setCell ⟨w.heap.size + 1 + 1, 0, none⟩ (.int .u32 y2.x0)).setCell ⟨w.heap.size + 1 + 1, 1, none⟩ (.int .u32 y2.x1)).setCell ⟨w.heap.size + 1 + 1, 2, none⟩ (.int .u32 y2.x2)).setCell ⟨w.heap.size + 1 + 1, 3, none⟩ (.int .u32 y2.x3) = wg at *
    obtain ⟨r0, r1, r2, r3⟩ := Arr.c4 (d := ⟨y2.x0, y2.x1, y2.x2, y2.x3⟩) hRg
    simp only at r0 r1 r2 r3
    refine bodyPost_ret (v := (frontS y2).val) (by simp [results, Tryd.results19, go_sem, D4.val, frontS, r0, r1, r2, r3]) rfl ⟨by rw [HY.out]; rfl, hBg⟩
end Go.Proofs.YtepcpjppogcjbaaDoor
