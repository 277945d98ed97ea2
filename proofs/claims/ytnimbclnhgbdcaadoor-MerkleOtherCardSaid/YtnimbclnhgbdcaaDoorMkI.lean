/-
  What a proof tells that a list goes on another: the document's on (written by gen_on.py).
-/
import Derived.Test.YtnimbclnhgbdcaaDoorMkY
namespace Go.Proofs.YtnimbclnhgbdcaaDoor
open Go.RowKit Go.Lib

theorem keep3 {x y z : D4} {X Y Z : Nat} {W w' : World} (h1 : w'.heap[X]? = W.heap[X]?) (h2 : w'.heap[Y]? = W.heap[Y]?) (h3 : w'.heap[Z]? = W.heap[Z]?) (f : W.cell? ⟨X, 0, none⟩ = some (.int .u32 x.d0) ∧ W.cell? ⟨X, 1, none⟩ = some (.int .u32 x.d1) ∧ W.cell? ⟨X, 2, none⟩ = some (.int .u32 x.d2) ∧ W.cell? ⟨X, 3, none⟩ = some (.int .u32 x.d3) ∧ W.cell? ⟨Y, 0, none⟩ = some (.int .u32 y.d0) ∧ W.cell? ⟨Y, 1, none⟩ = some (.int .u32 y.d1) ∧ W.cell? ⟨Y, 2, none⟩ = some (.int .u32 y.d2) ∧ W.cell? ⟨Y, 3, none⟩ = some (.int .u32 y.d3) ∧ W.cell? ⟨Z, 0, none⟩ = some (.int .u32 z.d0) ∧ W.cell? ⟨Z, 1, none⟩ = some (.int .u32 z.d1) ∧ W.cell? ⟨Z, 2, none⟩ = some (.int .u32 z.d2) ∧ W.cell? ⟨Z, 3, none⟩ = some (.int .u32 z.d3)) : w'.cell? ⟨X, 0, none⟩ = some (.int .u32 x.d0) ∧ w'.cell? ⟨X, 1, none⟩ = some (.int .u32 x.d1) ∧ w'.cell? ⟨X, 2, none⟩ = some (.int .u32 x.d2) ∧ w'.cell? ⟨X, 3, none⟩ = some (.int .u32 x.d3) ∧ w'.cell? ⟨Y, 0, none⟩ = some (.int .u32 y.d0) ∧ w'.cell? ⟨Y, 1, none⟩ = some (.int .u32 y.d1) ∧ w'.cell? ⟨Y, 2, none⟩ = some (.int .u32 y.d2) ∧ w'.cell? ⟨Y, 3, none⟩ = some (.int .u32 y.d3) ∧ w'.cell? ⟨Z, 0, none⟩ = some (.int .u32 z.d0) ∧ w'.cell? ⟨Z, 1, none⟩ = some (.int .u32 z.d1) ∧ w'.cell? ⟨Z, 2, none⟩ = some (.int .u32 z.d2) ∧ w'.cell? ⟨Z, 3, none⟩ = some (.int .u32 z.d3) := by
  have e1 : ∀ j, w'.cell? ⟨X, j, none⟩ = W.cell? ⟨X, j, none⟩ := fun j => World.cell?_of_block (w := W) h1
  have e2 : ∀ j, w'.cell? ⟨Y, j, none⟩ = W.cell? ⟨Y, j, none⟩ := fun j => World.cell?_of_block (w := W) h2
  have e3 : ∀ j, w'.cell? ⟨Z, j, none⟩ = W.cell? ⟨Z, j, none⟩ := fun j => World.cell?_of_block (w := W) h3
  simp only [e1, e2, e3]
  exact f
theorem keep3b {x y z : D4} {X Y Z : Nat} {W w' : World} (h : Below W.heap.size W w') (f : W.cell? ⟨X, 0, none⟩ = some (.int .u32 x.d0) ∧ W.cell? ⟨X, 1, none⟩ = some (.int .u32 x.d1) ∧ W.cell? ⟨X, 2, none⟩ = some (.int .u32 x.d2) ∧ W.cell? ⟨X, 3, none⟩ = some (.int .u32 x.d3) ∧ W.cell? ⟨Y, 0, none⟩ = some (.int .u32 y.d0) ∧ W.cell? ⟨Y, 1, none⟩ = some (.int .u32 y.d1) ∧ W.cell? ⟨Y, 2, none⟩ = some (.int .u32 y.d2) ∧ W.cell? ⟨Y, 3, none⟩ = some (.int .u32 y.d3) ∧ W.cell? ⟨Z, 0, none⟩ = some (.int .u32 z.d0) ∧ W.cell? ⟨Z, 1, none⟩ = some (.int .u32 z.d1) ∧ W.cell? ⟨Z, 2, none⟩ = some (.int .u32 z.d2) ∧ W.cell? ⟨Z, 3, none⟩ = some (.int .u32 z.d3)) : w'.cell? ⟨X, 0, none⟩ = some (.int .u32 x.d0) ∧ w'.cell? ⟨X, 1, none⟩ = some (.int .u32 x.d1) ∧ w'.cell? ⟨X, 2, none⟩ = some (.int .u32 x.d2) ∧ w'.cell? ⟨X, 3, none⟩ = some (.int .u32 x.d3) ∧ w'.cell? ⟨Y, 0, none⟩ = some (.int .u32 y.d0) ∧ w'.cell? ⟨Y, 1, none⟩ = some (.int .u32 y.d1) ∧ w'.cell? ⟨Y, 2, none⟩ = some (.int .u32 y.d2) ∧ w'.cell? ⟨Y, 3, none⟩ = some (.int .u32 y.d3) ∧ w'.cell? ⟨Z, 0, none⟩ = some (.int .u32 z.d0) ∧ w'.cell? ⟨Z, 1, none⟩ = some (.int .u32 z.d1) ∧ w'.cell? ⟨Z, 2, none⟩ = some (.int .u32 z.d2) ∧ w'.cell? ⟨Z, 3, none⟩ = some (.int .u32 z.d3) :=
  keep3 (h.block X (cell_inS f.1)) (h.block Y (cell_inS f.2.2.2.2.1)) (h.block Z (cell_inS f.2.2.2.2.2.2.2.2.1)) f
theorem heap_set4 {W : World} {X C : Nat} {v : D4} (hX : X ≠ C) : ((((W.setCell ⟨C, 0, none⟩ (.int .u32 v.d0)).setCell ⟨C, 1, none⟩ (.int .u32 v.d1)).setCell ⟨C, 2, none⟩ (.int .u32 v.d2)).setCell ⟨C, 3, none⟩ (.int .u32 v.d3)).heap[X]? = W.heap[X]? := by
  rw [Below.heap_setCell _ _ _ _ hX, Below.heap_setCell _ _ _ _ hX, Below.heap_setCell _ _ _ _ hX, Below.heap_setCell _ _ _ _ hX]
theorem keep3s {x y z v : D4} {X Y Z C : Nat} {W : World} (hX : X ≠ C) (hY : Y ≠ C) (hZ : Z ≠ C) (f : W.cell? ⟨X, 0, none⟩ = some (.int .u32 x.d0) ∧ W.cell? ⟨X, 1, none⟩ = some (.int .u32 x.d1) ∧ W.cell? ⟨X, 2, none⟩ = some (.int .u32 x.d2) ∧ W.cell? ⟨X, 3, none⟩ = some (.int .u32 x.d3) ∧ W.cell? ⟨Y, 0, none⟩ = some (.int .u32 y.d0) ∧ W.cell? ⟨Y, 1, none⟩ = some (.int .u32 y.d1) ∧ W.cell? ⟨Y, 2, none⟩ = some (.int .u32 y.d2) ∧ W.cell? ⟨Y, 3, none⟩ = some (.int .u32 y.d3) ∧ W.cell? ⟨Z, 0, none⟩ = some (.int .u32 z.d0) ∧ W.cell? ⟨Z, 1, none⟩ = some (.int .u32 z.d1) ∧ W.cell? ⟨Z, 2, none⟩ = some (.int .u32 z.d2) ∧ W.cell? ⟨Z, 3, none⟩ = some (.int .u32 z.d3)) : ((((W.setCell ⟨C, 0, none⟩ (.int .u32 v.d0)).setCell ⟨C, 1, none⟩ (.int .u32 v.d1)).setCell ⟨C, 2, none⟩ (.int .u32 v.d2)).setCell ⟨C, 3, none⟩ (.int .u32 v.d3)).cell? ⟨X, 0, none⟩ = some (.int .u32 x.d0) ∧ ((((W.setCell ⟨C, 0, none⟩ (.int .u32 v.d0)).setCell ⟨C, 1, none⟩ (.int .u32 v.d1)).setCell ⟨C, 2, none⟩ (.int .u32 v.d2)).setCell ⟨C, 3, none⟩ (.int .u32 v.d3)).cell? ⟨X, 1, none⟩ = some (.int .u32 x.d1) ∧ ((((W.setCell ⟨C, 0, none⟩ (.int .u32 v.d0)).setCell ⟨C, 1, none⟩ (.int .u32 v.d1)).setCell ⟨C, 2, none⟩ (.int .u32 v.d2)).setCell ⟨C, 3, none⟩ (.int .u32 v.d3)).cell? ⟨X, 2, none⟩ = some (.int .u32 x.d2) ∧ ((((W.setCell ⟨C, 0, none⟩ (.int .u32 v.d0)).setCell ⟨C, 1, none⟩ (.int .u32 v.d1)).setCell ⟨C, 2, none⟩ (.int .u32 v.d2)).setCell ⟨C, 3, none⟩ (.int .u32 v.d3)).cell? ⟨X, 3, none⟩ = some (.int .u32 x.d3) ∧ ((((W.setCell ⟨C, 0, none⟩ (.int .u32 v.d0)).setCell ⟨C, 1, none⟩ (.int .u32 v.d1)).setCell ⟨C, 2, none⟩ (.int .u32 v.d2)).setCell ⟨C, 3, none⟩ (.int .u32 v.d3)).cell? ⟨Y, 0, none⟩ = some (.int .u32 y.d0) ∧ ((((W.setCell ⟨C, 0, none⟩ (.int .u32 v.d0)).setCell ⟨C, 1, none⟩ (.int .u32 v.d1)).setCell ⟨C, 2, none⟩ (.int .u32 v.d2)).setCell ⟨C, 3, none⟩ (.int .u32 v.d3)).cell? ⟨Y, 1, none⟩ = some (.int .u32 y.d1) ∧ ((((W.setCell ⟨C, 0, none⟩ (.int .u32 v.d0)).setCell ⟨C, 1, none⟩ (.int .u32 v.d1)).setCell ⟨C, 2, none⟩ (.int .u32 v.d2)).setCell ⟨C, 3, none⟩ (.int .u32 v.d3)).cell? ⟨Y, 2, none⟩ = some (.int .u32 y.d2) ∧ ((((W.setCell ⟨C, 0, none⟩ (.int .u32 v.d0)).setCell ⟨C, 1, none⟩ (.int .u32 v.d1)).setCell ⟨C, 2, none⟩ (.int .u32 v.d2)).setCell ⟨C, 3, none⟩ (.int .u32 v.d3)).cell? ⟨Y, 3, none⟩ = some (.int .u32 y.d3) ∧ ((((W.setCell ⟨C, 0, none⟩ (.int .u32 v.d0)).setCell ⟨C, 1, none⟩ (.int .u32 v.d1)).setCell ⟨C, 2, none⟩ (.int .u32 v.d2)).setCell ⟨C, 3, none⟩ (.int .u32 v.d3)).cell? ⟨Z, 0, none⟩ = some (.int .u32 z.d0) ∧ ((((W.setCell ⟨C, 0, none⟩ (.int .u32 v.d0)).setCell ⟨C, 1, none⟩ (.int .u32 v.d1)).setCell ⟨C, 2, none⟩ (.int .u32 v.d2)).setCell ⟨C, 3, none⟩ (.int .u32 v.d3)).cell? ⟨Z, 1, none⟩ = some (.int .u32 z.d1) ∧ ((((W.setCell ⟨C, 0, none⟩ (.int .u32 v.d0)).setCell ⟨C, 1, none⟩ (.int .u32 v.d1)).setCell ⟨C, 2, none⟩ (.int .u32 v.d2)).setCell ⟨C, 3, none⟩ (.int .u32 v.d3)).cell? ⟨Z, 2, none⟩ = some (.int .u32 z.d2) ∧ ((((W.setCell ⟨C, 0, none⟩ (.int .u32 v.d0)).setCell ⟨C, 1, none⟩ (.int .u32 v.d1)).setCell ⟨C, 2, none⟩ (.int .u32 v.d2)).setCell ⟨C, 3, none⟩ (.int .u32 v.d3)).cell? ⟨Z, 3, none⟩ = some (.int .u32 z.d3) :=
  keep3 (heap_set4 hX) (heap_set4 hY) (heap_set4 hZ) f
theorem onD_ok : ∀ (p : List D4) (m n : Nat) (x : D4) (bw : Bool), x.ok → allD4 p → (onR pairS x m n bw p).1.ok ∧ (onR pairS x m n bw p).2.1.ok := by
  intro p
  induction p with
  | nil => intro m n x bw hx _; exact ⟨hx, hx⟩
  | cons y r ih =>
    intro m n x bw hx hp
    have hy : y.ok := hp y (by simp)
    have hr : allD4 r := fun d hd => hp d (by simp [hd])
    rw [onR]
    split
    · split
      · exact ⟨hy, hy⟩
      · exact ⟨hx, hx⟩
    · split
      · obtain ⟨a, b⟩ := ih m (half n) x bw hx hr
        exact ⟨a, pairS_ok b hy⟩
      · obtain ⟨a, b⟩ := ih (m - half n) (n - half n) x false hx hr
        exact ⟨pairS_ok hy a, pairS_ok hy b⟩
theorem onD_ok' (p : List D4) (m n : Nat) (x : D4) (bw : Bool) (hx : x.ok) (hp : allD4 p) : (onD x m n bw p).1.ok ∧ (onD x m n bw p).2.1.ok := onD_ok p.reverse m n x bw hx (fun d hd => hp d (by simpa using hd))
/-- What the document's on answers, of a proof. -/
def OnC (p : List D4) : Prop := ∀ (x : D4) (m n : Nat) (bw : Bool) (a : Option Addr) (cap : Nat) (w : World), 1 ≤ m → m ≤ n → n ≤ 1000000 → x.ok → RdS w a p → p.length ≤ cap → cap ≤ maxLen →
  Calls Tryd.prog 39 #[x.val, .int .i64 (m : Int), .int .i64 (n : Int), .bool bw, .slice a p.length cap] w fun e w' => e = .returned (.tuple #[(onD x m n bw p).1.val, (onD x m n bw p).2.1.val, .bool (onD x m n bw p).2.2]) ∧ Below w.heap.size w w'
theorem on_val (p : List D4) (H : OnC p) (x f z : D4) (ok : Bool) (m n : Nat) (bw : Bool) (b o L cap : Nat) (u v : Int) (w : World) (hu : (m : Int) = u) (hv : (n : Int) = v) (h1 : 1 ≤ m) (hmn : m ≤ n) (hle : n ≤ 1000000) (hx : x.ok) (hr : RdL w b o p) (hL : L = p.length) (hc : p.length ≤ cap) (hm : cap ≤ maxLen) (hz : onD x m n bw p = (f, z, ok)) :
    Calls Tryd.prog 39 #[.agg #[.int .u32 x.d0, .int .u32 x.d1, .int .u32 x.d2, .int .u32 x.d3], .int .i64 u, .int .i64 v, .bool bw, .slice (some ⟨b, o, none⟩) L cap] w fun e w' => e = .returned (.tuple #[.agg #[.int .u32 f.d0, .int .u32 f.d1, .int .u32 f.d2, .int .u32 f.d3], .agg #[.int .u32 z.d0, .int .u32 z.d1, .int .u32 z.d2, .int .u32 z.d3], .bool ok]) ∧ Below w.heap.size w w' := by
  subst hu; subst hv; subst hL
  have := H x m n bw (some ⟨b, o, none⟩) cap w h1 hmn hle hx (fun _ => ⟨b, o, rfl, hr⟩) hc hm
  rw [hz] at this
  exact this
theorem below_put44 {B b : Nat} {w w1 : World} (h : Below B w w1) (hb : B ≤ b) (d e : D4) : Below B w ((((((((w1.setCell ⟨b, 0, none⟩ (.int .u32 d.d0)).setCell ⟨b, 1, none⟩ (.int .u32 d.d1)).setCell ⟨b, 2, none⟩ (.int .u32 d.d2)).setCell ⟨b, 3, none⟩ (.int .u32 d.d3)).setCell ⟨b + 1, 0, none⟩ (.int .u32 e.d0)).setCell ⟨b + 1, 1, none⟩ (.int .u32 e.d1)).setCell ⟨b + 1, 2, none⟩ (.int .u32 e.d2)).setCell ⟨b + 1, 3, none⟩ (.int .u32 e.d3)) := below_put4 (below_put4 h hb d) (Nat.le_succ_of_le hb) e
set_option maxHeartbeats 2000000 in
set_option maxRecDepth 100000 in
theorem on_cWhole (x : D4) (n L : Nat) (a : Option Addr) (cap : Nat) (bl : Bool) (hbl : ((L : Int) == 0) = bl) (w : World) :
    Calls Tryd.prog 39 #[x.val, .int .i64 (n : Int), .int .i64 (n : Int), .bool true, .slice a L cap] w fun e w' => e = .returned (.tuple #[x.val, x.val, .bool bl]) ∧ Below w.heap.size w w' := by
  obtain ⟨w0, hw0⟩ : ∃ w0, ((w.alloc (.cells #[.int .u32 x.d0, .int .u32 x.d1, .int .u32 x.d2, .int .u32 x.d3] 26)).alloc (.cells #[.int .u32 0, .int .u32 0, .int .u32 0, .int .u32 0] 26)).alloc (.cells #[.int .u32 0, .int .u32 0, .int .u32 0, .int .u32 0] 26) = w0 := ⟨_, rfl⟩
  obtain ⟨hL, hA, hS, hB, hsz⟩ := start4zz x w w0 hw0
  obtain ⟨hf1, hf2⟩ := fin44 (d := x) (e := x) hA rfl hS rfl
  have hBf := below_put44 (b := w.heap.size + 1) hB (Nat.le_succ _) x x
  obtain ⟨l0, l1, l2, l3⟩ := Arr.c4 hL
  obtain ⟨k0, k1, k2, k3⟩ := Arr.c4 (d := zeroD) hA
  obtain ⟨f0, f1, f2, f3⟩ := hA.f4
  obtain ⟨m0, m1, m2, m3⟩ := Arr.c4 (d := zeroD) hS
  obtain ⟨e0, e1, e2, e3⟩ := hS.f4
  clear hL hA hS hB
  go_enter Tryd.func39, Tryd.ntmps39
  simp only [D4.val]
  go_wp2_with fail
  clear hw0
  go_region
  all_goals
    clear k0 k1 k2 k3 f0 f1 f2 f3 m0 m1 m2 m3 e0 e1 e2 e3
    go_wp2_with fail
    generalize ((((((((w0.setCell ⟨w.heap.size + 1, 0, none⟩ (.int .u32 x.d0)).setCell ⟨w.heap.size + 1, 1, none⟩ (.int .u32 x.d1)).setCell ⟨w.heap.size + 1, 2, none⟩ (.int .u32 x.d2)).setCell ⟨w.heap.size + 1, 3, none⟩ (.int .u32 x.d3)).setCell ⟨w.heap.size + 1 + 1, 0, none⟩ (.int .u32 x.d0)).setCell ⟨w.heap.size + 1 + 1, 1, none⟩ (.int .u32 x.d1)).setCell ⟨w.heap.size + 1 + 1, 2, none⟩ (.int .u32 x.d2)).setCell ⟨w.heap.size + 1 + 1, 3, none⟩ (.int .u32 x.d3)) = wf at *
    obtain ⟨r0, r1, r2, r3⟩ := (show Arr .u32 26 (w.heap.size + 1) _ wf.drew from hf1).c4
    obtain ⟨u0, u1, u2, u3⟩ := (show Arr .u32 26 (w.heap.size + 1 + 1) _ wf.drew from hf2).c4
    refine bodyPost_ret (v := .tuple #[x.val, x.val, .bool bl]) (by simp [results, Tryd.results39, go_sem, D4.val, r0, r1, r2, r3, u0, u1, u2, u3]) rfl ⟨rfl, hBf.drew⟩
set_option maxHeartbeats 2000000 in
set_option maxRecDepth 100000 in
theorem on_cCutN (x : D4) (n L : Nat) (a : Option Addr) (cap : Nat) (hL1 : L ≠ 1) (w : World) :
    Calls Tryd.prog 39 #[x.val, .int .i64 (n : Int), .int .i64 (n : Int), .bool false, .slice a L cap] w fun e w' => e = .returned (.tuple #[x.val, x.val, .bool false]) ∧ Below w.heap.size w w' := by
  have hl1 : ((L : Int) == 1) = false := by simp; omega
  have hl2 : ((L : Int) != 1) = true := by simp; omega
  obtain ⟨w0, hw0⟩ : ∃ w0, ((w.alloc (.cells #[.int .u32 x.d0, .int .u32 x.d1, .int .u32 x.d2, .int .u32 x.d3] 26)).alloc (.cells #[.int .u32 0, .int .u32 0, .int .u32 0, .int .u32 0] 26)).alloc (.cells #[.int .u32 0, .int .u32 0, .int .u32 0, .int .u32 0] 26) = w0 := ⟨_, rfl⟩
  obtain ⟨hL, hA, hS, hB, hsz⟩ := start4zz x w w0 hw0
  obtain ⟨hf1, hf2⟩ := fin44 (d := x) (e := x) hA rfl hS rfl
  have hBf := below_put44 (b := w.heap.size + 1) hB (Nat.le_succ _) x x
  obtain ⟨l0, l1, l2, l3⟩ := Arr.c4 hL
  obtain ⟨k0, k1, k2, k3⟩ := Arr.c4 (d := zeroD) hA
  obtain ⟨f0, f1, f2, f3⟩ := hA.f4
  obtain ⟨m0, m1, m2, m3⟩ := Arr.c4 (d := zeroD) hS
  obtain ⟨e0, e1, e2, e3⟩ := hS.f4
  clear hL hA hS hB
  go_enter Tryd.func39, Tryd.ntmps39
  simp only [D4.val]
  go_wp2_with fail
  clear hw0
  go_region
  all_goals
    clear k0 k1 k2 k3 f0 f1 f2 f3 m0 m1 m2 m3 e0 e1 e2 e3
    go_wp2_with fail
    generalize ((((((((w0.setCell ⟨w.heap.size + 1, 0, none⟩ (.int .u32 x.d0)).setCell ⟨w.heap.size + 1, 1, none⟩ (.int .u32 x.d1)).setCell ⟨w.heap.size + 1, 2, none⟩ (.int .u32 x.d2)).setCell ⟨w.heap.size + 1, 3, none⟩ (.int .u32 x.d3)).setCell ⟨w.heap.size + 1 + 1, 0, none⟩ (.int .u32 x.d0)).setCell ⟨w.heap.size + 1 + 1, 1, none⟩ (.int .u32 x.d1)).setCell ⟨w.heap.size + 1 + 1, 2, none⟩ (.int .u32 x.d2)).setCell ⟨w.heap.size + 1 + 1, 3, none⟩ (.int .u32 x.d3)) = wf at *
    obtain ⟨r0, r1, r2, r3⟩ := (show Arr .u32 26 (w.heap.size + 1) _ wf.drew from hf1).c4
    obtain ⟨u0, u1, u2, u3⟩ := (show Arr .u32 26 (w.heap.size + 1 + 1) _ wf.drew from hf2).c4
    refine bodyPost_ret (v := .tuple #[x.val, x.val, .bool false]) (by simp [results, Tryd.results39, go_sem, D4.val, r0, r1, r2, r3, u0, u1, u2, u3]) rfl ⟨rfl, hBf.drew⟩
set_option maxHeartbeats 2000000 in
set_option maxRecDepth 100000 in
theorem on_cCut1 (x y : D4) (n b o cap : Nat) (w : World) (_hc : 1 ≤ cap) (_hm : cap ≤ maxLen) (hy : dgAt w b o y) (hb : b < w.heap.size) :
    Calls Tryd.prog 39 #[x.val, .int .i64 (n : Int), .int .i64 (n : Int), .bool false, .slice (some ⟨b, o, none⟩) 1 cap] w fun e w' => e = .returned (.tuple #[y.val, y.val, .bool true]) ∧ Below w.heap.size w w' := by
  unfold maxLen at _hm
  obtain ⟨w0, hw0⟩ : ∃ w0, ((w.alloc (.cells #[.int .u32 x.d0, .int .u32 x.d1, .int .u32 x.d2, .int .u32 x.d3] 26)).alloc (.cells #[.int .u32 0, .int .u32 0, .int .u32 0, .int .u32 0] 26)).alloc (.cells #[.int .u32 0, .int .u32 0, .int .u32 0, .int .u32 0] 26) = w0 := ⟨_, rfl⟩
  obtain ⟨hL, hA, hS, hB, hsz⟩ := start4zz x w w0 hw0
  obtain ⟨y0, y1, y2, y3⟩ := hy.on hB hb
  obtain ⟨hf1, hf2⟩ := fin44 (d := y) (e := y) hA rfl hS rfl
  have hBf := below_put44 (b := w.heap.size + 1) hB (Nat.le_succ _) y y
  obtain ⟨l0, l1, l2, l3⟩ := Arr.c4 hL
  obtain ⟨k0, k1, k2, k3⟩ := Arr.c4 (d := zeroD) hA
  obtain ⟨f0, f1, f2, f3⟩ := hA.f4
  obtain ⟨m0, m1, m2, m3⟩ := Arr.c4 (d := zeroD) hS
  obtain ⟨e0, e1, e2, e3⟩ := hS.f4
  clear hL hA hS hB
  go_enter Tryd.func39, Tryd.ntmps39
  simp only [D4.val]
  go_wp2_with fail
  clear hw0
  go_region
  all_goals
    clear k0 k1 k2 k3 f0 f1 f2 f3 m0 m1 m2 m3 e0 e1 e2 e3
    go_wp2_with fail
    generalize ((((((((w0.setCell ⟨w.heap.size + 1, 0, none⟩ (.int .u32 y.d0)).setCell ⟨w.heap.size + 1, 1, none⟩ (.int .u32 y.d1)).setCell ⟨w.heap.size + 1, 2, none⟩ (.int .u32 y.d2)).setCell ⟨w.heap.size + 1, 3, none⟩ (.int .u32 y.d3)).setCell ⟨w.heap.size + 1 + 1, 0, none⟩ (.int .u32 y.d0)).setCell ⟨w.heap.size + 1 + 1, 1, none⟩ (.int .u32 y.d1)).setCell ⟨w.heap.size + 1 + 1, 2, none⟩ (.int .u32 y.d2)).setCell ⟨w.heap.size + 1 + 1, 3, none⟩ (.int .u32 y.d3)) = wf at *
    obtain ⟨r0, r1, r2, r3⟩ := (show Arr .u32 26 (w.heap.size + 1) _ wf.drew from hf1).c4
    obtain ⟨u0, u1, u2, u3⟩ := (show Arr .u32 26 (w.heap.size + 1 + 1) _ wf.drew from hf2).c4
    refine bodyPost_ret (v := .tuple #[y.val, y.val, .bool true]) (by simp [results, Tryd.results39, go_sem, D4.val, r0, r1, r2, r3, u0, u1, u2, u3]) rfl ⟨rfl, hBf.drew⟩
set_option maxHeartbeats 2000000 in
set_option maxRecDepth 100000 in
theorem on_cNone (x : D4) (m n : Nat) (bw : Bool) (a : Option Addr) (cap : Nat) (hne : m ≠ n) (w : World) :
    Calls Tryd.prog 39 #[x.val, .int .i64 (m : Int), .int .i64 (n : Int), .bool bw, .slice a 0 cap] w fun e w' => e = .returned (.tuple #[x.val, x.val, .bool false]) ∧ Below w.heap.size w w' := by
  have hn1 : ((m : Int) == (n : Int)) = false := by simp; omega
  obtain ⟨w0, hw0⟩ : ∃ w0, ((w.alloc (.cells #[.int .u32 x.d0, .int .u32 x.d1, .int .u32 x.d2, .int .u32 x.d3] 26)).alloc (.cells #[.int .u32 0, .int .u32 0, .int .u32 0, .int .u32 0] 26)).alloc (.cells #[.int .u32 0, .int .u32 0, .int .u32 0, .int .u32 0] 26) = w0 := ⟨_, rfl⟩
  obtain ⟨hL, hA, hS, hB, hsz⟩ := start4zz x w w0 hw0
  obtain ⟨hf1, hf2⟩ := fin44 (d := x) (e := x) hA rfl hS rfl
  have hBf := below_put44 (b := w.heap.size + 1) hB (Nat.le_succ _) x x
  obtain ⟨l0, l1, l2, l3⟩ := Arr.c4 hL
  obtain ⟨k0, k1, k2, k3⟩ := Arr.c4 (d := zeroD) hA
  obtain ⟨f0, f1, f2, f3⟩ := hA.f4
  obtain ⟨m0, m1, m2, m3⟩ := Arr.c4 (d := zeroD) hS
  obtain ⟨e0, e1, e2, e3⟩ := hS.f4
  clear hL hA hS hB
  go_enter Tryd.func39, Tryd.ntmps39
  simp only [D4.val]
  go_wp2_with fail
  clear hw0
  go_region
  all_goals
    clear k0 k1 k2 k3 f0 f1 f2 f3 m0 m1 m2 m3 e0 e1 e2 e3
    go_wp2_with fail
    generalize ((((((((w0.setCell ⟨w.heap.size + 1, 0, none⟩ (.int .u32 x.d0)).setCell ⟨w.heap.size + 1, 1, none⟩ (.int .u32 x.d1)).setCell ⟨w.heap.size + 1, 2, none⟩ (.int .u32 x.d2)).setCell ⟨w.heap.size + 1, 3, none⟩ (.int .u32 x.d3)).setCell ⟨w.heap.size + 1 + 1, 0, none⟩ (.int .u32 x.d0)).setCell ⟨w.heap.size + 1 + 1, 1, none⟩ (.int .u32 x.d1)).setCell ⟨w.heap.size + 1 + 1, 2, none⟩ (.int .u32 x.d2)).setCell ⟨w.heap.size + 1 + 1, 3, none⟩ (.int .u32 x.d3)) = wf at *
    obtain ⟨r0, r1, r2, r3⟩ := (show Arr .u32 26 (w.heap.size + 1) _ wf.drew from hf1).c4
    obtain ⟨u0, u1, u2, u3⟩ := (show Arr .u32 26 (w.heap.size + 1 + 1) _ wf.drew from hf2).c4
    refine bodyPost_ret (v := .tuple #[x.val, x.val, .bool false]) (by simp [results, Tryd.results39, go_sem, D4.val, r0, r1, r2, r3, u0, u1, u2, u3]) rfl ⟨rfl, hBf.drew⟩
end Go.Proofs.YtnimbclnhgbdcaaDoor
