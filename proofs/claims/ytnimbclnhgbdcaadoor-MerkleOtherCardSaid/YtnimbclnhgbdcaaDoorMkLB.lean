/-
  The walks of MerkleChecks and MerkleChecksOn (written by gen_law3.py).
-/
import Derived.Test.YtnimbclnhgbdcaaDoorMkLC
import Derived.Test.YtnimbclnhgbdcaaDoorMkJ
namespace Go.Proofs.YtnimbclnhgbdcaaDoor
open Go.RowKit

theorem keep11 {v0 v1 v2 v3 v4 v5 v6 v7 v8 v9 v10 : Value} {X : Nat} {W w' : World} (h : Below W.heap.size W w') (f : W.cell? ⟨X, 0, none⟩ = some (v0) ∧ W.cell? ⟨X, 1, none⟩ = some (v1) ∧ W.cell? ⟨X, 2, none⟩ = some (v2) ∧ W.cell? ⟨X, 3, none⟩ = some (v3) ∧ W.cell? ⟨X, 4, none⟩ = some (v4) ∧ W.cell? ⟨X, 5, none⟩ = some (v5) ∧ W.cell? ⟨X, 6, none⟩ = some (v6) ∧ W.cell? ⟨X, 7, none⟩ = some (v7) ∧ W.cell? ⟨X, 8, none⟩ = some (v8) ∧ W.cell? ⟨X, 9, none⟩ = some (v9) ∧ W.cell? ⟨X, 10, none⟩ = some (v10)) : w'.cell? ⟨X, 0, none⟩ = some (v0) ∧ w'.cell? ⟨X, 1, none⟩ = some (v1) ∧ w'.cell? ⟨X, 2, none⟩ = some (v2) ∧ w'.cell? ⟨X, 3, none⟩ = some (v3) ∧ w'.cell? ⟨X, 4, none⟩ = some (v4) ∧ w'.cell? ⟨X, 5, none⟩ = some (v5) ∧ w'.cell? ⟨X, 6, none⟩ = some (v6) ∧ w'.cell? ⟨X, 7, none⟩ = some (v7) ∧ w'.cell? ⟨X, 8, none⟩ = some (v8) ∧ w'.cell? ⟨X, 9, none⟩ = some (v9) ∧ w'.cell? ⟨X, 10, none⟩ = some (v10) := by
  have hX : X < W.heap.size := World.block_lt_of_cell? W _ f.1
  have e1 : ∀ j, w'.cell? ⟨X, j, none⟩ = W.cell? ⟨X, j, none⟩ := fun j => World.cell?_of_block (w := W) (h.block X hX)
  simp only [e1]
  exact f
theorem box11 (v0 v1 v2 v3 v4 v5 v6 v7 v8 v9 v10 : Value) (t : TypeId) (w : World) : (w.alloc (.cells #[v0, v1, v2, v3, v4, v5, v6, v7, v8, v9, v10] t)).cell? ⟨w.heap.size, 0, none⟩ = some (v0) ∧ (w.alloc (.cells #[v0, v1, v2, v3, v4, v5, v6, v7, v8, v9, v10] t)).cell? ⟨w.heap.size, 1, none⟩ = some (v1) ∧ (w.alloc (.cells #[v0, v1, v2, v3, v4, v5, v6, v7, v8, v9, v10] t)).cell? ⟨w.heap.size, 2, none⟩ = some (v2) ∧ (w.alloc (.cells #[v0, v1, v2, v3, v4, v5, v6, v7, v8, v9, v10] t)).cell? ⟨w.heap.size, 3, none⟩ = some (v3) ∧ (w.alloc (.cells #[v0, v1, v2, v3, v4, v5, v6, v7, v8, v9, v10] t)).cell? ⟨w.heap.size, 4, none⟩ = some (v4) ∧ (w.alloc (.cells #[v0, v1, v2, v3, v4, v5, v6, v7, v8, v9, v10] t)).cell? ⟨w.heap.size, 5, none⟩ = some (v5) ∧ (w.alloc (.cells #[v0, v1, v2, v3, v4, v5, v6, v7, v8, v9, v10] t)).cell? ⟨w.heap.size, 6, none⟩ = some (v6) ∧ (w.alloc (.cells #[v0, v1, v2, v3, v4, v5, v6, v7, v8, v9, v10] t)).cell? ⟨w.heap.size, 7, none⟩ = some (v7) ∧ (w.alloc (.cells #[v0, v1, v2, v3, v4, v5, v6, v7, v8, v9, v10] t)).cell? ⟨w.heap.size, 8, none⟩ = some (v8) ∧ (w.alloc (.cells #[v0, v1, v2, v3, v4, v5, v6, v7, v8, v9, v10] t)).cell? ⟨w.heap.size, 9, none⟩ = some (v9) ∧ (w.alloc (.cells #[v0, v1, v2, v3, v4, v5, v6, v7, v8, v9, v10] t)).cell? ⟨w.heap.size, 10, none⟩ = some (v10) := by
  have h : ∀ j, (w.alloc (.cells #[v0, v1, v2, v3, v4, v5, v6, v7, v8, v9, v10] t)).cell? ⟨w.heap.size, j, none⟩ = (#[v0, v1, v2, v3, v4, v5, v6, v7, v8, v9, v10] : Array Value)[j]? := fun j => cell_of_row _ _ _ _ _ _ (heap_alloc_new w _)
  simp only [h]
  exact ⟨rfl, rfl, rfl, rfl, rfl, rfl, rfl, rfl, rfl, rfl, rfl⟩
theorem rcheck_val (root x : D4) (n i : Int) (q : List D4) (bl : Bool) (a : Option Addr) (L cap : Nat) (w : World) (hL : L = q.length) (hxo : x.ok) (hq : allD4 q) (hr : RdS w a q) (hc : L ≤ cap) (hm : cap ≤ maxLen) (hb : checkD root n i x q = bl) :
    Calls Tryd.prog 17 #[.agg #[.int .u32 root.d0, .int .u32 root.d1, .int .u32 root.d2, .int .u32 root.d3], .int .i64 n, .int .i64 i, .agg #[.int .u32 x.d0, .int .u32 x.d1, .int .u32 x.d2, .int .u32 x.d3], .slice a L cap] w fun e w' => e = .returned (.bool bl) ∧ Below w.heap.size w w' := by
  subst hL; subst hb
  exact rcheck_any root x n i q a cap w hxo hq hr hc hm
theorem rcheckOn_val (x root : D4) (m n : Int) (q : List D4) (bl : Bool) (a : Option Addr) (L cap : Nat) (w : World) (hL : L = q.length) (hxo : x.ok) (hq : allD4 q) (hr : RdS w a q) (hc : L ≤ cap) (hm : cap ≤ maxLen) (hb : checkOnD x m root n q = bl) :
    Calls Tryd.prog 21 #[.agg #[.int .u32 x.d0, .int .u32 x.d1, .int .u32 x.d2, .int .u32 x.d3], .int .i64 m, .agg #[.int .u32 root.d0, .int .u32 root.d1, .int .u32 root.d2, .int .u32 root.d3], .int .i64 n, .slice a L cap] w fun e w' => e = .returned (.bool bl) ∧ Below w.heap.size w w' := by
  subst hL; subst hb
  exact rcheckOn_any x root m n q a cap w hxo hq hr hc hm
set_option maxHeartbeats 4000000 in
set_option maxRecDepth 100000 in
theorem checks_any (x y : D4) (n i : Int) (q : List D4) (p : Option Addr) (cap : Nat) (w : World) (hy : y.ok) (hq : allD4 q) (hr : RdS w p q) (hc : q.length ≤ cap) (hm : cap ≤ maxLen) (hT : TurnsOk w) :
    Calls Tryd.prog 4 #[.agg #[.int .u32 x.d0, .int .u32 x.d1, .int .u32 x.d2, .int .u32 x.d3, .int .u32 y.d0, .int .u32 y.d1, .int .u32 y.d2, .int .u32 y.d3, .int .i64 n, .int .i64 i, .slice p q.length cap]] w fun e w' => e = .returned (.bool true) ∧ Below w.heap.size w w' := by
  obtain ⟨L, hL⟩ : ∃ L, q.length = L := ⟨_, rfl⟩
  have HL := Lib.hid hL
  rw [hL] at hc ⊢
  clear hL
  obtain ⟨w0, hw0⟩ : ∃ w0, (w.alloc (.cells #[.int .u32 x.d0, .int .u32 x.d1, .int .u32 x.d2, .int .u32 x.d3, .int .u32 y.d0, .int .u32 y.d1, .int .u32 y.d2, .int .u32 y.d3, .int .i64 n, .int .i64 i, .slice p L cap] 35)) = w0 := ⟨_, rfl⟩
  have hB0 : Below w.heap.size w w0 := by rw [← hw0]; exact (Below.refl _ _).alloc (Nat.le_refl _) _
  have hS0 : w0.cell? ⟨w.heap.size, 0, none⟩ = some (.int .u32 x.d0) ∧ w0.cell? ⟨w.heap.size, 1, none⟩ = some (.int .u32 x.d1) ∧ w0.cell? ⟨w.heap.size, 2, none⟩ = some (.int .u32 x.d2) ∧ w0.cell? ⟨w.heap.size, 3, none⟩ = some (.int .u32 x.d3) ∧ w0.cell? ⟨w.heap.size, 4, none⟩ = some (.int .u32 y.d0) ∧ w0.cell? ⟨w.heap.size, 5, none⟩ = some (.int .u32 y.d1) ∧ w0.cell? ⟨w.heap.size, 6, none⟩ = some (.int .u32 y.d2) ∧ w0.cell? ⟨w.heap.size, 7, none⟩ = some (.int .u32 y.d3) ∧ w0.cell? ⟨w.heap.size, 8, none⟩ = some (.int .i64 n) ∧ w0.cell? ⟨w.heap.size, 9, none⟩ = some (.int .i64 i) ∧ w0.cell? ⟨w.heap.size, 10, none⟩ = some (.slice p L cap) := by rw [← hw0]; exact box11 (.int .u32 x.d0) (.int .u32 x.d1) (.int .u32 x.d2) (.int .u32 x.d3) (.int .u32 y.d0) (.int .u32 y.d1) (.int .u32 y.d2) (.int .u32 y.d3) (.int .i64 n) (.int .i64 i) (.slice p L cap) 35 w
  obtain ⟨bl, hb⟩ : ∃ bl, checkD x n i y q = bl := ⟨_, rfl⟩
  have HBL := Lib.hid hb
  have HS0 := Lib.hid hS0
  clear hb hS0
  by_cases h30 : 30 < L
  · have hd : decide (30 < (L : Int)) = true := by simp; omega
    go_enter Tryd.func4, Tryd.ntmps4
    go_wp2_with fail
    clear hw0
    refine (alive4_any w0 (hT.below hB0)).mono ?_
    rintro e w1 ⟨rfl, hA1⟩
    have hB1 := hB0.trans (hA1.mono hB0.size)
    have hS1 := keep11 hA1 HS0.out
    obtain ⟨s0, s1, s2, s3, s4, s5, s6, s7, s8, s9, s10⟩ := hS1
    go_wp2_with fail
    go_ret
    exact ⟨rfl, hB1⟩
  · have hd : decide (30 < (L : Int)) = false := by simp; omega
    go_enter Tryd.func4, Tryd.ntmps4
    go_wp2_with fail
    clear hw0
    refine (alive4_any w0 (hT.below hB0)).mono ?_
    rintro e w1 ⟨rfl, hA1⟩
    have hB1 := hB0.trans (hA1.mono hB0.size)
    have hS1 := keep11 hA1 HS0.out
    have HS1 := Lib.hid hS1
    obtain ⟨s0, s1, s2, s3, s4, s5, s6, s7, s8, s9, s10⟩ := hS1
    go_wp2_with fail
    have HSd : Hid (w1.drew.cell? ⟨w.heap.size, 0, none⟩ = some (.int .u32 x.d0) ∧ w1.drew.cell? ⟨w.heap.size, 1, none⟩ = some (.int .u32 x.d1) ∧ w1.drew.cell? ⟨w.heap.size, 2, none⟩ = some (.int .u32 x.d2) ∧ w1.drew.cell? ⟨w.heap.size, 3, none⟩ = some (.int .u32 x.d3) ∧ w1.drew.cell? ⟨w.heap.size, 4, none⟩ = some (.int .u32 y.d0) ∧ w1.drew.cell? ⟨w.heap.size, 5, none⟩ = some (.int .u32 y.d1) ∧ w1.drew.cell? ⟨w.heap.size, 6, none⟩ = some (.int .u32 y.d2) ∧ w1.drew.cell? ⟨w.heap.size, 7, none⟩ = some (.int .u32 y.d3) ∧ w1.drew.cell? ⟨w.heap.size, 8, none⟩ = some (.int .i64 n) ∧ w1.drew.cell? ⟨w.heap.size, 9, none⟩ = some (.int .i64 i) ∧ w1.drew.cell? ⟨w.heap.size, 10, none⟩ = some (.slice p L cap)) := HS1.out
    have hBd := hB1.drew
    have hrd := hr.on1 hBd
    have hTd := hT.below hBd
    clear s0 s1 s2 s3 s4 s5 s6 s7 s8 s9 s10 HS0 HS1 hA1 hB1 hB0
    go_region_held3 (fun w' => w'.cell? ⟨w.heap.size, 0, none⟩ = some (.int .u32 x.d0) ∧ w'.cell? ⟨w.heap.size, 1, none⟩ = some (.int .u32 x.d1) ∧ w'.cell? ⟨w.heap.size, 2, none⟩ = some (.int .u32 x.d2) ∧ w'.cell? ⟨w.heap.size, 3, none⟩ = some (.int .u32 x.d3) ∧ w'.cell? ⟨w.heap.size, 4, none⟩ = some (.int .u32 y.d0) ∧ w'.cell? ⟨w.heap.size, 5, none⟩ = some (.int .u32 y.d1) ∧ w'.cell? ⟨w.heap.size, 6, none⟩ = some (.int .u32 y.d2) ∧ w'.cell? ⟨w.heap.size, 7, none⟩ = some (.int .u32 y.d3) ∧ w'.cell? ⟨w.heap.size, 8, none⟩ = some (.int .i64 n) ∧ w'.cell? ⟨w.heap.size, 9, none⟩ = some (.int .i64 i) ∧ w'.cell? ⟨w.heap.size, 10, none⟩ = some (.slice p L cap))
      (first | (with_reducible exact HSd.out) | ((with_reducible refine keep11 hA3 ?_); assumption) | ((with_reducible refine keep11 hA2 ?_); assumption))
      (first
        | (go_at_call 16; (with_reducible refine (ccheck_val x y n i q bl p L cap _ HL.out.symm hy hq hrd hc hm hTd HBL.out).mono ?_); rintro e w2 ⟨rfl, hA2⟩; have hB2 := hBd.trans (hA2.mono hBd.size); have hr2 := hrd.on1 hA2)
        | (go_at_call 17; (with_reducible refine (rcheck_val x y n i q bl p L cap _ HL.out.symm hy hq hr2 hc hm HBL.out).mono ?_); rintro e w3 ⟨rfl, hA3⟩; have hB3 := hB2.trans (hA3.mono hB2.size)))
    all_goals
      go_wp2
      go_ret
      refine ⟨?_, hB3⟩
      cases bl <;> rfl
set_option maxHeartbeats 4000000 in
set_option maxRecDepth 100000 in
theorem checksOn_any (x y : D4) (m n : Int) (q : List D4) (p : Option Addr) (cap : Nat) (w : World) (hx : x.ok) (hq : allD4 q) (hr : RdS w p q) (hc : q.length ≤ cap) (hm : cap ≤ maxLen) (hT : TurnsOk w) :
    Calls Tryd.prog 6 #[.agg #[.int .u32 x.d0, .int .u32 x.d1, .int .u32 x.d2, .int .u32 x.d3, .int .u32 y.d0, .int .u32 y.d1, .int .u32 y.d2, .int .u32 y.d3, .int .i64 m, .int .i64 n, .slice p q.length cap]] w fun e w' => e = .returned (.bool true) ∧ Below w.heap.size w w' := by
  obtain ⟨L, hL⟩ : ∃ L, q.length = L := ⟨_, rfl⟩
  have HL := Lib.hid hL
  rw [hL] at hc ⊢
  clear hL
  obtain ⟨w0, hw0⟩ : ∃ w0, (w.alloc (.cells #[.int .u32 x.d0, .int .u32 x.d1, .int .u32 x.d2, .int .u32 x.d3, .int .u32 y.d0, .int .u32 y.d1, .int .u32 y.d2, .int .u32 y.d3, .int .i64 m, .int .i64 n, .slice p L cap] 39)) = w0 := ⟨_, rfl⟩
  have hB0 : Below w.heap.size w w0 := by rw [← hw0]; exact (Below.refl _ _).alloc (Nat.le_refl _) _
  have hS0 : w0.cell? ⟨w.heap.size, 0, none⟩ = some (.int .u32 x.d0) ∧ w0.cell? ⟨w.heap.size, 1, none⟩ = some (.int .u32 x.d1) ∧ w0.cell? ⟨w.heap.size, 2, none⟩ = some (.int .u32 x.d2) ∧ w0.cell? ⟨w.heap.size, 3, none⟩ = some (.int .u32 x.d3) ∧ w0.cell? ⟨w.heap.size, 4, none⟩ = some (.int .u32 y.d0) ∧ w0.cell? ⟨w.heap.size, 5, none⟩ = some (.int .u32 y.d1) ∧ w0.cell? ⟨w.heap.size, 6, none⟩ = some (.int .u32 y.d2) ∧ w0.cell? ⟨w.heap.size, 7, none⟩ = some (.int .u32 y.d3) ∧ w0.cell? ⟨w.heap.size, 8, none⟩ = some (.int .i64 m) ∧ w0.cell? ⟨w.heap.size, 9, none⟩ = some (.int .i64 n) ∧ w0.cell? ⟨w.heap.size, 10, none⟩ = some (.slice p L cap) := by rw [← hw0]; exact box11 (.int .u32 x.d0) (.int .u32 x.d1) (.int .u32 x.d2) (.int .u32 x.d3) (.int .u32 y.d0) (.int .u32 y.d1) (.int .u32 y.d2) (.int .u32 y.d3) (.int .i64 m) (.int .i64 n) (.slice p L cap) 39 w
  obtain ⟨bl, hb⟩ : ∃ bl, checkOnD x m y n q = bl := ⟨_, rfl⟩
  have HBL := Lib.hid hb
  have HS0 := Lib.hid hS0
  clear hb hS0
  by_cases h30 : 30 < L
  · have hd : decide (30 < (L : Int)) = true := by simp; omega
    go_enter Tryd.func6, Tryd.ntmps6
    go_wp2_with fail
    clear hw0
    refine (alive4_any w0 (hT.below hB0)).mono ?_
    rintro e w1 ⟨rfl, hA1⟩
    have hB1 := hB0.trans (hA1.mono hB0.size)
    have hS1 := keep11 hA1 HS0.out
    obtain ⟨s0, s1, s2, s3, s4, s5, s6, s7, s8, s9, s10⟩ := hS1
    go_wp2_with fail
    go_ret
    exact ⟨rfl, hB1⟩
  · have hd : decide (30 < (L : Int)) = false := by simp; omega
    go_enter Tryd.func6, Tryd.ntmps6
    go_wp2_with fail
    clear hw0
    refine (alive4_any w0 (hT.below hB0)).mono ?_
    rintro e w1 ⟨rfl, hA1⟩
    have hB1 := hB0.trans (hA1.mono hB0.size)
    have hS1 := keep11 hA1 HS0.out
    have HS1 := Lib.hid hS1
    obtain ⟨s0, s1, s2, s3, s4, s5, s6, s7, s8, s9, s10⟩ := hS1
    go_wp2_with fail
    have HSd : Hid (w1.drew.cell? ⟨w.heap.size, 0, none⟩ = some (.int .u32 x.d0) ∧ w1.drew.cell? ⟨w.heap.size, 1, none⟩ = some (.int .u32 x.d1) ∧ w1.drew.cell? ⟨w.heap.size, 2, none⟩ = some (.int .u32 x.d2) ∧ w1.drew.cell? ⟨w.heap.size, 3, none⟩ = some (.int .u32 x.d3) ∧ w1.drew.cell? ⟨w.heap.size, 4, none⟩ = some (.int .u32 y.d0) ∧ w1.drew.cell? ⟨w.heap.size, 5, none⟩ = some (.int .u32 y.d1) ∧ w1.drew.cell? ⟨w.heap.size, 6, none⟩ = some (.int .u32 y.d2) ∧ w1.drew.cell? ⟨w.heap.size, 7, none⟩ = some (.int .u32 y.d3) ∧ w1.drew.cell? ⟨w.heap.size, 8, none⟩ = some (.int .i64 m) ∧ w1.drew.cell? ⟨w.heap.size, 9, none⟩ = some (.int .i64 n) ∧ w1.drew.cell? ⟨w.heap.size, 10, none⟩ = some (.slice p L cap)) := HS1.out
    have hBd := hB1.drew
    have hrd := hr.on1 hBd
    have hTd := hT.below hBd
    clear s0 s1 s2 s3 s4 s5 s6 s7 s8 s9 s10 HS0 HS1 hA1 hB1 hB0
    go_region_held3 (fun w' => w'.cell? ⟨w.heap.size, 0, none⟩ = some (.int .u32 x.d0) ∧ w'.cell? ⟨w.heap.size, 1, none⟩ = some (.int .u32 x.d1) ∧ w'.cell? ⟨w.heap.size, 2, none⟩ = some (.int .u32 x.d2) ∧ w'.cell? ⟨w.heap.size, 3, none⟩ = some (.int .u32 x.d3) ∧ w'.cell? ⟨w.heap.size, 4, none⟩ = some (.int .u32 y.d0) ∧ w'.cell? ⟨w.heap.size, 5, none⟩ = some (.int .u32 y.d1) ∧ w'.cell? ⟨w.heap.size, 6, none⟩ = some (.int .u32 y.d2) ∧ w'.cell? ⟨w.heap.size, 7, none⟩ = some (.int .u32 y.d3) ∧ w'.cell? ⟨w.heap.size, 8, none⟩ = some (.int .i64 m) ∧ w'.cell? ⟨w.heap.size, 9, none⟩ = some (.int .i64 n) ∧ w'.cell? ⟨w.heap.size, 10, none⟩ = some (.slice p L cap))
      (first | (with_reducible exact HSd.out) | ((with_reducible refine keep11 hA3 ?_); assumption) | ((with_reducible refine keep11 hA2 ?_); assumption))
      (first
        | (go_at_call 20; (with_reducible refine (ccheckOn_val x y m n q bl p L cap _ HL.out.symm hx hq hrd hc hm hTd HBL.out).mono ?_); rintro e w2 ⟨rfl, hA2⟩; have hB2 := hBd.trans (hA2.mono hBd.size); have hr2 := hrd.on1 hA2)
        | (go_at_call 21; (with_reducible refine (rcheckOn_val x y m n q bl p L cap _ HL.out.symm hx hq hr2 hc hm HBL.out).mono ?_); rintro e w3 ⟨rfl, hA3⟩; have hB3 := hB2.trans (hA3.mono hB2.size)))
    all_goals
      go_wp2
      go_ret
      refine ⟨?_, hB3⟩
      cases bl <;> rfl
end Go.Proofs.YtnimbclnhgbdcaaDoor
