/-
  KeysRow: the walk (written by gen_law67.py).
-/
import Derived.Test.YtdphhpmkcalahaaDoorKyT
import Derived.Deep.CutRange
import Derived.Deep.LoopGhost
import Derived.Deep.RegionHeld3
namespace Go.Proofs.YtdphhpmkcalahaaDoor
open Go.RowKit
theorem cnew_lit (s : D4) (h : Nat) (hi : Int) (w : World) (hh : h ≤ 4) (e : (h : Int) = hi) :
    Calls Tryd.prog 13 #[.agg #[.int .u32 s.d0, .int .u32 s.d1, .int .u32 s.d2, .int .u32 s.d3], .int .i64 hi] w fun e w' => e = .returned (.tuple #[.agg #[.int .u32 s.d0, .int .u32 s.d1, .int .u32 s.d2, .int .u32 s.d3, .int .i64 hi, .int .i64 0], .int .i64 0]) ∧ Below w.heap.size w w' := by
  subst e; exact cnew6_yes s h hh w
theorem cpub_lit (s v : D4) (h : Nat) (hi : Int) (w : World) (hs : s.ok) (hh : h ≤ 4) (hT : TurnsOk w) (hv : pubK s h = v) (e : (h : Int) = hi) :
    Calls Tryd.prog 11 #[.agg #[.int .u32 s.d0, .int .u32 s.d1, .int .u32 s.d2, .int .u32 s.d3], .int .i64 hi] w fun e w' => e = .returned (.tuple #[.agg #[.int .u32 v.d0, .int .u32 v.d1, .int .u32 v.d2, .int .u32 v.d3], .int .i64 0]) ∧ Below w.heap.size w w' := by
  subst e; exact cpub_nmy s v h w hs hh hT hv
theorem cuse_yes (s msg : D4) (h n : Nat) (hi : Int) (L Q : List D4) (w : World) (hs : s.ok) (hT : TurnsOk w) (hmo : msg.ok) (hh : h ≤ 4) (hn : n < 2 ^ h) (hL : signL (seedK s n) msg = L) (hQ : pathK s h n = Q) (QN : Nat) (hQN : Q.length = QN) (e : (h : Int) = hi) :
    Calls Tryd.prog 19 #[.agg #[.int .u32 s.d0, .int .u32 s.d1, .int .u32 s.d2, .int .u32 s.d3, .int .i64 hi, .int .i64 (n : Int)], .agg #[.int .u32 msg.d0, .int .u32 msg.d1, .int .u32 msg.d2, .int .u32 msg.d3]] w fun e w' => ∃ g p' c', e = .returned (.tuple #[.agg #[.int .u32 s.d0, .int .u32 s.d1, .int .u32 s.d2, .int .u32 s.d3, .int .i64 hi, .int .i64 ((n : Int) + 1)], .agg #[.int .i64 (n : Int), .slice (some ⟨g, 0, none⟩) 35 35, .slice p' QN c'], .int .i64 0]) ∧ w.heap.size ≤ g ∧ RdL w' g 0 L ∧ OwnsD w.heap.size (.slice p' QN c') Q w' ∧ Below w.heap.size w w' := by
  subst e; exact cuse6_yes s msg h n L Q w hs hT hmo hh hn hL hQ QN hQN
theorem cuse_no (s msg : D4) (h : Nat) (hi n : Int) (w : World) (hs : s.ok) (hT : TurnsOk w) (hh : h ≤ 4) (hn : n < 0 ∨ ((2 ^ h : Nat) : Int) ≤ n) (e : (h : Int) = hi) :
    Calls Tryd.prog 19 #[.agg #[.int .u32 s.d0, .int .u32 s.d1, .int .u32 s.d2, .int .u32 s.d3, .int .i64 hi, .int .i64 n], .agg #[.int .u32 msg.d0, .int .u32 msg.d1, .int .u32 msg.d2, .int .u32 msg.d3]] w fun e w' => e = .returned (.tuple #[.agg #[.int .u32 0, .int .u32 0, .int .u32 0, .int .u32 0, .int .i64 0, .int .i64 0], .agg #[.int .i64 0, .slice none 0 0, .slice none 0 0], .int .i64 9]) ∧ Below w.heap.size w w' := by
  subst e; exact cuse6_used s msg h n w hs hT hh hn
set_option maxHeartbeats 8000000 in
set_option maxRecDepth 100000 in
theorem row_long (s : D4) (b : Bool) (p : Option Addr) (n c : Nat) (hh : 4 < n) (w : World) (hT : TurnsOk w) :
    Calls Tryd.prog 7 #[.agg #[.int .u32 s.d0, .int .u32 s.d1, .int .u32 s.d2, .int .u32 s.d3], .bool b, .slice p n c] w fun e w' => e = .returned (.bool true) ∧ Below w.heap.size w w' := by
  have hl : decide ((4 : Int) < (n : Int)) = true := by simp; omega
  obtain ⟨w1, hw1⟩ : ∃ w', w.alloc (.cells #[.int .u32 s.d0, .int .u32 s.d1, .int .u32 s.d2, .int .u32 s.d3] 24) = w' := ⟨_, rfl⟩
  have hS : Box 24 w.heap.size [.int .u32 s.d0, .int .u32 s.d1, .int .u32 s.d2, .int .u32 s.d3] w1 := by rw [← hw1]; exact Box.new 24 [.int .u32 s.d0, .int .u32 s.d1, .int .u32 s.d2, .int .u32 s.d3] w
  have hD : Below w.heap.size w w1 := by rw [← hw1]; exact (Below.refl _ _).alloc (Nat.le_refl _) _
  have hB := hD
  replace hT := hT.below hD
  clear hD
  go_enter Tryd.func7, Tryd.ntmps7
  have chS0 := hS.cell (j := 0) (v := .int .u32 s.d0) rfl
  have chS1 := hS.cell (j := 1) (v := .int .u32 s.d1) rfl
  have chS2 := hS.cell (j := 2) (v := .int .u32 s.d2) rfl
  have chS3 := hS.cell (j := 3) (v := .int .u32 s.d3) rfl
  go_wp2_with fail
  clear hw1 chS0 chS1 chS2 chS3
  refine (awake6_any w1 hT).mono ?_
  rintro e w2 ⟨rfl, hD⟩
  replace hS := hS.on hD
  replace hB := hB.trans (hD.mono hB.size)
  replace hT := hT.below hD
  clear hD
  go_wp2_with fail
  go_ret
  exact ⟨rfl, hB⟩
theorem rdl_al6 {w : World} {b o : Nat} {l : List D4} (h : RdL w b o l) (ob : Obj) : RdL (w.alloc ob) b o l := h.on ((Below.refl _ w).alloc (Nat.le_refl _) ob)
theorem keepF {B bX bP bl o : Nat} {m : D4} {W w' : World} {v0 v1 v2 u0 u1 u2 u3 : Value} (h : Below B W w') (g0 : bX < B) (g1 : bP < B) (g2 : bl < B) (f : W.cell? ⟨bX, 0, none⟩ = some (v0) ∧ W.cell? ⟨bX, 1, none⟩ = some (v1) ∧ W.cell? ⟨bX, 2, none⟩ = some (v2) ∧ W.cell? ⟨bP, 0, none⟩ = some (u0) ∧ W.cell? ⟨bP, 1, none⟩ = some (u1) ∧ W.cell? ⟨bP, 2, none⟩ = some (u2) ∧ W.cell? ⟨bP, 3, none⟩ = some (u3) ∧ W.cell? ⟨bl, o, none⟩ = some (.int .u32 m.d0) ∧ W.cell? ⟨bl, o + 1, none⟩ = some (.int .u32 m.d1) ∧ W.cell? ⟨bl, o + 2, none⟩ = some (.int .u32 m.d2) ∧ W.cell? ⟨bl, o + 3, none⟩ = some (.int .u32 m.d3)) : w'.cell? ⟨bX, 0, none⟩ = some (v0) ∧ w'.cell? ⟨bX, 1, none⟩ = some (v1) ∧ w'.cell? ⟨bX, 2, none⟩ = some (v2) ∧ w'.cell? ⟨bP, 0, none⟩ = some (u0) ∧ w'.cell? ⟨bP, 1, none⟩ = some (u1) ∧ w'.cell? ⟨bP, 2, none⟩ = some (u2) ∧ w'.cell? ⟨bP, 3, none⟩ = some (u3) ∧ w'.cell? ⟨bl, o, none⟩ = some (.int .u32 m.d0) ∧ w'.cell? ⟨bl, o + 1, none⟩ = some (.int .u32 m.d1) ∧ w'.cell? ⟨bl, o + 2, none⟩ = some (.int .u32 m.d2) ∧ w'.cell? ⟨bl, o + 3, none⟩ = some (.int .u32 m.d3) := by
  obtain ⟨f0, f1, f2, f3, f4, f5, f6, f7, f8, f9, f10⟩ := f
  exact ⟨by rw [h.cell (p := ⟨_, _, none⟩) g0]; exact f0, by rw [h.cell (p := ⟨_, _, none⟩) g0]; exact f1, by rw [h.cell (p := ⟨_, _, none⟩) g0]; exact f2, by rw [h.cell (p := ⟨_, _, none⟩) g1]; exact f3, by rw [h.cell (p := ⟨_, _, none⟩) g1]; exact f4, by rw [h.cell (p := ⟨_, _, none⟩) g1]; exact f5, by rw [h.cell (p := ⟨_, _, none⟩) g1]; exact f6, by rw [h.cell (p := ⟨_, _, none⟩) g2]; exact f7, by rw [h.cell (p := ⟨_, _, none⟩) g2]; exact f8, by rw [h.cell (p := ⟨_, _, none⟩) g2]; exact f9, by rw [h.cell (p := ⟨_, _, none⟩) g2]; exact f10⟩
end Go.Proofs.YtdphhpmkcalahaaDoor
