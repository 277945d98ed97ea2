/-
  awake: a fixed fact (written by gen_awake.py).
-/
import Derived.Test.YtkgkmpelclmllaaDoorOtH
import Derived.Deep.RegionHeld3
namespace Go.Proofs.YtkgkmpelclmllaaDoor
open Go.RowKit

def aSeed : D4 := ⟨1, 0, 0, 0⟩
def aMsg : D4 := ⟨2, 0, 0, 0⟩
theorem aSeed_ok : aSeed.ok := by simp [D4.ok, aSeed, isW]
theorem aMsg_ok : aMsg.ok := by simp [D4.ok, aMsg, isW]
/-- A signature by a key holds by its public key. -/
theorem check_sign (seed msg : D4) : checkV (publicD seed) msg (signL seed msg) = true := by
  rw [checkV, is35, reachV, if_pos (signL_len seed msg), reach_sign, decide_eq_true (signL_len seed msg), (sameD_iff _ _).mpr rfl]; rfl
theorem check_nil (pub msg : D4) : checkV pub msg [] = false := by rw [checkV, is35]; rfl
theorem num_zero : (numL zeroD).getD 0 0 = 0 ∧ (numL zeroD).getD 32 0 = 1 ∧ (numL zeroD).getD 33 0 = 14 ∧ (numL zeroD).getD 34 0 = 0 := by decide +kernel
theorem cpub_val (seed v : D4) (w : World) (hs : seed.ok) (hT : TurnsOk w) (hv : publicD seed = v) :
    Calls Tryd.prog 14 #[.agg #[.int .u32 seed.d0, .int .u32 seed.d1, .int .u32 seed.d2, .int .u32 seed.d3]] w fun e w' => e = .returned (.agg #[.int .u32 v.d0, .int .u32 v.d1, .int .u32 v.d2, .int .u32 v.d3]) ∧ Below w.heap.size w w' := cpub_any seed v w hs hT hv
theorem allD4_nil : allD4 [] := fun d hd => by cases hd
theorem len_nil : 0 = ([] : List D4).length := rfl
theorem le_nil : ([] : List D4).length ≤ 0 := Nat.le_refl _
theorem rdS_nil (w : World) : RdS w none [] := fun h => absurd rfl h
theorem cpub_lit (v : D4) (w : World) (hT : TurnsOk w) (hv : publicD aSeed = v) :
    Calls Tryd.prog 14 #[.agg #[.int .u32 1, .int .u32 0, .int .u32 0, .int .u32 0]] w fun e w' => e = .returned (.agg #[.int .u32 v.d0, .int .u32 v.d1, .int .u32 v.d2, .int .u32 v.d3]) ∧ Below w.heap.size w w' := cpub_any aSeed v w aSeed_ok hT hv
theorem ccheck_lit (pub : D4) (S : List D4) (q : Bool) (p : Option Addr) (n scap : Nat) (w : World) (hSo : allD4 S) (hn : n = S.length) (hr : RdS w p S) (hsc : S.length ≤ scap) (hscm : scap ≤ maxLen) (hT : TurnsOk w) (hq : checkV pub aMsg S = q) :
    Calls Tryd.prog 20 #[.agg #[.int .u32 pub.d0, .int .u32 pub.d1, .int .u32 pub.d2, .int .u32 pub.d3], .agg #[.int .u32 2, .int .u32 0, .int .u32 0, .int .u32 0], .slice p n scap] w fun e w' => e = .returned (.bool q) ∧ Below w.heap.size w w' := ccheck_any pub aMsg S q p n scap w aMsg_ok hSo hn hr hsc hscm hT hq
theorem keep12 {B g b c : Nat} {W w' : World} {n0 n1 n2 n3 x0 x1 x2 x3 y0 y1 y2 y3 : Int} (h : Below B W w') (hg : g < B) (hb : b < B) (hc : c < B) (f : W.cell? ⟨g, 0, none⟩ = some (.int .i64 n0) ∧ W.cell? ⟨g, 32, none⟩ = some (.int .i64 n1) ∧ W.cell? ⟨g, 33, none⟩ = some (.int .i64 n2) ∧ W.cell? ⟨g, 34, none⟩ = some (.int .i64 n3) ∧ W.cell? ⟨b, 0, none⟩ = some (.int .u32 x0) ∧ W.cell? ⟨b, 1, none⟩ = some (.int .u32 x1) ∧ W.cell? ⟨b, 2, none⟩ = some (.int .u32 x2) ∧ W.cell? ⟨b, 3, none⟩ = some (.int .u32 x3) ∧ W.cell? ⟨c, 0, none⟩ = some (.int .u32 y0) ∧ W.cell? ⟨c, 1, none⟩ = some (.int .u32 y1) ∧ W.cell? ⟨c, 2, none⟩ = some (.int .u32 y2) ∧ W.cell? ⟨c, 3, none⟩ = some (.int .u32 y3)) : w'.cell? ⟨g, 0, none⟩ = some (.int .i64 n0) ∧ w'.cell? ⟨g, 32, none⟩ = some (.int .i64 n1) ∧ w'.cell? ⟨g, 33, none⟩ = some (.int .i64 n2) ∧ w'.cell? ⟨g, 34, none⟩ = some (.int .i64 n3) ∧ w'.cell? ⟨b, 0, none⟩ = some (.int .u32 x0) ∧ w'.cell? ⟨b, 1, none⟩ = some (.int .u32 x1) ∧ w'.cell? ⟨b, 2, none⟩ = some (.int .u32 x2) ∧ w'.cell? ⟨b, 3, none⟩ = some (.int .u32 x3) ∧ w'.cell? ⟨c, 0, none⟩ = some (.int .u32 y0) ∧ w'.cell? ⟨c, 1, none⟩ = some (.int .u32 y1) ∧ w'.cell? ⟨c, 2, none⟩ = some (.int .u32 y2) ∧ w'.cell? ⟨c, 3, none⟩ = some (.int .u32 y3) := by
  obtain ⟨f0, f1, f2, f3, f4, f5, f6, f7, f8, f9, f10, f11⟩ := f
  exact ⟨by rw [h.cell (p := ⟨_, _, none⟩) hg]; exact f0, by rw [h.cell (p := ⟨_, _, none⟩) hg]; exact f1, by rw [h.cell (p := ⟨_, _, none⟩) hg]; exact f2, by rw [h.cell (p := ⟨_, _, none⟩) hg]; exact f3, by rw [h.cell (p := ⟨_, _, none⟩) hb]; exact f4, by rw [h.cell (p := ⟨_, _, none⟩) hb]; exact f5, by rw [h.cell (p := ⟨_, _, none⟩) hb]; exact f6, by rw [h.cell (p := ⟨_, _, none⟩) hb]; exact f7, by rw [h.cell (p := ⟨_, _, none⟩) hc]; exact f8, by rw [h.cell (p := ⟨_, _, none⟩) hc]; exact f9, by rw [h.cell (p := ⟨_, _, none⟩) hc]; exact f10, by rw [h.cell (p := ⟨_, _, none⟩) hc]; exact f11⟩
set_option maxHeartbeats 8000000 in
set_option maxRecDepth 100000 in
theorem awake5_any (w : World) (hT : TurnsOk w) : Calls Tryd.prog 10 #[] w fun e w' => e = .returned (.bool true) ∧ Below w.heap.size w w' := by
  obtain ⟨pk, hpk⟩ : ∃ v, publicD aSeed = v := ⟨_, rfl⟩
  obtain ⟨L, hL⟩ : ∃ l, signL aSeed aMsg = l := ⟨_, rfl⟩
  have hpo : pk.ok := by rw [← hpk]; exact publicD_ok aSeed_ok
  have hLo : allD4 L := by rw [← hL]; exact signL_ok aMsg aSeed_ok
  have hLl : L.length = 35 := by rw [← hL]; exact signL_len _ _
  have hc1 : checkV pk aMsg L = true := by rw [← hpk, ← hL]; exact check_sign _ _
  have HPK := Lib.hid hpk
  have HL := Lib.hid hL
  have HLO := Lib.hid hLo
  have HLL := Lib.hid hLl.symm
  have HC1 := Lib.hid hc1
  have HC2 := Lib.hid (check_nil pk aMsg)
  clear hpk hL hLo hLl hc1
  go_enter Tryd.func10, Tryd.ntmps10
  go_wp2_with fail
  refine (csteps_val zeroD (numL zeroD) w (by simp [zeroD, D4.ok, isW]) rfl).mono ?_
  rintro e w1 ⟨g, cap, rfl, hgl, hcap, hcm, hRN, hD⟩
  have hB1 := hD
  have hT1 := hT.below hD
  unfold maxLen at hcm
  obtain ⟨w2, hw2⟩ : ∃ w2, (w1.alloc (.cells #[.int .u32 0, .int .u32 0, .int .u32 0, .int .u32 0] 24)).alloc (.cells #[.int .u32 0, .int .u32 0, .int .u32 0, .int .u32 0] 24) = w2 := ⟨_, rfl⟩
  obtain ⟨hX2, hY2, hD2⟩ := start45 zeroD w1 w2 hw2
  obtain ⟨k0, k1, k2, k3⟩ := Arr.c4 (d := zeroD) hX2
  obtain ⟨f0, f1, f2, f3⟩ := hX2.f4
  obtain ⟨m0, m1, m2, m3⟩ := Arr.c4 (d := zeroD) hY2
  obtain ⟨q0, q1, q2, q3⟩ := hY2.f4
  have hX3 := put4 (d := aSeed) hX2 rfl
  have hY3 := far4 hY2 (show w1.heap.size + 1 ≠ w1.heap.size by omega) aSeed
  have hD3 := below_put4 hD2 (Nat.le_refl _) aSeed
  have hX4 := far4 hX3 (show w1.heap.size ≠ w1.heap.size + 1 by omega) aMsg
  have hY4 := put4 (d := aMsg) hY3 rfl
  have hD4 := below_put4 hD3 (show w1.heap.size ≤ w1.heap.size + 1 by omega) aMsg
  simp only [aSeed, aMsg] at hX4 hY4 hD4
  clear hX2 hY2 hD2 hX3 hY3 hD3 hT hD
  simp only [zeroD] at k0 k1 k2 k3 m0 m1 m2 m3
  go_wp2_with fail
  clear hw2 k0 k1 k2 k3 f0 f1 f2 f3 m0 m1 m2 m3 q0 q1 q2 q3
  generalize (((((((w2.setCell ⟨w1.heap.size, 0, none⟩ (.int .u32 1)).setCell ⟨w1.heap.size, 1, none⟩ (.int .u32 0)).setCell ⟨w1.heap.size, 2, none⟩ (.int .u32 0)).setCell ⟨w1.heap.size, 3, none⟩ (.int .u32 0)).setCell ⟨w1.heap.size + 1, 0, none⟩ (.int .u32 2)).setCell ⟨w1.heap.size + 1, 1, none⟩ (.int .u32 0)).setCell ⟨w1.heap.size + 1, 2, none⟩ (.int .u32 0)).setCell ⟨w1.heap.size + 1, 3, none⟩ (.int .u32 0) = w4 at *
  have hRN4 := hRN.on hD4
  have hT4 := hT1.below hD4
  have hB4 := hB1.trans (hD4.mono hB1.size)
  have hsz4 := hY4.lt
  refine (csign_any aSeed aMsg L w4 aSeed_ok aMsg_ok hT4 HL.out).mono ?_
  rintro e w5 ⟨gs, rfl, hgs, hrd, hD5⟩
  have hRN5 := hRN4.on hD5
  have hT5 := hT4.below hD5
  have hB5 := hB4.trans (hD5.mono hB4.size)
  have hX5 := Arr.c4 (d := aSeed) (hX4.on hD5)
  have hY5 := Arr.c4 (d := aMsg) (hY4.on hD5)
  have hg5 := hRN5.1
  have hb5 : w1.heap.size < w5.heap.size := by have := hD5.size; omega
  have hc5 : w1.heap.size + 1 < w5.heap.size := by have := hD5.size; omega
  have hN0 := hRN5.2 0 (by rw [numL_len]; omega)
  have hN32 := hRN5.2 32 (by rw [numL_len]; omega)
  have hN33 := hRN5.2 33 (by rw [numL_len]; omega)
  have hN34 := hRN5.2 34 (by rw [numL_len]; omega)
  rw [num_zero.1] at hN0
  rw [num_zero.2.1] at hN32
  rw [num_zero.2.2.1] at hN33
  rw [num_zero.2.2.2] at hN34
  have HS0 : Hid (w5.drew.cell? ⟨g, 0, none⟩ = some (.int .i64 0) ∧ w5.drew.cell? ⟨g, 32, none⟩ = some (.int .i64 1) ∧ w5.drew.cell? ⟨g, 33, none⟩ = some (.int .i64 14) ∧ w5.drew.cell? ⟨g, 34, none⟩ = some (.int .i64 0) ∧ w5.drew.cell? ⟨w1.heap.size, 0, none⟩ = some (.int .u32 1) ∧ w5.drew.cell? ⟨w1.heap.size, 1, none⟩ = some (.int .u32 0) ∧ w5.drew.cell? ⟨w1.heap.size, 2, none⟩ = some (.int .u32 0) ∧ w5.drew.cell? ⟨w1.heap.size, 3, none⟩ = some (.int .u32 0) ∧ w5.drew.cell? ⟨w1.heap.size + 1, 0, none⟩ = some (.int .u32 2) ∧ w5.drew.cell? ⟨w1.heap.size + 1, 1, none⟩ = some (.int .u32 0) ∧ w5.drew.cell? ⟨w1.heap.size + 1, 2, none⟩ = some (.int .u32 0) ∧ w5.drew.cell? ⟨w1.heap.size + 1, 3, none⟩ = some (.int .u32 0)) := ⟨hN0, hN32, hN33, hN34, hX5.1, hX5.2.1, hX5.2.2.1, hX5.2.2.2, hY5.1, hY5.2.1, hY5.2.2.1, hY5.2.2.2⟩
  have hTd : TurnsOk w5.drew := hT5
  have hrd5 : RdL w5.drew gs 0 L := hrd
  clear hX4 hY4 hD4 hRN hB1 hT1 hRN4 hT4 hB4 hX5 hY5 hD5 hN0 hN32 hN33 hN34 hRN5
  go_wp2_with fail
  go_region_held3 (fun w' => w'.cell? ⟨g, 0, none⟩ = some (.int .i64 0) ∧ w'.cell? ⟨g, 32, none⟩ = some (.int .i64 1) ∧ w'.cell? ⟨g, 33, none⟩ = some (.int .i64 14) ∧ w'.cell? ⟨g, 34, none⟩ = some (.int .i64 0) ∧ w'.cell? ⟨w1.heap.size, 0, none⟩ = some (.int .u32 1) ∧ w'.cell? ⟨w1.heap.size, 1, none⟩ = some (.int .u32 0) ∧ w'.cell? ⟨w1.heap.size, 2, none⟩ = some (.int .u32 0) ∧ w'.cell? ⟨w1.heap.size, 3, none⟩ = some (.int .u32 0) ∧ w'.cell? ⟨w1.heap.size + 1, 0, none⟩ = some (.int .u32 2) ∧ w'.cell? ⟨w1.heap.size + 1, 1, none⟩ = some (.int .u32 0) ∧ w'.cell? ⟨w1.heap.size + 1, 2, none⟩ = some (.int .u32 0) ∧ w'.cell? ⟨w1.heap.size + 1, 3, none⟩ = some (.int .u32 0))
    (first
      | exact keep12 hE4 hg5 hb5 hc5 HS0.out
      | exact keep12 hE3 hg5 hb5 hc5 HS0.out
      | exact keep12 hE2 hg5 hb5 hc5 HS0.out
      | exact keep12 hE1 hg5 hb5 hc5 HS0.out
      | exact HS0.out)
    (first
      | (go_at_call 20; (with_reducible refine (ccheck_lit pk [] false none 0 0 _ allD4_nil len_nil (rdS_nil _) le_nil (Nat.zero_le _) (hTd.below hE3) HC2.out).mono ?_); rintro e wd ⟨rfl, hPd⟩; have hE4 : Below w5.drew.heap.size w5.drew wd := hE3.trans (hPd.mono hE3.size))
      | (go_at_call 14; (with_reducible refine (cpub_lit pk _ (hTd.below hE2) HPK.out).mono ?_); rintro e wc ⟨rfl, hPc⟩; have hE3 : Below w5.drew.heap.size w5.drew wc := hE2.trans (hPc.mono hE2.size))
      | (go_at_call 14; (with_reducible refine (cpub_lit pk _ hTd HPK.out).mono ?_); rintro e wa ⟨rfl, hPa⟩; have hE1 : Below w5.drew.heap.size w5.drew wa := hPa; have hrS1 : RdS wa (some ⟨gs, 0, none⟩) L := fun _ => ⟨gs, 0, rfl, hrd5.on hE1⟩)
      | (go_at_call 20; (with_reducible refine (ccheck_lit pk L true (some ⟨gs, 0, none⟩) 35 35 _ HLO.out HLL.out hrS1 (Nat.le_of_eq HLL.out.symm) (by unfold maxLen; omega) (hTd.below hE1) HC1.out).mono ?_); rintro e wb ⟨rfl, hPb⟩; have hE2 : Below w5.drew.heap.size w5.drew wb := hE1.trans (hPb.mono hE1.size)))
  all_goals
    go_wp2_with fail
    go_ret
    exact ⟨rfl, hB5.drew.trans (hE4.mono hB5.size)⟩
end Go.Proofs.YtkgkmpelclmllaaDoor
