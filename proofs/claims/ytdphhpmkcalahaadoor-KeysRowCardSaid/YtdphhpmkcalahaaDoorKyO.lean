/-
  awake: the fixed facts of layer 6 (written by gen_awake6.py).
-/
import Derived.Test.YtdphhpmkcalahaaDoorKyN
namespace Go.Proofs.YtdphhpmkcalahaaDoor
open Go.RowKit

def aSeed6 : D4 := ⟨1, 2, 3, 4⟩
def aMsg6 : D4 := ⟨5, 0, 0, 0⟩
theorem aSeed6_ok : aSeed6.ok := by simp [D4.ok, aSeed6, isW]
theorem aMsg6_ok : aMsg6.ok := by simp [D4.ok, aMsg6, isW]
theorem pub_zero (s : D4) : pubK s 0 = keyK s 0 := by
  have h := climb_key s 0 0 (by decide)
  rw [List.length_eq_zero_iff.mp (pathK_len_eq s 0 0)] at h
  exact h.symm
set_option maxHeartbeats 4000000 in
set_option maxRecDepth 100000 in
theorem key_one : sameD (keyK aSeed6 0) aSeed6 = false := by decide +kernel
theorem check6_else : check6 aSeed6 aMsg6 0 (signL (seedK aSeed6 0) aMsg6) (pathK aSeed6 0 0) = false := by
  cases e : check6 aSeed6 aMsg6 0 (signL (seedK aSeed6 0) aMsg6) (pathK aSeed6 0 0)
  · rfl
  · have h1 := (check6_iff _ _ _ _ _).mp e
    have h0 : check6 (pubK aSeed6 0) aMsg6 (0 : Int) (signL (seedK aSeed6 0) aMsg6) (pathK aSeed6 0 0) = true := check6_sign aSeed6 aMsg6 0 0 (by decide) (by decide)
    have h2 := (check6_iff _ _ _ _ _).mp h0
    have h3 : pubK aSeed6 0 = aSeed6 := h2.2.2.2.2.symm.trans h1.2.2.2.2
    rw [pub_zero] at h3
    have h4 := key_one
    rw [h3, (sameD_iff _ _).mpr rfl] at h4
    cases h4
theorem rdS_some {w : World} {g o : Nat} {l : List D4} (h : RdL w g o l) : RdS w (some ⟨g, o, none⟩) l := fun _ => ⟨g, o, rfl, h⟩
theorem OwnsD.use {B n c : Nat} {p : Option Addr} {l : List D4} {w : World} (h : OwnsD B (.slice p n c) l w) : n = l.length ∧ RdS w p l ∧ n ≤ c ∧ c ≤ maxLen := by
  obtain ⟨p', c', e, h1, h2, h3⟩ := h.form
  injection e with e1 e2 e3
  subst e1; subst e2; subst e3
  exact ⟨rfl, h3, h1, h2⟩
theorem cpub_l0 (v : D4) (w : World) (hT : TurnsOk w) (hv : pubK aSeed6 0 = v) :
    Calls Tryd.prog 11 #[.agg #[.int .u32 1, .int .u32 2, .int .u32 3, .int .u32 4], .int .i64 0] w fun e w' => e = .returned (.tuple #[.agg #[.int .u32 v.d0, .int .u32 v.d1, .int .u32 v.d2, .int .u32 v.d3], .int .i64 0]) ∧ Below w.heap.size w w' := cpub6_yes aSeed6 v 0 w aSeed6_ok (by decide) hT hv
theorem cpub_l5 (w : World) :
    Calls Tryd.prog 11 #[.agg #[.int .u32 1, .int .u32 2, .int .u32 3, .int .u32 4], .int .i64 5] w fun e w' => e = .returned (.tuple #[.agg #[.int .u32 0, .int .u32 0, .int .u32 0, .int .u32 0], .int .i64 2]) ∧ Below w.heap.size w w' := cpub6_no aSeed6 5 w (by decide)
theorem csign_l0 (L Q : List D4) (w : World) (hT : TurnsOk w) (hL : signL (seedK aSeed6 0) aMsg6 = L) (hQ : pathK aSeed6 0 0 = Q) (hQN : Q.length = 0) :
    Calls Tryd.prog 14 #[.agg #[.int .u32 1, .int .u32 2, .int .u32 3, .int .u32 4], .int .i64 0, .int .i64 0, .agg #[.int .u32 5, .int .u32 0, .int .u32 0, .int .u32 0]] w fun e w' => ∃ g p' c', e = .returned (.tuple #[.agg #[.int .i64 0, .slice (some ⟨g, 0, none⟩) 35 35, .slice p' 0 c'], .int .i64 0]) ∧ w.heap.size ≤ g ∧ RdL w' g 0 L ∧ OwnsD w.heap.size (.slice p' 0 c') Q w' ∧ Below w.heap.size w w' :=
  csign6_yes aSeed6 aMsg6 0 0 L Q w aSeed6_ok hT aMsg6_ok (by decide) (by decide) hL hQ 0 hQN
theorem csign_l1 (w : World) (hT : TurnsOk w) :
    Calls Tryd.prog 14 #[.agg #[.int .u32 1, .int .u32 2, .int .u32 3, .int .u32 4], .int .i64 0, .int .i64 1, .agg #[.int .u32 5, .int .u32 0, .int .u32 0, .int .u32 0]] w fun e w' => e = .returned (.tuple #[.agg #[.int .i64 0, .slice none 0 0, .slice none 0 0], .int .i64 1]) ∧ Below w.heap.size w w' :=
  csign6_arg aSeed6 aMsg6 0 1 w aSeed6_ok hT (by decide) (by decide)
theorem ccheck_l (pub : D4) (S Q : List D4) (bl : Bool) (p q : Option Addr) (n c m d : Nat) (w : World) (hSo : allD4 S) (hQo : allD4 Q) (hn : n = S.length) (hm : m = Q.length) (hrS : RdS w p S) (hrQ : RdS w q Q) (hc : S.length ≤ c) (hcm : c ≤ maxLen) (hd : m ≤ d) (hdm : d ≤ maxLen) (hT : TurnsOk w) (hb : check6 pub aMsg6 0 S Q = bl) :
    Calls Tryd.prog 17 #[.agg #[.int .u32 pub.d0, .int .u32 pub.d1, .int .u32 pub.d2, .int .u32 pub.d3], .agg #[.int .u32 5, .int .u32 0, .int .u32 0, .int .u32 0], .agg #[.int .i64 0, .slice p n c, .slice q m d]] w fun e w' => e = .returned (.bool bl) ∧ Below w.heap.size w w' :=
  ccheck6_any pub aMsg6 0 S Q bl p q n c m d w aMsg6_ok hSo hQo hn hm hrS hrQ hc hcm hd hdm hT hb
theorem ccheck_l1 (S Q : List D4) (bl : Bool) (p q : Option Addr) (n c m d : Nat) (w : World) (hSo : allD4 S) (hQo : allD4 Q) (hn : n = S.length) (hm : m = Q.length) (hrS : RdS w p S) (hrQ : RdS w q Q) (hc : S.length ≤ c) (hcm : c ≤ maxLen) (hd : m ≤ d) (hdm : d ≤ maxLen) (hT : TurnsOk w) (hb : check6 aSeed6 aMsg6 0 S Q = bl) :
    Calls Tryd.prog 17 #[.agg #[.int .u32 1, .int .u32 2, .int .u32 3, .int .u32 4], .agg #[.int .u32 5, .int .u32 0, .int .u32 0, .int .u32 0], .agg #[.int .i64 0, .slice p n c, .slice q m d]] w fun e w' => e = .returned (.bool bl) ∧ Below w.heap.size w w' :=
  ccheck6_any aSeed6 aMsg6 0 S Q bl p q n c m d w aMsg6_ok hSo hQo hn hm hrS hrQ hc hcm hd hdm hT hb
theorem rseed_l (z : D4) (w : World) (hz : seedK aSeed6 0 = z) :
    Calls Tryd.prog 25 #[.agg #[.int .u32 1, .int .u32 2, .int .u32 3, .int .u32 4], .int .i64 0] w fun e w' => e = .returned (.agg #[.int .u32 z.d0, .int .u32 z.d1, .int .u32 z.d2, .int .u32 z.d3]) ∧ Below w.heap.size w w' := rseed_any aSeed6 z 0 w aSeed6_ok (by decide) hz
theorem keepA {B b0 b1 b2 b3 : Nat} {W w' : World} {v0_0 v0_1 v0_2 v0_3 v1_0 v1_1 v1_2 v1_3 v2_0 v2_1 v2_2 v2_3 v3_0 v3_1 v3_2 : Value} (h : Below B W w') (g0 : b0 < B) (g1 : b1 < B) (g2 : b2 < B) (g3 : b3 < B) (f : W.cell? ⟨b0, 0, none⟩ = some (v0_0) ∧ W.cell? ⟨b0, 1, none⟩ = some (v0_1) ∧ W.cell? ⟨b0, 2, none⟩ = some (v0_2) ∧ W.cell? ⟨b0, 3, none⟩ = some (v0_3) ∧ W.cell? ⟨b1, 0, none⟩ = some (v1_0) ∧ W.cell? ⟨b1, 1, none⟩ = some (v1_1) ∧ W.cell? ⟨b1, 2, none⟩ = some (v1_2) ∧ W.cell? ⟨b1, 3, none⟩ = some (v1_3) ∧ W.cell? ⟨b2, 0, none⟩ = some (v2_0) ∧ W.cell? ⟨b2, 1, none⟩ = some (v2_1) ∧ W.cell? ⟨b2, 2, none⟩ = some (v2_2) ∧ W.cell? ⟨b2, 3, none⟩ = some (v2_3) ∧ W.cell? ⟨b3, 0, none⟩ = some (v3_0) ∧ W.cell? ⟨b3, 1, none⟩ = some (v3_1) ∧ W.cell? ⟨b3, 2, none⟩ = some (v3_2)) : w'.cell? ⟨b0, 0, none⟩ = some (v0_0) ∧ w'.cell? ⟨b0, 1, none⟩ = some (v0_1) ∧ w'.cell? ⟨b0, 2, none⟩ = some (v0_2) ∧ w'.cell? ⟨b0, 3, none⟩ = some (v0_3) ∧ w'.cell? ⟨b1, 0, none⟩ = some (v1_0) ∧ w'.cell? ⟨b1, 1, none⟩ = some (v1_1) ∧ w'.cell? ⟨b1, 2, none⟩ = some (v1_2) ∧ w'.cell? ⟨b1, 3, none⟩ = some (v1_3) ∧ w'.cell? ⟨b2, 0, none⟩ = some (v2_0) ∧ w'.cell? ⟨b2, 1, none⟩ = some (v2_1) ∧ w'.cell? ⟨b2, 2, none⟩ = some (v2_2) ∧ w'.cell? ⟨b2, 3, none⟩ = some (v2_3) ∧ w'.cell? ⟨b3, 0, none⟩ = some (v3_0) ∧ w'.cell? ⟨b3, 1, none⟩ = some (v3_1) ∧ w'.cell? ⟨b3, 2, none⟩ = some (v3_2) := by
  obtain ⟨f0, f1, f2, f3, f4, f5, f6, f7, f8, f9, f10, f11, f12, f13, f14⟩ := f
  exact ⟨by rw [h.cell (p := ⟨_, _, none⟩) g0]; exact f0, by rw [h.cell (p := ⟨_, _, none⟩) g0]; exact f1, by rw [h.cell (p := ⟨_, _, none⟩) g0]; exact f2, by rw [h.cell (p := ⟨_, _, none⟩) g0]; exact f3, by rw [h.cell (p := ⟨_, _, none⟩) g1]; exact f4, by rw [h.cell (p := ⟨_, _, none⟩) g1]; exact f5, by rw [h.cell (p := ⟨_, _, none⟩) g1]; exact f6, by rw [h.cell (p := ⟨_, _, none⟩) g1]; exact f7, by rw [h.cell (p := ⟨_, _, none⟩) g2]; exact f8, by rw [h.cell (p := ⟨_, _, none⟩) g2]; exact f9, by rw [h.cell (p := ⟨_, _, none⟩) g2]; exact f10, by rw [h.cell (p := ⟨_, _, none⟩) g2]; exact f11, by rw [h.cell (p := ⟨_, _, none⟩) g3]; exact f12, by rw [h.cell (p := ⟨_, _, none⟩) g3]; exact f13, by rw [h.cell (p := ⟨_, _, none⟩) g3]; exact f14⟩
set_option maxHeartbeats 8000000 in
set_option maxRecDepth 100000 in
theorem awake6_any (w : World) (hT : TurnsOk w) : Calls Tryd.prog 10 #[] w fun e w' => e = .returned (.bool true) ∧ Below w.heap.size w w' := by
  obtain ⟨pk, hpk⟩ : ∃ v, pubK aSeed6 0 = v := ⟨_, rfl⟩
  obtain ⟨z, hz⟩ : ∃ v, seedK aSeed6 0 = v := ⟨_, rfl⟩
  obtain ⟨L, hL⟩ : ∃ l, signL (seedK aSeed6 0) aMsg6 = l := ⟨_, rfl⟩
  obtain ⟨Q, hQ⟩ : ∃ l, pathK aSeed6 0 0 = l := ⟨_, rfl⟩
  have HY : Hid (publicD z = pk) := by show _ = _; rw [← hz, ← hpk, pub_zero, keyK]
  have HZO := Lib.hid (show z.ok by rw [← hz]; exact seedK_ok _ _)
  have HLO := Lib.hid (show allD4 L by rw [← hL]; exact signL_ok aMsg6 (seedK_ok _ _))
  have HLL := Lib.hid (show L.length = 35 by rw [← hL]; exact signL_len _ _)
  have HQN := Lib.hid (show Q.length = 0 by rw [← hQ]; exact pathK_len_eq _ _ _)
  have HQO := Lib.hid (show allD4 Q by rw [List.length_eq_zero_iff.mp HQN.out]; exact fun d hd => by cases hd)
  have HC1 := Lib.hid (show check6 pk aMsg6 0 L Q = true by rw [← hpk, ← hL, ← hQ]; exact check6_sign aSeed6 aMsg6 0 0 (by decide) (by decide))
  have HC2 := Lib.hid (show check6 aSeed6 aMsg6 0 L Q = false by rw [← hL, ← hQ]; exact check6_else)
  have HPK := Lib.hid hpk
  have HZ := Lib.hid hz
  have HL := Lib.hid hL
  have HQ := Lib.hid hQ
  clear hpk hz hL hQ
  obtain ⟨w0, hw0⟩ : ∃ w0, (w.alloc (.cells #[.int .u32 1, .int .u32 2, .int .u32 3, .int .u32 4] 24)).alloc (.cells #[.int .u32 5, .int .u32 0, .int .u32 0, .int .u32 0] 24) = w0 := ⟨_, rfl⟩
  obtain ⟨hS0, hM0, hB0⟩ := start47 aSeed6 aMsg6 w w0 hw0
  obtain ⟨s0, s1, s2, s3⟩ := Arr.c4 hS0
  obtain ⟨m0, m1, m2, m3⟩ := Arr.c4 hM0
  simp only [aSeed6, aMsg6] at s0 s1 s2 s3 m0 m1 m2 m3
  have hT0 := hT.below hB0
  have hl0 := hM0.lt
  have HW0 := Lib.hid hw0
  clear hw0
  go_enter Tryd.func10, Tryd.ntmps10
  go_wp2_with fail
  rw [HW0.out]
  refine (cpub_l0 pk w0 hT0 HPK.out).mono ?_
  rintro e w1 ⟨rfl, hD⟩
  obtain ⟨w2, hw2⟩ : ∃ w2, w1.alloc (.cells #[.int .u32 pk.d0, .int .u32 pk.d1, .int .u32 pk.d2, .int .u32 pk.d3] 24) = w2 := ⟨_, rfl⟩
  have hK2 : Arr .u32 24 w1.heap.size pk.toL w2 := by rw [← hw2]; exact heap_alloc_new w1 _
  have hD2 : Below w1.heap.size w1 w2 := by rw [← hw2]; exact (Below.refl _ _).alloc (Nat.le_refl _) _
  have hD02 := hD.trans (hD2.mono hD.size)
  have hS2 := hS0.on hD02
  have hM2 := hM0.on hD02
  have hB2 := hB0.trans (hD02.mono hB0.size)
  have hT2 := hT.below hB2
  have hl1 := hD.size
  have hl2 := hK2.lt
  clear hS0 hM0 hB0 hT0 hD hD2 hD02 s0 s1 s2 s3 m0 m1 m2 m3
  obtain ⟨s0, s1, s2, s3⟩ := Arr.c4 hS2
  obtain ⟨m0, m1, m2, m3⟩ := Arr.c4 hM2
  simp only [aSeed6, aMsg6] at s0 s1 s2 s3 m0 m1 m2 m3
  go_wp2_with fail
  clear hw2
  refine (csign_l0 L Q w2 hT2 HL.out HQ.out HQN.out).mono ?_
  rintro e w3 ⟨g, p, c, rfl, hgB, hrL, hOQ, hD⟩
  have hrQ := hOQ.use.2.1
  have hcm := hOQ.use.2.2.2
  obtain ⟨w4, hw4⟩ : ∃ w4, w3.alloc (.cells #[.int .i64 0, .slice (some ⟨g, 0, none⟩) 35 35, .slice p 0 c] 38) = w4 := ⟨_, rfl⟩
  have hG4 : Box 38 w3.heap.size [.int .i64 0, .slice (some ⟨g, 0, none⟩) 35 35, .slice p 0 c] w4 := by rw [← hw4]; exact Box.new 38 [.int .i64 0, .slice (some ⟨g, 0, none⟩) 35 35, .slice p 0 c] w3
  have hD4 : Below w3.heap.size w3 w4 := by rw [← hw4]; exact (Below.refl _ _).alloc (Nat.le_refl _) _
  have hD24 := hD.trans (hD4.mono hD.size)
  have hS4 := hS2.on hD24
  have hM4 := hM2.on hD24
  have hK4 := hK2.on hD24
  have hL4 := hrL.on hD4
  have hQ4 := hrQ.on hD4
  have hB4 := hB2.trans (hD24.mono hB2.size)
  have hl3 := hD.size
  have hl4 := hG4.lt
  clear hS2 hM2 hK2 hB2 hT2 hD hD4 hD24 hrL hrQ hOQ s0 s1 s2 s3 m0 m1 m2 m3
  obtain ⟨s0, s1, s2, s3⟩ := Arr.c4 hS4
  simp only [aSeed6] at s0 s1 s2 s3
  go_wp2_with fail
  clear hw4
  refine (cpub_l5 w4).mono ?_
  rintro e w5 ⟨rfl, hD⟩
  obtain ⟨w6, hw6⟩ : ∃ w6, w5.alloc (.cells #[.int .u32 0, .int .u32 0, .int .u32 0, .int .u32 0] 24) = w6 := ⟨_, rfl⟩
  have hZ6 : Arr .u32 24 w5.heap.size [0, 0, 0, 0] w6 := by rw [← hw6]; exact heap_alloc_new w5 _
  obtain ⟨z0, z1, z2, z3⟩ := Arr.c4 (d := zeroD) hZ6
  obtain ⟨f0, f1, f2, f3⟩ := hZ6.f4
  simp only [zeroD] at z0 z1 z2 z3
  have hD6 : Below w5.heap.size w5 w6 := by rw [← hw6]; exact (Below.refl _ _).alloc (Nat.le_refl _) _
  obtain ⟨w7, hw7⟩ : ∃ w7, ((((w6.setCell ⟨w5.heap.size, 0, none⟩ (.int .u32 0)).setCell ⟨w5.heap.size, 1, none⟩ (.int .u32 0)).setCell ⟨w5.heap.size, 2, none⟩ (.int .u32 0)).setCell ⟨w5.heap.size, 3, none⟩ (.int .u32 0)) = w7 := ⟨_, rfl⟩
  have hD7 : Below w5.heap.size w5 w7 := by rw [← hw7]; exact below_put4 hD6 (Nat.le_refl _) zeroD
  have hD47 := hD.trans (hD7.mono hD.size)
  have hS7 := hS4.on hD47
  have hM7 := hM4.on hD47
  have hK7 := hK4.on hD47
  have hG7 := hG4.on hD47
  have hL7 := hL4.on hD47
  have hQ7 := hQ4.on hD47
  have hB7 := hB4.trans (hD47.mono hB4.size)
  have hT7 := hT.below hB7
  have hl7 := hD47.size
  clear hS4 hM4 hK4 hG4 hL4 hQ4 hB4 hD hD6 hD7 hD47 hZ6 s0 s1 s2 s3
  obtain ⟨s0, s1, s2, s3⟩ := Arr.c4 hS7
  obtain ⟨m0, m1, m2, m3⟩ := Arr.c4 hM7
  simp only [aSeed6, aMsg6] at s0 s1 s2 s3 m0 m1 m2 m3
  go_wp2_with fail
  clear hw6 hw7 z0 z1 z2 z3 f0 f1 f2 f3
  refine (csign_l1 w7 hT7).mono ?_
  rintro e w8 ⟨rfl, hD⟩
  obtain ⟨w9, hw9⟩ : ∃ w9, w8.alloc (.cells #[.int .i64 0, .slice none 0 0, .slice none 0 0] 38) = w9 := ⟨_, rfl⟩
  have hZ9 : Box 38 w8.heap.size [.int .i64 0, .slice none 0 0, .slice none 0 0] w9 := by rw [← hw9]; exact Box.new 38 [.int .i64 0, .slice none 0 0, .slice none 0 0] w8
  obtain ⟨z0, z1, z2⟩ := hZ9.c3
  have f0 := hZ9.fz 0
  have f1 := hZ9.fz 1
  have f2 := hZ9.fz 2
  have hD9 : Below w8.heap.size w8 w9 := by rw [← hw9]; exact (Below.refl _ _).alloc (Nat.le_refl _) _
  obtain ⟨wa, hwa⟩ : ∃ wa, (((w9.setCell ⟨w8.heap.size, 0, none⟩ (.int .i64 0)).setCell ⟨w8.heap.size, 1, none⟩ (.slice none 0 0)).setCell ⟨w8.heap.size, 2, none⟩ (.slice none 0 0)) = wa := ⟨_, rfl⟩
  have hDa : Below w8.heap.size w8 wa := by rw [← hwa]; exact below_put3 hD9 (Nat.le_refl _) _ _ _
  have hD7a := hD.trans (hDa.mono hD.size)
  have hS4 := Arr.c4 (show Arr .u32 24 w.heap.size aSeed6.toL wa.drew from hS7.on hD7a.drew)
  have hM4 := Arr.c4 (show Arr .u32 24 (w.heap.size + 1) aMsg6.toL wa.drew from hM7.on hD7a.drew)
  have hK4 := Arr.c4 (show Arr .u32 24 w1.heap.size pk.toL wa.drew from hK7.on hD7a.drew)
  have hG4 := Box.c3 (show Box 38 w3.heap.size [.int .i64 0, .slice (some ⟨g, 0, none⟩) 35 35, .slice p 0 c] wa.drew from hG7.on hD7a.drew)
  have hLa : RdL wa.drew g 0 L := hL7.on hD7a.drew
  have hQa : RdS wa.drew p Q := hQ7.on hD7a.drew
  have hBa : Below w.heap.size w wa.drew := (hB7.trans (hD7a.mono hB7.size)).drew
  have hTa : TurnsOk wa.drew := hT.below hBa
  have hla := hD7a.size
  have HS0 : Hid (wa.drew.cell? ⟨w.heap.size, 0, none⟩ = some (.int .u32 1) ∧ wa.drew.cell? ⟨w.heap.size, 1, none⟩ = some (.int .u32 2) ∧ wa.drew.cell? ⟨w.heap.size, 2, none⟩ = some (.int .u32 3) ∧ wa.drew.cell? ⟨w.heap.size, 3, none⟩ = some (.int .u32 4) ∧ wa.drew.cell? ⟨w.heap.size + 1, 0, none⟩ = some (.int .u32 5) ∧ wa.drew.cell? ⟨w.heap.size + 1, 1, none⟩ = some (.int .u32 0) ∧ wa.drew.cell? ⟨w.heap.size + 1, 2, none⟩ = some (.int .u32 0) ∧ wa.drew.cell? ⟨w.heap.size + 1, 3, none⟩ = some (.int .u32 0) ∧ wa.drew.cell? ⟨w1.heap.size, 0, none⟩ = some (.int .u32 pk.d0) ∧ wa.drew.cell? ⟨w1.heap.size, 1, none⟩ = some (.int .u32 pk.d1) ∧ wa.drew.cell? ⟨w1.heap.size, 2, none⟩ = some (.int .u32 pk.d2) ∧ wa.drew.cell? ⟨w1.heap.size, 3, none⟩ = some (.int .u32 pk.d3) ∧ wa.drew.cell? ⟨w3.heap.size, 0, none⟩ = some (.int .i64 0) ∧ wa.drew.cell? ⟨w3.heap.size, 1, none⟩ = some (.slice (some ⟨g, 0, none⟩) 35 35) ∧ wa.drew.cell? ⟨w3.heap.size, 2, none⟩ = some (.slice p 0 c)) := ⟨hS4.1, hS4.2.1, hS4.2.2.1, hS4.2.2.2, hM4.1, hM4.2.1, hM4.2.2.1, hM4.2.2.2, hK4.1, hK4.2.1, hK4.2.2.1, hK4.2.2.2, hG4.1, hG4.2.1, hG4.2.2⟩
  have g0 : w.heap.size < wa.drew.heap.size := show w.heap.size < wa.heap.size by omega
  have g1 : w.heap.size + 1 < wa.drew.heap.size := show w.heap.size + 1 < wa.heap.size by omega
  have g2 : w1.heap.size < wa.drew.heap.size := show w1.heap.size < wa.heap.size by omega
  have g3 : w3.heap.size < wa.drew.heap.size := show w3.heap.size < wa.heap.size by omega
  have hszB := hBa.size
  have hgT : 0 < wa.drew.heap.size := tab_low hTa gTrn
  have hCur : Below wa.drew.heap.size wa.drew wa.drew := Below.refl _ _
  have hEq := eqD_yes pk
  clear hS7 hM7 hK7 hG7 hL7 hQ7 hB7 hT7 hD hD9 hDa hD7a hZ9 hS4 hM4 hK4 hG4 s0 s1 s2 s3 m0 m1 m2 m3
  go_wp2_with fail
  clear hw9 hwa z0 z1 z2 f0 f1 f2
  go_region_held3 (fun w' => w'.cell? ⟨w.heap.size, 0, none⟩ = some (.int .u32 1) ∧ w'.cell? ⟨w.heap.size, 1, none⟩ = some (.int .u32 2) ∧ w'.cell? ⟨w.heap.size, 2, none⟩ = some (.int .u32 3) ∧ w'.cell? ⟨w.heap.size, 3, none⟩ = some (.int .u32 4) ∧ w'.cell? ⟨w.heap.size + 1, 0, none⟩ = some (.int .u32 5) ∧ w'.cell? ⟨w.heap.size + 1, 1, none⟩ = some (.int .u32 0) ∧ w'.cell? ⟨w.heap.size + 1, 2, none⟩ = some (.int .u32 0) ∧ w'.cell? ⟨w.heap.size + 1, 3, none⟩ = some (.int .u32 0) ∧ w'.cell? ⟨w1.heap.size, 0, none⟩ = some (.int .u32 pk.d0) ∧ w'.cell? ⟨w1.heap.size, 1, none⟩ = some (.int .u32 pk.d1) ∧ w'.cell? ⟨w1.heap.size, 2, none⟩ = some (.int .u32 pk.d2) ∧ w'.cell? ⟨w1.heap.size, 3, none⟩ = some (.int .u32 pk.d3) ∧ w'.cell? ⟨w3.heap.size, 0, none⟩ = some (.int .i64 0) ∧ w'.cell? ⟨w3.heap.size, 1, none⟩ = some (.slice (some ⟨g, 0, none⟩) 35 35) ∧ w'.cell? ⟨w3.heap.size, 2, none⟩ = some (.slice p 0 c))
    (first
      | exact keepA hCur g0 g1 g2 g3 HS0.out)
    (first
      | (go_at_call 17; (with_reducible refine (ccheck_l1 L Q false (some ⟨g, 0, none⟩) p 35 35 0 c _ HLO.out HQO.out HLL.out.symm HQN.out.symm (rdS_some (hLa.on hCur)) (hQa.on hCur) (Nat.le_of_eq HLL.out) (by unfold maxLen; omega) (Nat.zero_le _) hcm (turns_far hTa hgT hCur) HC2.out).mono ?_); rintro e wb ⟨rfl, hP⟩; have hCur : Below wa.drew.heap.size wa.drew wb := hCur.trans (hP.mono hCur.size))
      | (go_at_call 25; (with_reducible refine (rseed_l z _ HZ.out).mono ?_); rintro e wb ⟨rfl, hP⟩; have hCur : Below wa.drew.heap.size wa.drew wb := hCur.trans (hP.mono hCur.size))
      | (go_at_call 24; (with_reducible refine (rpublic_val z pk _ HZO.out HY.out).mono ?_); rintro e wb ⟨rfl, hP⟩; have hCur : Below wa.drew.heap.size wa.drew wb := hCur.trans (hP.mono hCur.size))
      | (go_at_call 17; (with_reducible refine (ccheck_l pk L Q true (some ⟨g, 0, none⟩) p 35 35 0 c _ HLO.out HQO.out HLL.out.symm HQN.out.symm (rdS_some (hLa.on hCur)) (hQa.on hCur) (Nat.le_of_eq HLL.out) (by unfold maxLen; omega) (Nat.zero_le _) hcm (turns_far hTa hgT hCur) HC1.out).mono ?_); rintro e wb ⟨rfl, hP⟩; have hCur : Below wa.drew.heap.size wa.drew wb := hCur.trans (hP.mono hCur.size)))
  all_goals
    go_wp2_with fail
    go_ret
    exact ⟨rfl, hBa.trans (hCur.mono hszB)⟩
end Go.Proofs.YtdphhpmkcalahaaDoor
