/-
  KeysCheck: the walk (written by gen_law63.py).
-/
import Derived.Test.YtdphhpmkcalahaaDoorKyO
namespace Go.Proofs.YtdphhpmkcalahaaDoor
open Go.RowKit

theorem keepC {B b0 b1 b2 : Nat} {W w' : World} {v0_0 v0_1 v0_2 v0_3 v1_0 v1_1 v1_2 v1_3 v2_0 v2_1 v2_2 : Value} (h : Below B W w') (g0 : b0 < B) (g1 : b1 < B) (g2 : b2 < B) (f : W.cell? ⟨b0, 0, none⟩ = some (v0_0) ∧ W.cell? ⟨b0, 1, none⟩ = some (v0_1) ∧ W.cell? ⟨b0, 2, none⟩ = some (v0_2) ∧ W.cell? ⟨b0, 3, none⟩ = some (v0_3) ∧ W.cell? ⟨b1, 0, none⟩ = some (v1_0) ∧ W.cell? ⟨b1, 1, none⟩ = some (v1_1) ∧ W.cell? ⟨b1, 2, none⟩ = some (v1_2) ∧ W.cell? ⟨b1, 3, none⟩ = some (v1_3) ∧ W.cell? ⟨b2, 0, none⟩ = some (v2_0) ∧ W.cell? ⟨b2, 1, none⟩ = some (v2_1) ∧ W.cell? ⟨b2, 2, none⟩ = some (v2_2)) : w'.cell? ⟨b0, 0, none⟩ = some (v0_0) ∧ w'.cell? ⟨b0, 1, none⟩ = some (v0_1) ∧ w'.cell? ⟨b0, 2, none⟩ = some (v0_2) ∧ w'.cell? ⟨b0, 3, none⟩ = some (v0_3) ∧ w'.cell? ⟨b1, 0, none⟩ = some (v1_0) ∧ w'.cell? ⟨b1, 1, none⟩ = some (v1_1) ∧ w'.cell? ⟨b1, 2, none⟩ = some (v1_2) ∧ w'.cell? ⟨b1, 3, none⟩ = some (v1_3) ∧ w'.cell? ⟨b2, 0, none⟩ = some (v2_0) ∧ w'.cell? ⟨b2, 1, none⟩ = some (v2_1) ∧ w'.cell? ⟨b2, 2, none⟩ = some (v2_2) := by
  obtain ⟨f0, f1, f2, f3, f4, f5, f6, f7, f8, f9, f10⟩ := f
  exact ⟨by rw [h.cell (p := ⟨_, _, none⟩) g0]; exact f0, by rw [h.cell (p := ⟨_, _, none⟩) g0]; exact f1, by rw [h.cell (p := ⟨_, _, none⟩) g0]; exact f2, by rw [h.cell (p := ⟨_, _, none⟩) g0]; exact f3, by rw [h.cell (p := ⟨_, _, none⟩) g1]; exact f4, by rw [h.cell (p := ⟨_, _, none⟩) g1]; exact f5, by rw [h.cell (p := ⟨_, _, none⟩) g1]; exact f6, by rw [h.cell (p := ⟨_, _, none⟩) g1]; exact f7, by rw [h.cell (p := ⟨_, _, none⟩) g2]; exact f8, by rw [h.cell (p := ⟨_, _, none⟩) g2]; exact f9, by rw [h.cell (p := ⟨_, _, none⟩) g2]; exact f10⟩
set_option maxHeartbeats 8000000 in
set_option maxRecDepth 100000 in
theorem check_long (pub msg : D4) (i : Int) (p q : Option Addr) (n c m d : Nat) (hh : 40 < n ∨ 6 < m) (w : World) (hT : TurnsOk w) :
    Calls Tryd.prog 5 #[.agg #[.int .u32 pub.d0, .int .u32 pub.d1, .int .u32 pub.d2, .int .u32 pub.d3], .agg #[.int .u32 msg.d0, .int .u32 msg.d1, .int .u32 msg.d2, .int .u32 msg.d3], .agg #[.int .i64 i, .slice p n c, .slice q m d]] w fun e w' => e = .returned (.bool true) ∧ Below w.heap.size w w' := by
  have he : decide ((40 : Int) < (n : Int)) = true ∨ (decide ((40 : Int) < (n : Int)) = false ∧ decide ((6 : Int) < (m : Int)) = true) := by
    by_cases q1 : 40 < n
    · left; simp; omega
    · right; exact ⟨by simp; omega, by simp; omega⟩
  clear hh
  obtain ⟨w1, hw1⟩ : ∃ w', w.alloc (.cells #[.int .u32 pub.d0, .int .u32 pub.d1, .int .u32 pub.d2, .int .u32 pub.d3] 24) = w' := ⟨_, rfl⟩
  have hP : Box 24 w.heap.size [.int .u32 pub.d0, .int .u32 pub.d1, .int .u32 pub.d2, .int .u32 pub.d3] w1 := by rw [← hw1]; exact Box.new 24 [.int .u32 pub.d0, .int .u32 pub.d1, .int .u32 pub.d2, .int .u32 pub.d3] w
  have hD : Below w.heap.size w w1 := by rw [← hw1]; exact (Below.refl _ _).alloc (Nat.le_refl _) _
  have hB := hD
  replace hT := hT.below hD
  clear hD
  obtain ⟨w2, hw2⟩ : ∃ w', w1.alloc (.cells #[.int .u32 msg.d0, .int .u32 msg.d1, .int .u32 msg.d2, .int .u32 msg.d3] 24) = w' := ⟨_, rfl⟩
  have hM : Box 24 w1.heap.size [.int .u32 msg.d0, .int .u32 msg.d1, .int .u32 msg.d2, .int .u32 msg.d3] w2 := by rw [← hw2]; exact Box.new 24 [.int .u32 msg.d0, .int .u32 msg.d1, .int .u32 msg.d2, .int .u32 msg.d3] w1
  have hD : Below w1.heap.size w1 w2 := by rw [← hw2]; exact (Below.refl _ _).alloc (Nat.le_refl _) _
  replace hP := hP.on hD
  replace hB := hB.trans (hD.mono hB.size)
  replace hT := hT.below hD
  clear hD
  obtain ⟨w3, hw3⟩ : ∃ w', w2.alloc (.cells #[.int .i64 i, .slice p n c, .slice q m d] 38) = w' := ⟨_, rfl⟩
  have hX : Box 38 w2.heap.size [.int .i64 i, .slice p n c, .slice q m d] w3 := by rw [← hw3]; exact Box.new 38 [.int .i64 i, .slice p n c, .slice q m d] w2
  have hD : Below w2.heap.size w2 w3 := by rw [← hw3]; exact (Below.refl _ _).alloc (Nat.le_refl _) _
  replace hP := hP.on hD
  replace hM := hM.on hD
  replace hB := hB.trans (hD.mono hB.size)
  replace hT := hT.below hD
  clear hD
  go_enter Tryd.func5, Tryd.ntmps5
  have chP0 := hP.cell (j := 0) (v := .int .u32 pub.d0) rfl
  have chP1 := hP.cell (j := 1) (v := .int .u32 pub.d1) rfl
  have chP2 := hP.cell (j := 2) (v := .int .u32 pub.d2) rfl
  have chP3 := hP.cell (j := 3) (v := .int .u32 pub.d3) rfl
  have chM0 := hM.cell (j := 0) (v := .int .u32 msg.d0) rfl
  have chM1 := hM.cell (j := 1) (v := .int .u32 msg.d1) rfl
  have chM2 := hM.cell (j := 2) (v := .int .u32 msg.d2) rfl
  have chM3 := hM.cell (j := 3) (v := .int .u32 msg.d3) rfl
  have chX0 := hX.cell (j := 0) (v := .int .i64 i) rfl
  have chX1 := hX.cell (j := 1) (v := .slice p n c) rfl
  have chX2 := hX.cell (j := 2) (v := .slice q m d) rfl
  go_wp2_with fail
  clear hw1 hw2 hw3 chP0 chP1 chP2 chP3 chM0 chM1 chM2 chM3 chX0 chX1 chX2
  refine (awake6_any w3 hT).mono ?_
  rintro e w4 ⟨rfl, hD⟩
  replace hP := hP.on hD
  replace hM := hM.on hD
  replace hX := hX.on hD
  replace hB := hB.trans (hD.mono hB.size)
  replace hT := hT.below hD
  clear hD
  have chX0 := hX.cell (j := 0) (v := .int .i64 i) rfl
  have chX1 := hX.cell (j := 1) (v := .slice p n c) rfl
  have chX2 := hX.cell (j := 2) (v := .slice q m d) rfl
  rcases he with e3 | ⟨e3, e4⟩
  all_goals
    go_wp2_with fail
    go_ret
    exact ⟨rfl, hB⟩
set_option maxHeartbeats 8000000 in
set_option maxRecDepth 100000 in
theorem check_short (pub msg : D4) (i : Int) (p q : Option Addr) (n c m d : Nat) (S Q : List D4) (hmo : msg.ok) (hSo : allD4 S) (hQo : allD4 Q) (hn : n = S.length) (hm : m = Q.length) (hc : S.length ≤ c) (hcm : c ≤ maxLen) (hd : m ≤ d) (hdm : d ≤ maxLen) (h40 : n ≤ 40) (h6 : m ≤ 6) (w : World) (hrS : RdS w p S) (hrQ : RdS w q Q) (hT : TurnsOk w) :
    Calls Tryd.prog 5 #[.agg #[.int .u32 pub.d0, .int .u32 pub.d1, .int .u32 pub.d2, .int .u32 pub.d3], .agg #[.int .u32 msg.d0, .int .u32 msg.d1, .int .u32 msg.d2, .int .u32 msg.d3], .agg #[.int .i64 i, .slice p n c, .slice q m d]] w fun e w' => e = .returned (.bool true) ∧ Below w.heap.size w w' := by
  have e3 : decide ((40 : Int) < (n : Int)) = false := by simp; omega
  have e4 : decide ((6 : Int) < (m : Int)) = false := by simp; omega
  obtain ⟨bl, hb⟩ : ∃ b, check6 pub msg i S Q = b := ⟨_, rfl⟩
  have HB := Lib.hid hb
  have HMO := Lib.hid hmo
  have HSO := Lib.hid hSo
  have HQO := Lib.hid hQo
  have HN := Lib.hid hn
  have HM := Lib.hid hm
  have HC := Lib.hid hc
  clear hb hmo hSo hQo hn hm hc
  obtain ⟨w1, hw1⟩ : ∃ w', w.alloc (.cells #[.int .u32 pub.d0, .int .u32 pub.d1, .int .u32 pub.d2, .int .u32 pub.d3] 24) = w' := ⟨_, rfl⟩
  have hP : Box 24 w.heap.size [.int .u32 pub.d0, .int .u32 pub.d1, .int .u32 pub.d2, .int .u32 pub.d3] w1 := by rw [← hw1]; exact Box.new 24 [.int .u32 pub.d0, .int .u32 pub.d1, .int .u32 pub.d2, .int .u32 pub.d3] w
  have hD : Below w.heap.size w w1 := by rw [← hw1]; exact (Below.refl _ _).alloc (Nat.le_refl _) _
  replace hrS := hrS.on hD
  replace hrQ := hrQ.on hD
  have hB := hD
  replace hT := hT.below hD
  clear hD
  obtain ⟨w2, hw2⟩ : ∃ w', w1.alloc (.cells #[.int .u32 msg.d0, .int .u32 msg.d1, .int .u32 msg.d2, .int .u32 msg.d3] 24) = w' := ⟨_, rfl⟩
  have hM : Box 24 w1.heap.size [.int .u32 msg.d0, .int .u32 msg.d1, .int .u32 msg.d2, .int .u32 msg.d3] w2 := by rw [← hw2]; exact Box.new 24 [.int .u32 msg.d0, .int .u32 msg.d1, .int .u32 msg.d2, .int .u32 msg.d3] w1
  have hD : Below w1.heap.size w1 w2 := by rw [← hw2]; exact (Below.refl _ _).alloc (Nat.le_refl _) _
  replace hP := hP.on hD
  replace hrS := hrS.on hD
  replace hrQ := hrQ.on hD
  replace hB := hB.trans (hD.mono hB.size)
  replace hT := hT.below hD
  clear hD
  obtain ⟨w3, hw3⟩ : ∃ w', w2.alloc (.cells #[.int .i64 i, .slice p n c, .slice q m d] 38) = w' := ⟨_, rfl⟩
  have hX : Box 38 w2.heap.size [.int .i64 i, .slice p n c, .slice q m d] w3 := by rw [← hw3]; exact Box.new 38 [.int .i64 i, .slice p n c, .slice q m d] w2
  have hD : Below w2.heap.size w2 w3 := by rw [← hw3]; exact (Below.refl _ _).alloc (Nat.le_refl _) _
  replace hP := hP.on hD
  replace hM := hM.on hD
  replace hrS := hrS.on hD
  replace hrQ := hrQ.on hD
  replace hB := hB.trans (hD.mono hB.size)
  replace hT := hT.below hD
  clear hD
  go_enter Tryd.func5, Tryd.ntmps5
  have chP0 := hP.cell (j := 0) (v := .int .u32 pub.d0) rfl
  have chP1 := hP.cell (j := 1) (v := .int .u32 pub.d1) rfl
  have chP2 := hP.cell (j := 2) (v := .int .u32 pub.d2) rfl
  have chP3 := hP.cell (j := 3) (v := .int .u32 pub.d3) rfl
  have chM0 := hM.cell (j := 0) (v := .int .u32 msg.d0) rfl
  have chM1 := hM.cell (j := 1) (v := .int .u32 msg.d1) rfl
  have chM2 := hM.cell (j := 2) (v := .int .u32 msg.d2) rfl
  have chM3 := hM.cell (j := 3) (v := .int .u32 msg.d3) rfl
  have chX0 := hX.cell (j := 0) (v := .int .i64 i) rfl
  have chX1 := hX.cell (j := 1) (v := .slice p n c) rfl
  have chX2 := hX.cell (j := 2) (v := .slice q m d) rfl
  go_wp2_with fail
  clear hw1 hw2 hw3 chP0 chP1 chP2 chP3 chM0 chM1 chM2 chM3 chX0 chX1 chX2
  refine (awake6_any w3 hT).mono ?_
  rintro e w4 ⟨rfl, hD⟩
  replace hP := hP.on hD
  replace hM := hM.on hD
  replace hX := hX.on hD
  replace hrS := hrS.on hD
  replace hrQ := hrQ.on hD
  replace hB := hB.trans (hD.mono hB.size)
  replace hT := hT.below hD
  clear hD
  have chX0 := hX.cell (j := 0) (v := .int .i64 i) rfl
  have chX1 := hX.cell (j := 1) (v := .slice p n c) rfl
  have chX2 := hX.cell (j := 2) (v := .slice q m d) rfl
  replace hrS : RdS w4.drew p S := hrS
  replace hrQ : RdS w4.drew q Q := hrQ
  replace hP : Box 24 (w.heap.size) [.int .u32 pub.d0, .int .u32 pub.d1, .int .u32 pub.d2, .int .u32 pub.d3] w4.drew := hP
  replace hM : Box 24 (w1.heap.size) [.int .u32 msg.d0, .int .u32 msg.d1, .int .u32 msg.d2, .int .u32 msg.d3] w4.drew := hM
  replace hX : Box 38 (w2.heap.size) [.int .i64 i, .slice p n c, .slice q m d] w4.drew := hX
  have HS0 : Hid (w4.drew.cell? ⟨w.heap.size, 0, none⟩ = some (.int .u32 pub.d0) ∧ w4.drew.cell? ⟨w.heap.size, 1, none⟩ = some (.int .u32 pub.d1) ∧ w4.drew.cell? ⟨w.heap.size, 2, none⟩ = some (.int .u32 pub.d2) ∧ w4.drew.cell? ⟨w.heap.size, 3, none⟩ = some (.int .u32 pub.d3) ∧ w4.drew.cell? ⟨w1.heap.size, 0, none⟩ = some (.int .u32 msg.d0) ∧ w4.drew.cell? ⟨w1.heap.size, 1, none⟩ = some (.int .u32 msg.d1) ∧ w4.drew.cell? ⟨w1.heap.size, 2, none⟩ = some (.int .u32 msg.d2) ∧ w4.drew.cell? ⟨w1.heap.size, 3, none⟩ = some (.int .u32 msg.d3) ∧ w4.drew.cell? ⟨w2.heap.size, 0, none⟩ = some (.int .i64 i) ∧ w4.drew.cell? ⟨w2.heap.size, 1, none⟩ = some (.slice p n c) ∧ w4.drew.cell? ⟨w2.heap.size, 2, none⟩ = some (.slice q m d)) := ⟨hP.cell rfl, hP.cell rfl, hP.cell rfl, hP.cell rfl, hM.cell rfl, hM.cell rfl, hM.cell rfl, hM.cell rfl, hX.cell rfl, hX.cell rfl, hX.cell rfl⟩
  have g0 := hP.lt
  have g1 := hM.lt
  have g2 := hX.lt
  replace hB : Below w.heap.size w w4.drew := hB.drew
  have hTa : TurnsOk w4.drew := hT
  clear hT
  have hgT : 0 < w4.drew.heap.size := tab_low hTa gTrn
  have hCur : Below w4.drew.heap.size w4.drew w4.drew := Below.refl _ _
  have hszB := hB.size
  clear hP hM hX
  go_wp2_with fail
  clear chX0 chX1 chX2
  go_region_held3 (fun w' => w'.cell? ⟨w.heap.size, 0, none⟩ = some (.int .u32 pub.d0) ∧ w'.cell? ⟨w.heap.size, 1, none⟩ = some (.int .u32 pub.d1) ∧ w'.cell? ⟨w.heap.size, 2, none⟩ = some (.int .u32 pub.d2) ∧ w'.cell? ⟨w.heap.size, 3, none⟩ = some (.int .u32 pub.d3) ∧ w'.cell? ⟨w1.heap.size, 0, none⟩ = some (.int .u32 msg.d0) ∧ w'.cell? ⟨w1.heap.size, 1, none⟩ = some (.int .u32 msg.d1) ∧ w'.cell? ⟨w1.heap.size, 2, none⟩ = some (.int .u32 msg.d2) ∧ w'.cell? ⟨w1.heap.size, 3, none⟩ = some (.int .u32 msg.d3) ∧ w'.cell? ⟨w2.heap.size, 0, none⟩ = some (.int .i64 i) ∧ w'.cell? ⟨w2.heap.size, 1, none⟩ = some (.slice p n c) ∧ w'.cell? ⟨w2.heap.size, 2, none⟩ = some (.slice q m d))
    (first
      | exact keepC hCur g0 g1 g2 HS0.out)
    (first
      | (go_at_call 17; (with_reducible refine (ccheck6_any pub msg i S Q bl p q n c m d _ HMO.out HSO.out HQO.out HN.out HM.out (hrS.on hCur) (hrQ.on hCur) HC.out hcm hd hdm (turns_far hTa hgT hCur) HB.out).mono ?_); rintro e wb ⟨rfl, hP⟩; have hCur : Below w4.drew.heap.size w4.drew wb := hCur.trans (hP.mono hCur.size))
      | (go_at_call 18; (with_reducible refine (rcheck6_any pub msg i S Q bl p q n c m d _ HMO.out HSO.out HQO.out HN.out HM.out (hrS.on hCur) (hrQ.on hCur) HC.out hcm hd hdm HB.out).mono ?_); rintro e wb ⟨rfl, hP⟩; have hCur : Below w4.drew.heap.size w4.drew wb := hCur.trans (hP.mono hCur.size)))
  all_goals
    go_wp2_with fail
    go_ret
    exact ⟨rfl, hB.trans (hCur.mono hszB)⟩
theorem check_walk (pub msg : D4) (i : Int) (p q : Option Addr) (c d : Nat) (S Q : List D4) (w : World) (hmo : msg.ok) (hSo : allD4 S) (hQo : allD4 Q) (hrS : RdS w p S) (hrQ : RdS w q Q) (hc : S.length ≤ c) (hcm : c ≤ maxLen) (hd : Q.length ≤ d) (hdm : d ≤ maxLen) (hT : TurnsOk w) :
    Calls Tryd.prog 5 #[.agg #[.int .u32 pub.d0, .int .u32 pub.d1, .int .u32 pub.d2, .int .u32 pub.d3], .agg #[.int .u32 msg.d0, .int .u32 msg.d1, .int .u32 msg.d2, .int .u32 msg.d3], .agg #[.int .i64 i, .slice p S.length c, .slice q Q.length d]] w fun e w' => e = .returned (.bool true) ∧ Below w.heap.size w w' := by
  by_cases h : 40 < S.length ∨ 6 < Q.length
  · exact check_long pub msg i p q S.length c Q.length d h w hT
  · exact check_short pub msg i p q S.length c Q.length d S Q hmo hSo hQo rfl rfl hc hcm hd hdm (by omega) (by omega) w hrS hrQ hT
end Go.Proofs.YtdphhpmkcalahaaDoor
