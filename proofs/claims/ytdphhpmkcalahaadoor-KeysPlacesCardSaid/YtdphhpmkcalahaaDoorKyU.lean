/-
  KeysClash: the walks (written by gen_law65.py).
-/
import Derived.Test.YtdphhpmkcalahaaDoorKyO
import Derived.Test.YtdphhpmkcalahaaDoorKyH
namespace Go.Proofs.YtdphhpmkcalahaaDoor
open Go.RowKit

theorem check6_reach {pub msg : D4} {i : Int} {S Q : List D4} (h : check6 pub msg i S Q = true) : is35 S = true := by
  have := ((check6_iff _ _ _ _ _).mp h).2.1
  rw [is35]; exact decide_eq_true this
/-- Two that hold at one place are of one key, or a clash is shown. -/
theorem clash_shown {pub m1 m2 : D4} {i : Nat} {S Q S' Q' : List D4} (hl : Q.length = Q'.length) (h1 : check6 pub m1 (i : Int) S Q = true) (h2 : check6 pub m2 (i : Int) S' Q' = true) (hne : sameD (reachV m1 S) (reachV m2 S') = false) : clash6 i (reachV m1 S) Q (reachV m2 S') Q' = true := by
  have e1 := ((check6_iff _ _ _ _ _).mp h1).2.2.2.2
  have e2 := ((check6_iff _ _ _ _ _).mp h2).2.2.2.2
  rw [Int.toNat_natCast] at e1 e2
  refine clash6_shown Q Q' i _ _ hl (e1.trans e2.symm) fun e => ?_
  rw [(sameD_iff _ _).mpr e] at hne
  cases hne
theorem rclash_nm (i : Nat) (a b : D4) (p q : List D4) (pa qa : Option Addr) (n m c d : Nat) (w : World) (hn : n = p.length) (hm : m = q.length) (hao : a.ok) (hbo : b.ok) (hpo : allD4 p) (hqo : allD4 q) (hp : RdS w pa p) (hq : RdS w qa q) (hc : n ≤ c) (hcm : c ≤ maxLen) (hd : m ≤ d) (hdm : d ≤ maxLen) (hi : (i : Int) < 9223372036854775808) (hb : clash6 i a p b q = true) :
    Calls Tryd.prog 22 #[.int .i64 (i : Int), .agg #[.int .u32 a.d0, .int .u32 a.d1, .int .u32 a.d2, .int .u32 a.d3], .slice pa n c, .agg #[.int .u32 b.d0, .int .u32 b.d1, .int .u32 b.d2, .int .u32 b.d3], .slice qa m d] w fun e w' => e = .returned (.bool true) ∧ Below w.heap.size w w' := by
  rw [← hb]
  exact rclash6_any i a b p q pa qa n m c d w hn hm hao hbo hpo hqo hp hq hc hcm hd hdm hi
set_option maxHeartbeats 8000000 in
set_option maxRecDepth 100000 in
theorem clash_out (pub m1 m2 : D4) (p q p' q' : Option Addr) (i k : Int) (n c m d n' c' m' d' : Nat) (hh : 40 < n ∨ 40 < n' ∨ 6 < m ∨ i ≠ k ∨ m ≠ m') (w : World) (hT : TurnsOk w) :
    Calls Tryd.prog 8 #[.agg #[.int .u32 pub.d0, .int .u32 pub.d1, .int .u32 pub.d2, .int .u32 pub.d3, .int .u32 m1.d0, .int .u32 m1.d1, .int .u32 m1.d2, .int .u32 m1.d3, .int .u32 m2.d0, .int .u32 m2.d1, .int .u32 m2.d2, .int .u32 m2.d3, .int .i64 i, .slice p n c, .slice q m d, .int .i64 k, .slice p' n' c', .slice q' m' d']] w fun e w' => e = .returned (.bool true) ∧ Below w.heap.size w w' := by
  have he : (decide ((40 : Int) < (n : Int)) = true) ∨ (decide ((40 : Int) < (n : Int)) = false ∧ decide ((40 : Int) < (n' : Int)) = true) ∨ (decide ((40 : Int) < (n : Int)) = false ∧ decide ((40 : Int) < (n' : Int)) = false ∧ decide ((6 : Int) < (m : Int)) = true) ∨ (decide ((40 : Int) < (n : Int)) = false ∧ decide ((40 : Int) < (n' : Int)) = false ∧ decide ((6 : Int) < (m : Int)) = false ∧ (i != k) = true) ∨ (decide ((40 : Int) < (n : Int)) = false ∧ decide ((40 : Int) < (n' : Int)) = false ∧ decide ((6 : Int) < (m : Int)) = false ∧ (i != k) = false ∧ ((m : Int) != (m' : Int)) = true) := by
    by_cases q1 : 40 < n
    · left; simp; omega
    right; by_cases q2 : 40 < n'
    · left; exact ⟨by simp; omega, by simp; omega⟩
    right; by_cases q3 : 6 < m
    · left; exact ⟨by simp; omega, by simp; omega, by simp; omega⟩
    right; by_cases q4 : i = k
    · right; exact ⟨by simp; omega, by simp; omega, by simp; omega, by simp [q4], by simp; omega⟩
    · left; exact ⟨by simp; omega, by simp; omega, by simp; omega, by simp [q4]⟩
  clear hh
  obtain ⟨w1, hw1⟩ : ∃ w', w.alloc (.cells #[.int .u32 pub.d0, .int .u32 pub.d1, .int .u32 pub.d2, .int .u32 pub.d3, .int .u32 m1.d0, .int .u32 m1.d1, .int .u32 m1.d2, .int .u32 m1.d3, .int .u32 m2.d0, .int .u32 m2.d1, .int .u32 m2.d2, .int .u32 m2.d3, .int .i64 i, .slice p n c, .slice q m d, .int .i64 k, .slice p' n' c', .slice q' m' d'] 49) = w' := ⟨_, rfl⟩
  have hX : Box 49 w.heap.size [.int .u32 pub.d0, .int .u32 pub.d1, .int .u32 pub.d2, .int .u32 pub.d3, .int .u32 m1.d0, .int .u32 m1.d1, .int .u32 m1.d2, .int .u32 m1.d3, .int .u32 m2.d0, .int .u32 m2.d1, .int .u32 m2.d2, .int .u32 m2.d3, .int .i64 i, .slice p n c, .slice q m d, .int .i64 k, .slice p' n' c', .slice q' m' d'] w1 := by rw [← hw1]; exact Box.new 49 [.int .u32 pub.d0, .int .u32 pub.d1, .int .u32 pub.d2, .int .u32 pub.d3, .int .u32 m1.d0, .int .u32 m1.d1, .int .u32 m1.d2, .int .u32 m1.d3, .int .u32 m2.d0, .int .u32 m2.d1, .int .u32 m2.d2, .int .u32 m2.d3, .int .i64 i, .slice p n c, .slice q m d, .int .i64 k, .slice p' n' c', .slice q' m' d'] w
  have hD : Below w.heap.size w w1 := by rw [← hw1]; exact (Below.refl _ _).alloc (Nat.le_refl _) _
  have hB := hD
  replace hT := hT.below hD
  clear hD
  go_enter Tryd.func8, Tryd.ntmps8
  have chX0 := hX.cell (j := 0) (v := .int .u32 pub.d0) rfl
  have chX1 := hX.cell (j := 1) (v := .int .u32 pub.d1) rfl
  have chX2 := hX.cell (j := 2) (v := .int .u32 pub.d2) rfl
  have chX3 := hX.cell (j := 3) (v := .int .u32 pub.d3) rfl
  have chX4 := hX.cell (j := 4) (v := .int .u32 m1.d0) rfl
  have chX5 := hX.cell (j := 5) (v := .int .u32 m1.d1) rfl
  have chX6 := hX.cell (j := 6) (v := .int .u32 m1.d2) rfl
  have chX7 := hX.cell (j := 7) (v := .int .u32 m1.d3) rfl
  have chX8 := hX.cell (j := 8) (v := .int .u32 m2.d0) rfl
  have chX9 := hX.cell (j := 9) (v := .int .u32 m2.d1) rfl
  have chX10 := hX.cell (j := 10) (v := .int .u32 m2.d2) rfl
  have chX11 := hX.cell (j := 11) (v := .int .u32 m2.d3) rfl
  have chX12 := hX.cell (j := 12) (v := .int .i64 i) rfl
  have chX13 := hX.cell (j := 13) (v := .slice p n c) rfl
  have chX14 := hX.cell (j := 14) (v := .slice q m d) rfl
  have chX15 := hX.cell (j := 15) (v := .int .i64 k) rfl
  have chX16 := hX.cell (j := 16) (v := .slice p' n' c') rfl
  have chX17 := hX.cell (j := 17) (v := .slice q' m' d') rfl
  go_wp2_with fail
  clear hw1 chX0 chX1 chX2 chX3 chX4 chX5 chX6 chX7 chX8 chX9 chX10 chX11 chX12 chX13 chX14 chX15 chX16 chX17
  refine (awake6_any w1 hT).mono ?_
  rintro e w2 ⟨rfl, hD⟩
  replace hX := hX.on hD
  replace hB := hB.trans (hD.mono hB.size)
  replace hT := hT.below hD
  clear hD
  have chX0 := hX.cell (j := 0) (v := .int .u32 pub.d0) rfl
  have chX1 := hX.cell (j := 1) (v := .int .u32 pub.d1) rfl
  have chX2 := hX.cell (j := 2) (v := .int .u32 pub.d2) rfl
  have chX3 := hX.cell (j := 3) (v := .int .u32 pub.d3) rfl
  have chX4 := hX.cell (j := 4) (v := .int .u32 m1.d0) rfl
  have chX5 := hX.cell (j := 5) (v := .int .u32 m1.d1) rfl
  have chX6 := hX.cell (j := 6) (v := .int .u32 m1.d2) rfl
  have chX7 := hX.cell (j := 7) (v := .int .u32 m1.d3) rfl
  have chX8 := hX.cell (j := 8) (v := .int .u32 m2.d0) rfl
  have chX9 := hX.cell (j := 9) (v := .int .u32 m2.d1) rfl
  have chX10 := hX.cell (j := 10) (v := .int .u32 m2.d2) rfl
  have chX11 := hX.cell (j := 11) (v := .int .u32 m2.d3) rfl
  have chX12 := hX.cell (j := 12) (v := .int .i64 i) rfl
  have chX13 := hX.cell (j := 13) (v := .slice p n c) rfl
  have chX14 := hX.cell (j := 14) (v := .slice q m d) rfl
  have chX15 := hX.cell (j := 15) (v := .int .i64 k) rfl
  have chX16 := hX.cell (j := 16) (v := .slice p' n' c') rfl
  have chX17 := hX.cell (j := 17) (v := .slice q' m' d') rfl
  rcases he with e1 | ⟨e1, e2⟩ | ⟨e1, e2, e3⟩ | ⟨e1, e2, e3, e4⟩ | ⟨e1, e2, e3, e4, e5⟩
  all_goals
    go_wp2_with fail
    go_ret
    exact ⟨rfl, hB⟩
set_option maxHeartbeats 8000000 in
set_option maxRecDepth 100000 in
theorem clash_no1 (pub m1 m2 : D4) (p q p' q' : Option Addr) (i : Int) (n c m d n' c' d' : Nat) (S Q S' Q' : List D4) (ho1 : m1.ok) (ho2 : m2.ok) (hSo : allD4 S) (hQo : allD4 Q) (hSo' : allD4 S') (hQo' : allD4 Q') (hn : n = S.length) (hm : m = Q.length) (hn' : n' = S'.length) (hm' : m = Q'.length) (hc : S.length ≤ c) (hcm : c ≤ maxLen) (hd : m ≤ d) (hdm : d ≤ maxLen) (hc' : S'.length ≤ c') (_hcm' : c' ≤ maxLen) (_hd' : m ≤ d') (_hdm' : d' ≤ maxLen) (h40 : n ≤ 40) (h40' : n' ≤ 40) (h6 : m ≤ 6) (h1 : check6 pub m1 i S Q = false) (w : World) (hrS : RdS w p S) (hrQ : RdS w q Q) (hrS' : RdS w p' S') (hrQ' : RdS w q' Q') (hT : TurnsOk w) :
    Calls Tryd.prog 8 #[.agg #[.int .u32 pub.d0, .int .u32 pub.d1, .int .u32 pub.d2, .int .u32 pub.d3, .int .u32 m1.d0, .int .u32 m1.d1, .int .u32 m1.d2, .int .u32 m1.d3, .int .u32 m2.d0, .int .u32 m2.d1, .int .u32 m2.d2, .int .u32 m2.d3, .int .i64 i, .slice p n c, .slice q m d, .int .i64 i, .slice p' n' c', .slice q' m d']] w fun e w' => e = .returned (.bool true) ∧ Below w.heap.size w w' := by
  have e1 : decide ((40 : Int) < (n : Int)) = false := by simp; omega
  have e2 : decide ((40 : Int) < (n' : Int)) = false := by simp; omega
  have e3 : decide ((6 : Int) < (m : Int)) = false := by simp; omega
  have HO1 := Lib.hid ho1
  have HO2 := Lib.hid ho2
  have HSO := Lib.hid hSo
  have HQO := Lib.hid hQo
  have HSP := Lib.hid hSo'
  have HQP := Lib.hid hQo'
  have HN := Lib.hid hn
  have HM := Lib.hid hm
  have HNP := Lib.hid hn'
  have HMP := Lib.hid hm'
  have HC := Lib.hid hc
  have HCP := Lib.hid hc'
  clear ho1 ho2 hSo hQo hSo' hQo' hn hm hn' hm' hc hc'
  have H1 := Lib.hid h1
  clear h1
  obtain ⟨w1, hw1⟩ : ∃ w', w.alloc (.cells #[.int .u32 pub.d0, .int .u32 pub.d1, .int .u32 pub.d2, .int .u32 pub.d3, .int .u32 m1.d0, .int .u32 m1.d1, .int .u32 m1.d2, .int .u32 m1.d3, .int .u32 m2.d0, .int .u32 m2.d1, .int .u32 m2.d2, .int .u32 m2.d3, .int .i64 i, .slice p n c, .slice q m d, .int .i64 i, .slice p' n' c', .slice q' m d'] 49) = w' := ⟨_, rfl⟩
  have hX : Box 49 w.heap.size [.int .u32 pub.d0, .int .u32 pub.d1, .int .u32 pub.d2, .int .u32 pub.d3, .int .u32 m1.d0, .int .u32 m1.d1, .int .u32 m1.d2, .int .u32 m1.d3, .int .u32 m2.d0, .int .u32 m2.d1, .int .u32 m2.d2, .int .u32 m2.d3, .int .i64 i, .slice p n c, .slice q m d, .int .i64 i, .slice p' n' c', .slice q' m d'] w1 := by rw [← hw1]; exact Box.new 49 [.int .u32 pub.d0, .int .u32 pub.d1, .int .u32 pub.d2, .int .u32 pub.d3, .int .u32 m1.d0, .int .u32 m1.d1, .int .u32 m1.d2, .int .u32 m1.d3, .int .u32 m2.d0, .int .u32 m2.d1, .int .u32 m2.d2, .int .u32 m2.d3, .int .i64 i, .slice p n c, .slice q m d, .int .i64 i, .slice p' n' c', .slice q' m d'] w
  have hD : Below w.heap.size w w1 := by rw [← hw1]; exact (Below.refl _ _).alloc (Nat.le_refl _) _
  replace hrS := hrS.on hD
  replace hrQ := hrQ.on hD
  replace hrS' := hrS'.on hD
  replace hrQ' := hrQ'.on hD
  have hB := hD
  replace hT := hT.below hD
  clear hD
  go_enter Tryd.func8, Tryd.ntmps8
  have chX0 := hX.cell (j := 0) (v := .int .u32 pub.d0) rfl
  have chX1 := hX.cell (j := 1) (v := .int .u32 pub.d1) rfl
  have chX2 := hX.cell (j := 2) (v := .int .u32 pub.d2) rfl
  have chX3 := hX.cell (j := 3) (v := .int .u32 pub.d3) rfl
  have chX4 := hX.cell (j := 4) (v := .int .u32 m1.d0) rfl
  have chX5 := hX.cell (j := 5) (v := .int .u32 m1.d1) rfl
  have chX6 := hX.cell (j := 6) (v := .int .u32 m1.d2) rfl
  have chX7 := hX.cell (j := 7) (v := .int .u32 m1.d3) rfl
  have chX8 := hX.cell (j := 8) (v := .int .u32 m2.d0) rfl
  have chX9 := hX.cell (j := 9) (v := .int .u32 m2.d1) rfl
  have chX10 := hX.cell (j := 10) (v := .int .u32 m2.d2) rfl
  have chX11 := hX.cell (j := 11) (v := .int .u32 m2.d3) rfl
  have chX12 := hX.cell (j := 12) (v := .int .i64 i) rfl
  have chX13 := hX.cell (j := 13) (v := .slice p n c) rfl
  have chX14 := hX.cell (j := 14) (v := .slice q m d) rfl
  have chX15 := hX.cell (j := 15) (v := .int .i64 i) rfl
  have chX16 := hX.cell (j := 16) (v := .slice p' n' c') rfl
  have chX17 := hX.cell (j := 17) (v := .slice q' m d') rfl
  go_wp2_with fail
  clear hw1 chX0 chX1 chX2 chX3 chX4 chX5 chX6 chX7 chX8 chX9 chX10 chX11 chX12 chX13 chX14 chX15 chX16 chX17
  refine (awake6_any w1 hT).mono ?_
  rintro e w2 ⟨rfl, hD⟩
  replace hX := hX.on hD
  replace hrS := hrS.on hD
  replace hrQ := hrQ.on hD
  replace hrS' := hrS'.on hD
  replace hrQ' := hrQ'.on hD
  replace hB := hB.trans (hD.mono hB.size)
  replace hT := hT.below hD
  clear hD
  have chX0 := hX.cell (j := 0) (v := .int .u32 pub.d0) rfl
  have chX1 := hX.cell (j := 1) (v := .int .u32 pub.d1) rfl
  have chX2 := hX.cell (j := 2) (v := .int .u32 pub.d2) rfl
  have chX3 := hX.cell (j := 3) (v := .int .u32 pub.d3) rfl
  have chX4 := hX.cell (j := 4) (v := .int .u32 m1.d0) rfl
  have chX5 := hX.cell (j := 5) (v := .int .u32 m1.d1) rfl
  have chX6 := hX.cell (j := 6) (v := .int .u32 m1.d2) rfl
  have chX7 := hX.cell (j := 7) (v := .int .u32 m1.d3) rfl
  have chX8 := hX.cell (j := 8) (v := .int .u32 m2.d0) rfl
  have chX9 := hX.cell (j := 9) (v := .int .u32 m2.d1) rfl
  have chX10 := hX.cell (j := 10) (v := .int .u32 m2.d2) rfl
  have chX11 := hX.cell (j := 11) (v := .int .u32 m2.d3) rfl
  have chX12 := hX.cell (j := 12) (v := .int .i64 i) rfl
  have chX13 := hX.cell (j := 13) (v := .slice p n c) rfl
  have chX14 := hX.cell (j := 14) (v := .slice q m d) rfl
  have chX15 := hX.cell (j := 15) (v := .int .i64 i) rfl
  have chX16 := hX.cell (j := 16) (v := .slice p' n' c') rfl
  have chX17 := hX.cell (j := 17) (v := .slice q' m d') rfl
  go_wp2_with fail
  clear chX0 chX1 chX2 chX3 chX4 chX5 chX6 chX7 chX8 chX9 chX10 chX11 chX12 chX13 chX14 chX15 chX16 chX17
  refine (ccheck6_any pub m1 i S Q false p q n c m d w2 HO1.out HSO.out HQO.out HN.out HM.out hrS hrQ HC.out hcm hd hdm hT H1.out).mono ?_
  rintro e w3 ⟨rfl, hD⟩
  replace hX := hX.on hD
  replace hrS := hrS.on hD
  replace hrQ := hrQ.on hD
  replace hrS' := hrS'.on hD
  replace hrQ' := hrQ'.on hD
  replace hB := hB.trans (hD.mono hB.size)
  replace hT := hT.below hD
  clear hD
  go_wp2_with fail
  go_ret
  exact ⟨rfl, hB⟩
set_option maxHeartbeats 8000000 in
set_option maxRecDepth 100000 in
theorem clash_no2 (pub m1 m2 : D4) (p q p' q' : Option Addr) (i : Int) (n c m d n' c' d' : Nat) (S Q S' Q' : List D4) (ho1 : m1.ok) (ho2 : m2.ok) (hSo : allD4 S) (hQo : allD4 Q) (hSo' : allD4 S') (hQo' : allD4 Q') (hn : n = S.length) (hm : m = Q.length) (hn' : n' = S'.length) (hm' : m = Q'.length) (hc : S.length ≤ c) (hcm : c ≤ maxLen) (hd : m ≤ d) (hdm : d ≤ maxLen) (hc' : S'.length ≤ c') (hcm' : c' ≤ maxLen) (hd' : m ≤ d') (hdm' : d' ≤ maxLen) (h40 : n ≤ 40) (h40' : n' ≤ 40) (h6 : m ≤ 6) (h1 : check6 pub m1 i S Q = true) (h2 : check6 pub m2 i S' Q' = false) (w : World) (hrS : RdS w p S) (hrQ : RdS w q Q) (hrS' : RdS w p' S') (hrQ' : RdS w q' Q') (hT : TurnsOk w) :
    Calls Tryd.prog 8 #[.agg #[.int .u32 pub.d0, .int .u32 pub.d1, .int .u32 pub.d2, .int .u32 pub.d3, .int .u32 m1.d0, .int .u32 m1.d1, .int .u32 m1.d2, .int .u32 m1.d3, .int .u32 m2.d0, .int .u32 m2.d1, .int .u32 m2.d2, .int .u32 m2.d3, .int .i64 i, .slice p n c, .slice q m d, .int .i64 i, .slice p' n' c', .slice q' m d']] w fun e w' => e = .returned (.bool true) ∧ Below w.heap.size w w' := by
  have e1 : decide ((40 : Int) < (n : Int)) = false := by simp; omega
  have e2 : decide ((40 : Int) < (n' : Int)) = false := by simp; omega
  have e3 : decide ((6 : Int) < (m : Int)) = false := by simp; omega
  have HO1 := Lib.hid ho1
  have HO2 := Lib.hid ho2
  have HSO := Lib.hid hSo
  have HQO := Lib.hid hQo
  have HSP := Lib.hid hSo'
  have HQP := Lib.hid hQo'
  have HN := Lib.hid hn
  have HM := Lib.hid hm
  have HNP := Lib.hid hn'
  have HMP := Lib.hid hm'
  have HC := Lib.hid hc
  have HCP := Lib.hid hc'
  clear ho1 ho2 hSo hQo hSo' hQo' hn hm hn' hm' hc hc'
  have H1 := Lib.hid h1
  have H2 := Lib.hid h2
  clear h1 h2
  obtain ⟨w1, hw1⟩ : ∃ w', w.alloc (.cells #[.int .u32 pub.d0, .int .u32 pub.d1, .int .u32 pub.d2, .int .u32 pub.d3, .int .u32 m1.d0, .int .u32 m1.d1, .int .u32 m1.d2, .int .u32 m1.d3, .int .u32 m2.d0, .int .u32 m2.d1, .int .u32 m2.d2, .int .u32 m2.d3, .int .i64 i, .slice p n c, .slice q m d, .int .i64 i, .slice p' n' c', .slice q' m d'] 49) = w' := ⟨_, rfl⟩
  have hX : Box 49 w.heap.size [.int .u32 pub.d0, .int .u32 pub.d1, .int .u32 pub.d2, .int .u32 pub.d3, .int .u32 m1.d0, .int .u32 m1.d1, .int .u32 m1.d2, .int .u32 m1.d3, .int .u32 m2.d0, .int .u32 m2.d1, .int .u32 m2.d2, .int .u32 m2.d3, .int .i64 i, .slice p n c, .slice q m d, .int .i64 i, .slice p' n' c', .slice q' m d'] w1 := by rw [← hw1]; exact Box.new 49 [.int .u32 pub.d0, .int .u32 pub.d1, .int .u32 pub.d2, .int .u32 pub.d3, .int .u32 m1.d0, .int .u32 m1.d1, .int .u32 m1.d2, .int .u32 m1.d3, .int .u32 m2.d0, .int .u32 m2.d1, .int .u32 m2.d2, .int .u32 m2.d3, .int .i64 i, .slice p n c, .slice q m d, .int .i64 i, .slice p' n' c', .slice q' m d'] w
  have hD : Below w.heap.size w w1 := by rw [← hw1]; exact (Below.refl _ _).alloc (Nat.le_refl _) _
  replace hrS := hrS.on hD
  replace hrQ := hrQ.on hD
  replace hrS' := hrS'.on hD
  replace hrQ' := hrQ'.on hD
  have hB := hD
  replace hT := hT.below hD
  clear hD
  go_enter Tryd.func8, Tryd.ntmps8
  have chX0 := hX.cell (j := 0) (v := .int .u32 pub.d0) rfl
  have chX1 := hX.cell (j := 1) (v := .int .u32 pub.d1) rfl
  have chX2 := hX.cell (j := 2) (v := .int .u32 pub.d2) rfl
  have chX3 := hX.cell (j := 3) (v := .int .u32 pub.d3) rfl
  have chX4 := hX.cell (j := 4) (v := .int .u32 m1.d0) rfl
  have chX5 := hX.cell (j := 5) (v := .int .u32 m1.d1) rfl
  have chX6 := hX.cell (j := 6) (v := .int .u32 m1.d2) rfl
  have chX7 := hX.cell (j := 7) (v := .int .u32 m1.d3) rfl
  have chX8 := hX.cell (j := 8) (v := .int .u32 m2.d0) rfl
  have chX9 := hX.cell (j := 9) (v := .int .u32 m2.d1) rfl
  have chX10 := hX.cell (j := 10) (v := .int .u32 m2.d2) rfl
  have chX11 := hX.cell (j := 11) (v := .int .u32 m2.d3) rfl
  have chX12 := hX.cell (j := 12) (v := .int .i64 i) rfl
  have chX13 := hX.cell (j := 13) (v := .slice p n c) rfl
  have chX14 := hX.cell (j := 14) (v := .slice q m d) rfl
  have chX15 := hX.cell (j := 15) (v := .int .i64 i) rfl
  have chX16 := hX.cell (j := 16) (v := .slice p' n' c') rfl
  have chX17 := hX.cell (j := 17) (v := .slice q' m d') rfl
  go_wp2_with fail
  clear hw1 chX0 chX1 chX2 chX3 chX4 chX5 chX6 chX7 chX8 chX9 chX10 chX11 chX12 chX13 chX14 chX15 chX16 chX17
  refine (awake6_any w1 hT).mono ?_
  rintro e w2 ⟨rfl, hD⟩
  replace hX := hX.on hD
  replace hrS := hrS.on hD
  replace hrQ := hrQ.on hD
  replace hrS' := hrS'.on hD
  replace hrQ' := hrQ'.on hD
  replace hB := hB.trans (hD.mono hB.size)
  replace hT := hT.below hD
  clear hD
  have chX0 := hX.cell (j := 0) (v := .int .u32 pub.d0) rfl
  have chX1 := hX.cell (j := 1) (v := .int .u32 pub.d1) rfl
  have chX2 := hX.cell (j := 2) (v := .int .u32 pub.d2) rfl
  have chX3 := hX.cell (j := 3) (v := .int .u32 pub.d3) rfl
  have chX4 := hX.cell (j := 4) (v := .int .u32 m1.d0) rfl
  have chX5 := hX.cell (j := 5) (v := .int .u32 m1.d1) rfl
  have chX6 := hX.cell (j := 6) (v := .int .u32 m1.d2) rfl
  have chX7 := hX.cell (j := 7) (v := .int .u32 m1.d3) rfl
  have chX8 := hX.cell (j := 8) (v := .int .u32 m2.d0) rfl
  have chX9 := hX.cell (j := 9) (v := .int .u32 m2.d1) rfl
  have chX10 := hX.cell (j := 10) (v := .int .u32 m2.d2) rfl
  have chX11 := hX.cell (j := 11) (v := .int .u32 m2.d3) rfl
  have chX12 := hX.cell (j := 12) (v := .int .i64 i) rfl
  have chX13 := hX.cell (j := 13) (v := .slice p n c) rfl
  have chX14 := hX.cell (j := 14) (v := .slice q m d) rfl
  have chX15 := hX.cell (j := 15) (v := .int .i64 i) rfl
  have chX16 := hX.cell (j := 16) (v := .slice p' n' c') rfl
  have chX17 := hX.cell (j := 17) (v := .slice q' m d') rfl
  go_wp2_with fail
  clear chX0 chX1 chX2 chX3 chX4 chX5 chX6 chX7 chX8 chX9 chX10 chX11 chX12 chX13 chX14 chX15 chX16 chX17
  refine (ccheck6_any pub m1 i S Q true p q n c m d w2 HO1.out HSO.out HQO.out HN.out HM.out hrS hrQ HC.out hcm hd hdm hT H1.out).mono ?_
  rintro e w3 ⟨rfl, hD⟩
  replace hX := hX.on hD
  replace hrS := hrS.on hD
  replace hrQ := hrQ.on hD
  replace hrS' := hrS'.on hD
  replace hrQ' := hrQ'.on hD
  replace hB := hB.trans (hD.mono hB.size)
  replace hT := hT.below hD
  clear hD
  have chX0 := hX.cell (j := 0) (v := .int .u32 pub.d0) rfl
  have chX1 := hX.cell (j := 1) (v := .int .u32 pub.d1) rfl
  have chX2 := hX.cell (j := 2) (v := .int .u32 pub.d2) rfl
  have chX3 := hX.cell (j := 3) (v := .int .u32 pub.d3) rfl
  have chX4 := hX.cell (j := 4) (v := .int .u32 m1.d0) rfl
  have chX5 := hX.cell (j := 5) (v := .int .u32 m1.d1) rfl
  have chX6 := hX.cell (j := 6) (v := .int .u32 m1.d2) rfl
  have chX7 := hX.cell (j := 7) (v := .int .u32 m1.d3) rfl
  have chX8 := hX.cell (j := 8) (v := .int .u32 m2.d0) rfl
  have chX9 := hX.cell (j := 9) (v := .int .u32 m2.d1) rfl
  have chX10 := hX.cell (j := 10) (v := .int .u32 m2.d2) rfl
  have chX11 := hX.cell (j := 11) (v := .int .u32 m2.d3) rfl
  have chX12 := hX.cell (j := 12) (v := .int .i64 i) rfl
  have chX13 := hX.cell (j := 13) (v := .slice p n c) rfl
  have chX14 := hX.cell (j := 14) (v := .slice q m d) rfl
  have chX15 := hX.cell (j := 15) (v := .int .i64 i) rfl
  have chX16 := hX.cell (j := 16) (v := .slice p' n' c') rfl
  have chX17 := hX.cell (j := 17) (v := .slice q' m d') rfl
  go_wp2_with fail
  clear chX0 chX1 chX2 chX3 chX4 chX5 chX6 chX7 chX8 chX9 chX10 chX11 chX12 chX13 chX14 chX15 chX16 chX17
  refine (ccheck6_any pub m2 i S' Q' false p' q' n' c' m d' w3 HO2.out HSP.out HQP.out HNP.out HMP.out hrS' hrQ' HCP.out hcm' hd' hdm' hT H2.out).mono ?_
  rintro e w4 ⟨rfl, hD⟩
  replace hX := hX.on hD
  replace hrS := hrS.on hD
  replace hrQ := hrQ.on hD
  replace hrS' := hrS'.on hD
  replace hrQ' := hrQ'.on hD
  replace hB := hB.trans (hD.mono hB.size)
  replace hT := hT.below hD
  clear hD
  go_wp2_with fail
  go_ret
  exact ⟨rfl, hB⟩
set_option maxHeartbeats 8000000 in
set_option maxRecDepth 100000 in
theorem clash_same (pub m1 m2 : D4) (p q p' q' : Option Addr) (i : Nat) (n c m d n' c' d' : Nat) (S Q S' Q' : List D4) (ho1 : m1.ok) (ho2 : m2.ok) (hSo : allD4 S) (hQo : allD4 Q) (hSo' : allD4 S') (hQo' : allD4 Q') (hn : n = S.length) (hm : m = Q.length) (hn' : n' = S'.length) (hm' : m = Q'.length) (hc : S.length ≤ c) (hcm : c ≤ maxLen) (hd : m ≤ d) (hdm : d ≤ maxLen) (hc' : S'.length ≤ c') (hcm' : c' ≤ maxLen) (hd' : m ≤ d') (hdm' : d' ≤ maxLen) (h40 : n ≤ 40) (h40' : n' ≤ 40) (h6 : m ≤ 6) (h1 : check6 pub m1 (i : Int) S Q = true) (h2 : check6 pub m2 (i : Int) S' Q' = true) (hs : sameD (reachV m1 S) (reachV m2 S') = true) (w : World) (hrS : RdS w p S) (hrQ : RdS w q Q) (hrS' : RdS w p' S') (hrQ' : RdS w q' Q') (hT : TurnsOk w) :
    Calls Tryd.prog 8 #[.agg #[.int .u32 pub.d0, .int .u32 pub.d1, .int .u32 pub.d2, .int .u32 pub.d3, .int .u32 m1.d0, .int .u32 m1.d1, .int .u32 m1.d2, .int .u32 m1.d3, .int .u32 m2.d0, .int .u32 m2.d1, .int .u32 m2.d2, .int .u32 m2.d3, .int .i64 (i : Int), .slice p n c, .slice q m d, .int .i64 (i : Int), .slice p' n' c', .slice q' m d']] w fun e w' => e = .returned (.bool true) ∧ Below w.heap.size w w' := by
  have e1 : decide ((40 : Int) < (n : Int)) = false := by simp; omega
  have e2 : decide ((40 : Int) < (n' : Int)) = false := by simp; omega
  have e3 : decide ((6 : Int) < (m : Int)) = false := by simp; omega
  have HO1 := Lib.hid ho1
  have HO2 := Lib.hid ho2
  have HSO := Lib.hid hSo
  have HQO := Lib.hid hQo
  have HSP := Lib.hid hSo'
  have HQP := Lib.hid hQo'
  have HN := Lib.hid hn
  have HM := Lib.hid hm
  have HNP := Lib.hid hn'
  have HMP := Lib.hid hm'
  have HC := Lib.hid hc
  have HCP := Lib.hid hc'
  clear ho1 ho2 hSo hQo hSo' hQo' hn hm hn' hm' hc hc'
  have HCL := Lib.hid (clash_shown (HM.out.symm.trans HMP.out) h1 h2)
  obtain ⟨a, ha⟩ : ∃ a, reachV m1 S = a := ⟨_, rfl⟩
  obtain ⟨b, hb⟩ : ∃ b, reachV m2 S' = b := ⟨_, rfl⟩
  have hao : a.ok := by rw [← ha]; exact reachV_ok6 m1 HSO.out
  have hbo : b.ok := by rw [← hb]; exact reachV_ok6 m2 HSP.out
  have G1 := Lib.hid (check6_reach h1)
  have G2 := Lib.hid (check6_reach h2)
  rw [ha, hb] at hs
  have hI : (i : Int) < 9223372036854775808 := by have := ((check6_iff _ _ _ _ _).mp h1).2.2.2.1; have := pow_le16 (Nat.le_refl Q.length) ((check6_iff _ _ _ _ _).mp h1).1; omega
  clear HCL hI hao hbo
  have H1 := Lib.hid h1
  have H2 := Lib.hid h2
  have HA := Lib.hid ha
  have HB0 := Lib.hid hb
  clear h1 h2 ha hb
  have hEq := eqD_run a b
  rw [hs] at hEq
  clear hs
  obtain ⟨w1, hw1⟩ : ∃ w', w.alloc (.cells #[.int .u32 pub.d0, .int .u32 pub.d1, .int .u32 pub.d2, .int .u32 pub.d3, .int .u32 m1.d0, .int .u32 m1.d1, .int .u32 m1.d2, .int .u32 m1.d3, .int .u32 m2.d0, .int .u32 m2.d1, .int .u32 m2.d2, .int .u32 m2.d3, .int .i64 (i : Int), .slice p n c, .slice q m d, .int .i64 (i : Int), .slice p' n' c', .slice q' m d'] 49) = w' := ⟨_, rfl⟩
  have hX : Box 49 w.heap.size [.int .u32 pub.d0, .int .u32 pub.d1, .int .u32 pub.d2, .int .u32 pub.d3, .int .u32 m1.d0, .int .u32 m1.d1, .int .u32 m1.d2, .int .u32 m1.d3, .int .u32 m2.d0, .int .u32 m2.d1, .int .u32 m2.d2, .int .u32 m2.d3, .int .i64 (i : Int), .slice p n c, .slice q m d, .int .i64 (i : Int), .slice p' n' c', .slice q' m d'] w1 := by rw [← hw1]; exact Box.new 49 [.int .u32 pub.d0, .int .u32 pub.d1, .int .u32 pub.d2, .int .u32 pub.d3, .int .u32 m1.d0, .int .u32 m1.d1, .int .u32 m1.d2, .int .u32 m1.d3, .int .u32 m2.d0, .int .u32 m2.d1, .int .u32 m2.d2, .int .u32 m2.d3, .int .i64 (i : Int), .slice p n c, .slice q m d, .int .i64 (i : Int), .slice p' n' c', .slice q' m d'] w
  have hD : Below w.heap.size w w1 := by rw [← hw1]; exact (Below.refl _ _).alloc (Nat.le_refl _) _
  replace hrS := hrS.on hD
  replace hrQ := hrQ.on hD
  replace hrS' := hrS'.on hD
  replace hrQ' := hrQ'.on hD
  have hB := hD
  replace hT := hT.below hD
  clear hD
  go_enter Tryd.func8, Tryd.ntmps8
  have chX0 := hX.cell (j := 0) (v := .int .u32 pub.d0) rfl
  have chX1 := hX.cell (j := 1) (v := .int .u32 pub.d1) rfl
  have chX2 := hX.cell (j := 2) (v := .int .u32 pub.d2) rfl
  have chX3 := hX.cell (j := 3) (v := .int .u32 pub.d3) rfl
  have chX4 := hX.cell (j := 4) (v := .int .u32 m1.d0) rfl
  have chX5 := hX.cell (j := 5) (v := .int .u32 m1.d1) rfl
  have chX6 := hX.cell (j := 6) (v := .int .u32 m1.d2) rfl
  have chX7 := hX.cell (j := 7) (v := .int .u32 m1.d3) rfl
  have chX8 := hX.cell (j := 8) (v := .int .u32 m2.d0) rfl
  have chX9 := hX.cell (j := 9) (v := .int .u32 m2.d1) rfl
  have chX10 := hX.cell (j := 10) (v := .int .u32 m2.d2) rfl
  have chX11 := hX.cell (j := 11) (v := .int .u32 m2.d3) rfl
  have chX12 := hX.cell (j := 12) (v := .int .i64 (i : Int)) rfl
  have chX13 := hX.cell (j := 13) (v := .slice p n c) rfl
  have chX14 := hX.cell (j := 14) (v := .slice q m d) rfl
  have chX15 := hX.cell (j := 15) (v := .int .i64 (i : Int)) rfl
  have chX16 := hX.cell (j := 16) (v := .slice p' n' c') rfl
  have chX17 := hX.cell (j := 17) (v := .slice q' m d') rfl
  go_wp2_with fail
  clear hw1 chX0 chX1 chX2 chX3 chX4 chX5 chX6 chX7 chX8 chX9 chX10 chX11 chX12 chX13 chX14 chX15 chX16 chX17
  refine (awake6_any w1 hT).mono ?_
  rintro e w2 ⟨rfl, hD⟩
  replace hX := hX.on hD
  replace hrS := hrS.on hD
  replace hrQ := hrQ.on hD
  replace hrS' := hrS'.on hD
  replace hrQ' := hrQ'.on hD
  replace hB := hB.trans (hD.mono hB.size)
  replace hT := hT.below hD
  clear hD
  have chX0 := hX.cell (j := 0) (v := .int .u32 pub.d0) rfl
  have chX1 := hX.cell (j := 1) (v := .int .u32 pub.d1) rfl
  have chX2 := hX.cell (j := 2) (v := .int .u32 pub.d2) rfl
  have chX3 := hX.cell (j := 3) (v := .int .u32 pub.d3) rfl
  have chX4 := hX.cell (j := 4) (v := .int .u32 m1.d0) rfl
  have chX5 := hX.cell (j := 5) (v := .int .u32 m1.d1) rfl
  have chX6 := hX.cell (j := 6) (v := .int .u32 m1.d2) rfl
  have chX7 := hX.cell (j := 7) (v := .int .u32 m1.d3) rfl
  have chX8 := hX.cell (j := 8) (v := .int .u32 m2.d0) rfl
  have chX9 := hX.cell (j := 9) (v := .int .u32 m2.d1) rfl
  have chX10 := hX.cell (j := 10) (v := .int .u32 m2.d2) rfl
  have chX11 := hX.cell (j := 11) (v := .int .u32 m2.d3) rfl
  have chX12 := hX.cell (j := 12) (v := .int .i64 (i : Int)) rfl
  have chX13 := hX.cell (j := 13) (v := .slice p n c) rfl
  have chX14 := hX.cell (j := 14) (v := .slice q m d) rfl
  have chX15 := hX.cell (j := 15) (v := .int .i64 (i : Int)) rfl
  have chX16 := hX.cell (j := 16) (v := .slice p' n' c') rfl
  have chX17 := hX.cell (j := 17) (v := .slice q' m d') rfl
  go_wp2_with fail
  clear chX0 chX1 chX2 chX3 chX4 chX5 chX6 chX7 chX8 chX9 chX10 chX11 chX12 chX13 chX14 chX15 chX16 chX17
  refine (ccheck6_any pub m1 (i : Int) S Q true p q n c m d w2 HO1.out HSO.out HQO.out HN.out HM.out hrS hrQ HC.out hcm hd hdm hT H1.out).mono ?_
  rintro e w3 ⟨rfl, hD⟩
  replace hX := hX.on hD
  replace hrS := hrS.on hD
  replace hrQ := hrQ.on hD
  replace hrS' := hrS'.on hD
  replace hrQ' := hrQ'.on hD
  replace hB := hB.trans (hD.mono hB.size)
  replace hT := hT.below hD
  clear hD
  have chX0 := hX.cell (j := 0) (v := .int .u32 pub.d0) rfl
  have chX1 := hX.cell (j := 1) (v := .int .u32 pub.d1) rfl
  have chX2 := hX.cell (j := 2) (v := .int .u32 pub.d2) rfl
  have chX3 := hX.cell (j := 3) (v := .int .u32 pub.d3) rfl
  have chX4 := hX.cell (j := 4) (v := .int .u32 m1.d0) rfl
  have chX5 := hX.cell (j := 5) (v := .int .u32 m1.d1) rfl
  have chX6 := hX.cell (j := 6) (v := .int .u32 m1.d2) rfl
  have chX7 := hX.cell (j := 7) (v := .int .u32 m1.d3) rfl
  have chX8 := hX.cell (j := 8) (v := .int .u32 m2.d0) rfl
  have chX9 := hX.cell (j := 9) (v := .int .u32 m2.d1) rfl
  have chX10 := hX.cell (j := 10) (v := .int .u32 m2.d2) rfl
  have chX11 := hX.cell (j := 11) (v := .int .u32 m2.d3) rfl
  have chX12 := hX.cell (j := 12) (v := .int .i64 (i : Int)) rfl
  have chX13 := hX.cell (j := 13) (v := .slice p n c) rfl
  have chX14 := hX.cell (j := 14) (v := .slice q m d) rfl
  have chX15 := hX.cell (j := 15) (v := .int .i64 (i : Int)) rfl
  have chX16 := hX.cell (j := 16) (v := .slice p' n' c') rfl
  have chX17 := hX.cell (j := 17) (v := .slice q' m d') rfl
  go_wp2_with fail
  clear chX0 chX1 chX2 chX3 chX4 chX5 chX6 chX7 chX8 chX9 chX10 chX11 chX12 chX13 chX14 chX15 chX16 chX17
  refine (ccheck6_any pub m2 (i : Int) S' Q' true p' q' n' c' m d' w3 HO2.out HSP.out HQP.out HNP.out HMP.out hrS' hrQ' HCP.out hcm' hd' hdm' hT H2.out).mono ?_
  rintro e w4 ⟨rfl, hD⟩
  replace hX := hX.on hD
  replace hrS := hrS.on hD
  replace hrQ := hrQ.on hD
  replace hrS' := hrS'.on hD
  replace hrQ' := hrQ'.on hD
  replace hB := hB.trans (hD.mono hB.size)
  replace hT := hT.below hD
  clear hD
  have chX0 := hX.cell (j := 0) (v := .int .u32 pub.d0) rfl
  have chX1 := hX.cell (j := 1) (v := .int .u32 pub.d1) rfl
  have chX2 := hX.cell (j := 2) (v := .int .u32 pub.d2) rfl
  have chX3 := hX.cell (j := 3) (v := .int .u32 pub.d3) rfl
  have chX4 := hX.cell (j := 4) (v := .int .u32 m1.d0) rfl
  have chX5 := hX.cell (j := 5) (v := .int .u32 m1.d1) rfl
  have chX6 := hX.cell (j := 6) (v := .int .u32 m1.d2) rfl
  have chX7 := hX.cell (j := 7) (v := .int .u32 m1.d3) rfl
  have chX8 := hX.cell (j := 8) (v := .int .u32 m2.d0) rfl
  have chX9 := hX.cell (j := 9) (v := .int .u32 m2.d1) rfl
  have chX10 := hX.cell (j := 10) (v := .int .u32 m2.d2) rfl
  have chX11 := hX.cell (j := 11) (v := .int .u32 m2.d3) rfl
  have chX12 := hX.cell (j := 12) (v := .int .i64 (i : Int)) rfl
  have chX13 := hX.cell (j := 13) (v := .slice p n c) rfl
  have chX14 := hX.cell (j := 14) (v := .slice q m d) rfl
  have chX15 := hX.cell (j := 15) (v := .int .i64 (i : Int)) rfl
  have chX16 := hX.cell (j := 16) (v := .slice p' n' c') rfl
  have chX17 := hX.cell (j := 17) (v := .slice q' m d') rfl
  go_wp2_with fail
  clear chX0 chX1 chX2 chX3 chX4 chX5 chX6 chX7 chX8 chX9 chX10 chX11 chX12 chX13 chX14 chX15 chX16 chX17
  refine (rreach_any m1 a S true p n c w4 HO1.out HSO.out HN.out hrS HC.out hcm HA.out G1.out).mono ?_
  rintro e w5 ⟨rfl, hD⟩
  replace hX := hX.on hD
  replace hrS := hrS.on hD
  replace hrQ := hrQ.on hD
  replace hrS' := hrS'.on hD
  replace hrQ' := hrQ'.on hD
  replace hB := hB.trans (hD.mono hB.size)
  replace hT := hT.below hD
  clear hD
  obtain ⟨w6, hw6⟩ : ∃ w', w5.alloc (.cells #[.int .u32 a.d0, .int .u32 a.d1, .int .u32 a.d2, .int .u32 a.d3] 24) = w' := ⟨_, rfl⟩
  have hA : Box 24 w5.heap.size [.int .u32 a.d0, .int .u32 a.d1, .int .u32 a.d2, .int .u32 a.d3] w6 := by rw [← hw6]; exact Box.new 24 [.int .u32 a.d0, .int .u32 a.d1, .int .u32 a.d2, .int .u32 a.d3] w5
  have hD : Below w5.heap.size w5 w6 := by rw [← hw6]; exact (Below.refl _ _).alloc (Nat.le_refl _) _
  replace hX := hX.on hD
  replace hrS := hrS.on hD
  replace hrQ := hrQ.on hD
  replace hrS' := hrS'.on hD
  replace hrQ' := hrQ'.on hD
  replace hB := hB.trans (hD.mono hB.size)
  replace hT := hT.below hD
  clear hD
  have chX0 := hX.cell (j := 0) (v := .int .u32 pub.d0) rfl
  have chX1 := hX.cell (j := 1) (v := .int .u32 pub.d1) rfl
  have chX2 := hX.cell (j := 2) (v := .int .u32 pub.d2) rfl
  have chX3 := hX.cell (j := 3) (v := .int .u32 pub.d3) rfl
  have chX4 := hX.cell (j := 4) (v := .int .u32 m1.d0) rfl
  have chX5 := hX.cell (j := 5) (v := .int .u32 m1.d1) rfl
  have chX6 := hX.cell (j := 6) (v := .int .u32 m1.d2) rfl
  have chX7 := hX.cell (j := 7) (v := .int .u32 m1.d3) rfl
  have chX8 := hX.cell (j := 8) (v := .int .u32 m2.d0) rfl
  have chX9 := hX.cell (j := 9) (v := .int .u32 m2.d1) rfl
  have chX10 := hX.cell (j := 10) (v := .int .u32 m2.d2) rfl
  have chX11 := hX.cell (j := 11) (v := .int .u32 m2.d3) rfl
  have chX12 := hX.cell (j := 12) (v := .int .i64 (i : Int)) rfl
  have chX13 := hX.cell (j := 13) (v := .slice p n c) rfl
  have chX14 := hX.cell (j := 14) (v := .slice q m d) rfl
  have chX15 := hX.cell (j := 15) (v := .int .i64 (i : Int)) rfl
  have chX16 := hX.cell (j := 16) (v := .slice p' n' c') rfl
  have chX17 := hX.cell (j := 17) (v := .slice q' m d') rfl
  go_wp2_with fail
  clear hw6 chX0 chX1 chX2 chX3 chX4 chX5 chX6 chX7 chX8 chX9 chX10 chX11 chX12 chX13 chX14 chX15 chX16 chX17
  refine (rreach_any m2 b S' true p' n' c' w6 HO2.out HSP.out HNP.out hrS' HCP.out hcm' HB0.out G2.out).mono ?_
  rintro e w7 ⟨rfl, hD⟩
  replace hX := hX.on hD
  replace hA := hA.on hD
  replace hrS := hrS.on hD
  replace hrQ := hrQ.on hD
  replace hrS' := hrS'.on hD
  replace hrQ' := hrQ'.on hD
  replace hB := hB.trans (hD.mono hB.size)
  replace hT := hT.below hD
  clear hD
  obtain ⟨w8, hw8⟩ : ∃ w', w7.alloc (.cells #[.int .u32 b.d0, .int .u32 b.d1, .int .u32 b.d2, .int .u32 b.d3] 24) = w' := ⟨_, rfl⟩
  have hBb : Box 24 w7.heap.size [.int .u32 b.d0, .int .u32 b.d1, .int .u32 b.d2, .int .u32 b.d3] w8 := by rw [← hw8]; exact Box.new 24 [.int .u32 b.d0, .int .u32 b.d1, .int .u32 b.d2, .int .u32 b.d3] w7
  have hD : Below w7.heap.size w7 w8 := by rw [← hw8]; exact (Below.refl _ _).alloc (Nat.le_refl _) _
  replace hX := hX.on hD
  replace hA := hA.on hD
  replace hrS := hrS.on hD
  replace hrQ := hrQ.on hD
  replace hrS' := hrS'.on hD
  replace hrQ' := hrQ'.on hD
  replace hB := hB.trans (hD.mono hB.size)
  replace hT := hT.below hD
  clear hD
  have chX0 := hX.cell (j := 0) (v := .int .u32 pub.d0) rfl
  have chX1 := hX.cell (j := 1) (v := .int .u32 pub.d1) rfl
  have chX2 := hX.cell (j := 2) (v := .int .u32 pub.d2) rfl
  have chX3 := hX.cell (j := 3) (v := .int .u32 pub.d3) rfl
  have chX4 := hX.cell (j := 4) (v := .int .u32 m1.d0) rfl
  have chX5 := hX.cell (j := 5) (v := .int .u32 m1.d1) rfl
  have chX6 := hX.cell (j := 6) (v := .int .u32 m1.d2) rfl
  have chX7 := hX.cell (j := 7) (v := .int .u32 m1.d3) rfl
  have chX8 := hX.cell (j := 8) (v := .int .u32 m2.d0) rfl
  have chX9 := hX.cell (j := 9) (v := .int .u32 m2.d1) rfl
  have chX10 := hX.cell (j := 10) (v := .int .u32 m2.d2) rfl
  have chX11 := hX.cell (j := 11) (v := .int .u32 m2.d3) rfl
  have chX12 := hX.cell (j := 12) (v := .int .i64 (i : Int)) rfl
  have chX13 := hX.cell (j := 13) (v := .slice p n c) rfl
  have chX14 := hX.cell (j := 14) (v := .slice q m d) rfl
  have chX15 := hX.cell (j := 15) (v := .int .i64 (i : Int)) rfl
  have chX16 := hX.cell (j := 16) (v := .slice p' n' c') rfl
  have chX17 := hX.cell (j := 17) (v := .slice q' m d') rfl
  have chA0 := hA.cell (j := 0) (v := .int .u32 a.d0) rfl
  have chA1 := hA.cell (j := 1) (v := .int .u32 a.d1) rfl
  have chA2 := hA.cell (j := 2) (v := .int .u32 a.d2) rfl
  have chA3 := hA.cell (j := 3) (v := .int .u32 a.d3) rfl
  have chBb0 := hBb.cell (j := 0) (v := .int .u32 b.d0) rfl
  have chBb1 := hBb.cell (j := 1) (v := .int .u32 b.d1) rfl
  have chBb2 := hBb.cell (j := 2) (v := .int .u32 b.d2) rfl
  have chBb3 := hBb.cell (j := 3) (v := .int .u32 b.d3) rfl
  go_wp2_with fail
  clear hw8 chX0 chX1 chX2 chX3 chX4 chX5 chX6 chX7 chX8 chX9 chX10 chX11 chX12 chX13 chX14 chX15 chX16 chX17 chA0 chA1 chA2 chA3 chBb0 chBb1 chBb2 chBb3
  go_ret
  exact ⟨rfl, hB⟩
set_option maxHeartbeats 8000000 in
set_option maxRecDepth 100000 in
theorem clash_else (pub m1 m2 : D4) (p q p' q' : Option Addr) (i : Nat) (n c m d n' c' d' : Nat) (S Q S' Q' : List D4) (ho1 : m1.ok) (ho2 : m2.ok) (hSo : allD4 S) (hQo : allD4 Q) (hSo' : allD4 S') (hQo' : allD4 Q') (hn : n = S.length) (hm : m = Q.length) (hn' : n' = S'.length) (hm' : m = Q'.length) (hc : S.length ≤ c) (hcm : c ≤ maxLen) (hd : m ≤ d) (hdm : d ≤ maxLen) (hc' : S'.length ≤ c') (hcm' : c' ≤ maxLen) (hd' : m ≤ d') (hdm' : d' ≤ maxLen) (h40 : n ≤ 40) (h40' : n' ≤ 40) (h6 : m ≤ 6) (h1 : check6 pub m1 (i : Int) S Q = true) (h2 : check6 pub m2 (i : Int) S' Q' = true) (hs : sameD (reachV m1 S) (reachV m2 S') = false) (w : World) (hrS : RdS w p S) (hrQ : RdS w q Q) (hrS' : RdS w p' S') (hrQ' : RdS w q' Q') (hT : TurnsOk w) :
    Calls Tryd.prog 8 #[.agg #[.int .u32 pub.d0, .int .u32 pub.d1, .int .u32 pub.d2, .int .u32 pub.d3, .int .u32 m1.d0, .int .u32 m1.d1, .int .u32 m1.d2, .int .u32 m1.d3, .int .u32 m2.d0, .int .u32 m2.d1, .int .u32 m2.d2, .int .u32 m2.d3, .int .i64 (i : Int), .slice p n c, .slice q m d, .int .i64 (i : Int), .slice p' n' c', .slice q' m d']] w fun e w' => e = .returned (.bool true) ∧ Below w.heap.size w w' := by
  have e1 : decide ((40 : Int) < (n : Int)) = false := by simp; omega
  have e2 : decide ((40 : Int) < (n' : Int)) = false := by simp; omega
  have e3 : decide ((6 : Int) < (m : Int)) = false := by simp; omega
  have HO1 := Lib.hid ho1
  have HO2 := Lib.hid ho2
  have HSO := Lib.hid hSo
  have HQO := Lib.hid hQo
  have HSP := Lib.hid hSo'
  have HQP := Lib.hid hQo'
  have HN := Lib.hid hn
  have HM := Lib.hid hm
  have HNP := Lib.hid hn'
  have HMP := Lib.hid hm'
  have HC := Lib.hid hc
  have HCP := Lib.hid hc'
  clear ho1 ho2 hSo hQo hSo' hQo' hn hm hn' hm' hc hc'
  have HCL := Lib.hid (clash_shown (HM.out.symm.trans HMP.out) h1 h2)
  obtain ⟨a, ha⟩ : ∃ a, reachV m1 S = a := ⟨_, rfl⟩
  obtain ⟨b, hb⟩ : ∃ b, reachV m2 S' = b := ⟨_, rfl⟩
  have hao : a.ok := by rw [← ha]; exact reachV_ok6 m1 HSO.out
  have hbo : b.ok := by rw [← hb]; exact reachV_ok6 m2 HSP.out
  have G1 := Lib.hid (check6_reach h1)
  have G2 := Lib.hid (check6_reach h2)
  rw [ha, hb] at hs
  have hI : (i : Int) < 9223372036854775808 := by have := ((check6_iff _ _ _ _ _).mp h1).2.2.2.1; have := pow_le16 (Nat.le_refl Q.length) ((check6_iff _ _ _ _ _).mp h1).1; omega
  have HCS : Hid (clash6 i a Q b Q' = true) := by show _ = _; rw [← ha, ← hb]; exact HCL.out (by rw [ha, hb]; exact hs)
  have HAO := Lib.hid hao
  have HBO := Lib.hid hbo
  clear HCL hao hbo
  have H1 := Lib.hid h1
  have H2 := Lib.hid h2
  have HA := Lib.hid ha
  have HB0 := Lib.hid hb
  clear h1 h2 ha hb
  have hEq := eqD_run a b
  rw [hs] at hEq
  clear hs
  obtain ⟨w1, hw1⟩ : ∃ w', w.alloc (.cells #[.int .u32 pub.d0, .int .u32 pub.d1, .int .u32 pub.d2, .int .u32 pub.d3, .int .u32 m1.d0, .int .u32 m1.d1, .int .u32 m1.d2, .int .u32 m1.d3, .int .u32 m2.d0, .int .u32 m2.d1, .int .u32 m2.d2, .int .u32 m2.d3, .int .i64 (i : Int), .slice p n c, .slice q m d, .int .i64 (i : Int), .slice p' n' c', .slice q' m d'] 49) = w' := ⟨_, rfl⟩
  have hX : Box 49 w.heap.size [.int .u32 pub.d0, .int .u32 pub.d1, .int .u32 pub.d2, .int .u32 pub.d3, .int .u32 m1.d0, .int .u32 m1.d1, .int .u32 m1.d2, .int .u32 m1.d3, .int .u32 m2.d0, .int .u32 m2.d1, .int .u32 m2.d2, .int .u32 m2.d3, .int .i64 (i : Int), .slice p n c, .slice q m d, .int .i64 (i : Int), .slice p' n' c', .slice q' m d'] w1 := by rw [← hw1]; exact Box.new 49 [.int .u32 pub.d0, .int .u32 pub.d1, .int .u32 pub.d2, .int .u32 pub.d3, .int .u32 m1.d0, .int .u32 m1.d1, .int .u32 m1.d2, .int .u32 m1.d3, .int .u32 m2.d0, .int .u32 m2.d1, .int .u32 m2.d2, .int .u32 m2.d3, .int .i64 (i : Int), .slice p n c, .slice q m d, .int .i64 (i : Int), .slice p' n' c', .slice q' m d'] w
  have hD : Below w.heap.size w w1 := by rw [← hw1]; exact (Below.refl _ _).alloc (Nat.le_refl _) _
  replace hrS := hrS.on hD
  replace hrQ := hrQ.on hD
  replace hrS' := hrS'.on hD
  replace hrQ' := hrQ'.on hD
  have hB := hD
  replace hT := hT.below hD
  clear hD
  go_enter Tryd.func8, Tryd.ntmps8
  have chX0 := hX.cell (j := 0) (v := .int .u32 pub.d0) rfl
  have chX1 := hX.cell (j := 1) (v := .int .u32 pub.d1) rfl
  have chX2 := hX.cell (j := 2) (v := .int .u32 pub.d2) rfl
  have chX3 := hX.cell (j := 3) (v := .int .u32 pub.d3) rfl
  have chX4 := hX.cell (j := 4) (v := .int .u32 m1.d0) rfl
  have chX5 := hX.cell (j := 5) (v := .int .u32 m1.d1) rfl
  have chX6 := hX.cell (j := 6) (v := .int .u32 m1.d2) rfl
  have chX7 := hX.cell (j := 7) (v := .int .u32 m1.d3) rfl
  have chX8 := hX.cell (j := 8) (v := .int .u32 m2.d0) rfl
  have chX9 := hX.cell (j := 9) (v := .int .u32 m2.d1) rfl
  have chX10 := hX.cell (j := 10) (v := .int .u32 m2.d2) rfl
  have chX11 := hX.cell (j := 11) (v := .int .u32 m2.d3) rfl
  have chX12 := hX.cell (j := 12) (v := .int .i64 (i : Int)) rfl
  have chX13 := hX.cell (j := 13) (v := .slice p n c) rfl
  have chX14 := hX.cell (j := 14) (v := .slice q m d) rfl
  have chX15 := hX.cell (j := 15) (v := .int .i64 (i : Int)) rfl
  have chX16 := hX.cell (j := 16) (v := .slice p' n' c') rfl
  have chX17 := hX.cell (j := 17) (v := .slice q' m d') rfl
  go_wp2_with fail
  clear hw1 chX0 chX1 chX2 chX3 chX4 chX5 chX6 chX7 chX8 chX9 chX10 chX11 chX12 chX13 chX14 chX15 chX16 chX17
  refine (awake6_any w1 hT).mono ?_
  rintro e w2 ⟨rfl, hD⟩
  replace hX := hX.on hD
  replace hrS := hrS.on hD
  replace hrQ := hrQ.on hD
  replace hrS' := hrS'.on hD
  replace hrQ' := hrQ'.on hD
  replace hB := hB.trans (hD.mono hB.size)
  replace hT := hT.below hD
  clear hD
  have chX0 := hX.cell (j := 0) (v := .int .u32 pub.d0) rfl
  have chX1 := hX.cell (j := 1) (v := .int .u32 pub.d1) rfl
  have chX2 := hX.cell (j := 2) (v := .int .u32 pub.d2) rfl
  have chX3 := hX.cell (j := 3) (v := .int .u32 pub.d3) rfl
  have chX4 := hX.cell (j := 4) (v := .int .u32 m1.d0) rfl
  have chX5 := hX.cell (j := 5) (v := .int .u32 m1.d1) rfl
  have chX6 := hX.cell (j := 6) (v := .int .u32 m1.d2) rfl
  have chX7 := hX.cell (j := 7) (v := .int .u32 m1.d3) rfl
  have chX8 := hX.cell (j := 8) (v := .int .u32 m2.d0) rfl
  have chX9 := hX.cell (j := 9) (v := .int .u32 m2.d1) rfl
  have chX10 := hX.cell (j := 10) (v := .int .u32 m2.d2) rfl
  have chX11 := hX.cell (j := 11) (v := .int .u32 m2.d3) rfl
  have chX12 := hX.cell (j := 12) (v := .int .i64 (i : Int)) rfl
  have chX13 := hX.cell (j := 13) (v := .slice p n c) rfl
  have chX14 := hX.cell (j := 14) (v := .slice q m d) rfl
  have chX15 := hX.cell (j := 15) (v := .int .i64 (i : Int)) rfl
  have chX16 := hX.cell (j := 16) (v := .slice p' n' c') rfl
  have chX17 := hX.cell (j := 17) (v := .slice q' m d') rfl
  go_wp2_with fail
  clear chX0 chX1 chX2 chX3 chX4 chX5 chX6 chX7 chX8 chX9 chX10 chX11 chX12 chX13 chX14 chX15 chX16 chX17
  refine (ccheck6_any pub m1 (i : Int) S Q true p q n c m d w2 HO1.out HSO.out HQO.out HN.out HM.out hrS hrQ HC.out hcm hd hdm hT H1.out).mono ?_
  rintro e w3 ⟨rfl, hD⟩
  replace hX := hX.on hD
  replace hrS := hrS.on hD
  replace hrQ := hrQ.on hD
  replace hrS' := hrS'.on hD
  replace hrQ' := hrQ'.on hD
  replace hB := hB.trans (hD.mono hB.size)
  replace hT := hT.below hD
  clear hD
  have chX0 := hX.cell (j := 0) (v := .int .u32 pub.d0) rfl
  have chX1 := hX.cell (j := 1) (v := .int .u32 pub.d1) rfl
  have chX2 := hX.cell (j := 2) (v := .int .u32 pub.d2) rfl
  have chX3 := hX.cell (j := 3) (v := .int .u32 pub.d3) rfl
  have chX4 := hX.cell (j := 4) (v := .int .u32 m1.d0) rfl
  have chX5 := hX.cell (j := 5) (v := .int .u32 m1.d1) rfl
  have chX6 := hX.cell (j := 6) (v := .int .u32 m1.d2) rfl
  have chX7 := hX.cell (j := 7) (v := .int .u32 m1.d3) rfl
  have chX8 := hX.cell (j := 8) (v := .int .u32 m2.d0) rfl
  have chX9 := hX.cell (j := 9) (v := .int .u32 m2.d1) rfl
  have chX10 := hX.cell (j := 10) (v := .int .u32 m2.d2) rfl
  have chX11 := hX.cell (j := 11) (v := .int .u32 m2.d3) rfl
  have chX12 := hX.cell (j := 12) (v := .int .i64 (i : Int)) rfl
  have chX13 := hX.cell (j := 13) (v := .slice p n c) rfl
  have chX14 := hX.cell (j := 14) (v := .slice q m d) rfl
  have chX15 := hX.cell (j := 15) (v := .int .i64 (i : Int)) rfl
  have chX16 := hX.cell (j := 16) (v := .slice p' n' c') rfl
  have chX17 := hX.cell (j := 17) (v := .slice q' m d') rfl
  go_wp2_with fail
  clear chX0 chX1 chX2 chX3 chX4 chX5 chX6 chX7 chX8 chX9 chX10 chX11 chX12 chX13 chX14 chX15 chX16 chX17
  refine (ccheck6_any pub m2 (i : Int) S' Q' true p' q' n' c' m d' w3 HO2.out HSP.out HQP.out HNP.out HMP.out hrS' hrQ' HCP.out hcm' hd' hdm' hT H2.out).mono ?_
  rintro e w4 ⟨rfl, hD⟩
  replace hX := hX.on hD
  replace hrS := hrS.on hD
  replace hrQ := hrQ.on hD
  replace hrS' := hrS'.on hD
  replace hrQ' := hrQ'.on hD
  replace hB := hB.trans (hD.mono hB.size)
  replace hT := hT.below hD
  clear hD
  have chX0 := hX.cell (j := 0) (v := .int .u32 pub.d0) rfl
  have chX1 := hX.cell (j := 1) (v := .int .u32 pub.d1) rfl
  have chX2 := hX.cell (j := 2) (v := .int .u32 pub.d2) rfl
  have chX3 := hX.cell (j := 3) (v := .int .u32 pub.d3) rfl
  have chX4 := hX.cell (j := 4) (v := .int .u32 m1.d0) rfl
  have chX5 := hX.cell (j := 5) (v := .int .u32 m1.d1) rfl
  have chX6 := hX.cell (j := 6) (v := .int .u32 m1.d2) rfl
  have chX7 := hX.cell (j := 7) (v := .int .u32 m1.d3) rfl
  have chX8 := hX.cell (j := 8) (v := .int .u32 m2.d0) rfl
  have chX9 := hX.cell (j := 9) (v := .int .u32 m2.d1) rfl
  have chX10 := hX.cell (j := 10) (v := .int .u32 m2.d2) rfl
  have chX11 := hX.cell (j := 11) (v := .int .u32 m2.d3) rfl
  have chX12 := hX.cell (j := 12) (v := .int .i64 (i : Int)) rfl
  have chX13 := hX.cell (j := 13) (v := .slice p n c) rfl
  have chX14 := hX.cell (j := 14) (v := .slice q m d) rfl
  have chX15 := hX.cell (j := 15) (v := .int .i64 (i : Int)) rfl
  have chX16 := hX.cell (j := 16) (v := .slice p' n' c') rfl
  have chX17 := hX.cell (j := 17) (v := .slice q' m d') rfl
  go_wp2_with fail
  clear chX0 chX1 chX2 chX3 chX4 chX5 chX6 chX7 chX8 chX9 chX10 chX11 chX12 chX13 chX14 chX15 chX16 chX17
  refine (rreach_any m1 a S true p n c w4 HO1.out HSO.out HN.out hrS HC.out hcm HA.out G1.out).mono ?_
  rintro e w5 ⟨rfl, hD⟩
  replace hX := hX.on hD
  replace hrS := hrS.on hD
  replace hrQ := hrQ.on hD
  replace hrS' := hrS'.on hD
  replace hrQ' := hrQ'.on hD
  replace hB := hB.trans (hD.mono hB.size)
  replace hT := hT.below hD
  clear hD
  obtain ⟨w6, hw6⟩ : ∃ w', w5.alloc (.cells #[.int .u32 a.d0, .int .u32 a.d1, .int .u32 a.d2, .int .u32 a.d3] 24) = w' := ⟨_, rfl⟩
  have hA : Box 24 w5.heap.size [.int .u32 a.d0, .int .u32 a.d1, .int .u32 a.d2, .int .u32 a.d3] w6 := by rw [← hw6]; exact Box.new 24 [.int .u32 a.d0, .int .u32 a.d1, .int .u32 a.d2, .int .u32 a.d3] w5
  have hD : Below w5.heap.size w5 w6 := by rw [← hw6]; exact (Below.refl _ _).alloc (Nat.le_refl _) _
  replace hX := hX.on hD
  replace hrS := hrS.on hD
  replace hrQ := hrQ.on hD
  replace hrS' := hrS'.on hD
  replace hrQ' := hrQ'.on hD
  replace hB := hB.trans (hD.mono hB.size)
  replace hT := hT.below hD
  clear hD
  have chX0 := hX.cell (j := 0) (v := .int .u32 pub.d0) rfl
  have chX1 := hX.cell (j := 1) (v := .int .u32 pub.d1) rfl
  have chX2 := hX.cell (j := 2) (v := .int .u32 pub.d2) rfl
  have chX3 := hX.cell (j := 3) (v := .int .u32 pub.d3) rfl
  have chX4 := hX.cell (j := 4) (v := .int .u32 m1.d0) rfl
  have chX5 := hX.cell (j := 5) (v := .int .u32 m1.d1) rfl
  have chX6 := hX.cell (j := 6) (v := .int .u32 m1.d2) rfl
  have chX7 := hX.cell (j := 7) (v := .int .u32 m1.d3) rfl
  have chX8 := hX.cell (j := 8) (v := .int .u32 m2.d0) rfl
  have chX9 := hX.cell (j := 9) (v := .int .u32 m2.d1) rfl
  have chX10 := hX.cell (j := 10) (v := .int .u32 m2.d2) rfl
  have chX11 := hX.cell (j := 11) (v := .int .u32 m2.d3) rfl
  have chX12 := hX.cell (j := 12) (v := .int .i64 (i : Int)) rfl
  have chX13 := hX.cell (j := 13) (v := .slice p n c) rfl
  have chX14 := hX.cell (j := 14) (v := .slice q m d) rfl
  have chX15 := hX.cell (j := 15) (v := .int .i64 (i : Int)) rfl
  have chX16 := hX.cell (j := 16) (v := .slice p' n' c') rfl
  have chX17 := hX.cell (j := 17) (v := .slice q' m d') rfl
  go_wp2_with fail
  clear hw6 chX0 chX1 chX2 chX3 chX4 chX5 chX6 chX7 chX8 chX9 chX10 chX11 chX12 chX13 chX14 chX15 chX16 chX17
  refine (rreach_any m2 b S' true p' n' c' w6 HO2.out HSP.out HNP.out hrS' HCP.out hcm' HB0.out G2.out).mono ?_
  rintro e w7 ⟨rfl, hD⟩
  replace hX := hX.on hD
  replace hA := hA.on hD
  replace hrS := hrS.on hD
  replace hrQ := hrQ.on hD
  replace hrS' := hrS'.on hD
  replace hrQ' := hrQ'.on hD
  replace hB := hB.trans (hD.mono hB.size)
  replace hT := hT.below hD
  clear hD
  obtain ⟨w8, hw8⟩ : ∃ w', w7.alloc (.cells #[.int .u32 b.d0, .int .u32 b.d1, .int .u32 b.d2, .int .u32 b.d3] 24) = w' := ⟨_, rfl⟩
  have hBb : Box 24 w7.heap.size [.int .u32 b.d0, .int .u32 b.d1, .int .u32 b.d2, .int .u32 b.d3] w8 := by rw [← hw8]; exact Box.new 24 [.int .u32 b.d0, .int .u32 b.d1, .int .u32 b.d2, .int .u32 b.d3] w7
  have hD : Below w7.heap.size w7 w8 := by rw [← hw8]; exact (Below.refl _ _).alloc (Nat.le_refl _) _
  replace hX := hX.on hD
  replace hA := hA.on hD
  replace hrS := hrS.on hD
  replace hrQ := hrQ.on hD
  replace hrS' := hrS'.on hD
  replace hrQ' := hrQ'.on hD
  replace hB := hB.trans (hD.mono hB.size)
  replace hT := hT.below hD
  clear hD
  have chX0 := hX.cell (j := 0) (v := .int .u32 pub.d0) rfl
  have chX1 := hX.cell (j := 1) (v := .int .u32 pub.d1) rfl
  have chX2 := hX.cell (j := 2) (v := .int .u32 pub.d2) rfl
  have chX3 := hX.cell (j := 3) (v := .int .u32 pub.d3) rfl
  have chX4 := hX.cell (j := 4) (v := .int .u32 m1.d0) rfl
  have chX5 := hX.cell (j := 5) (v := .int .u32 m1.d1) rfl
  have chX6 := hX.cell (j := 6) (v := .int .u32 m1.d2) rfl
  have chX7 := hX.cell (j := 7) (v := .int .u32 m1.d3) rfl
  have chX8 := hX.cell (j := 8) (v := .int .u32 m2.d0) rfl
  have chX9 := hX.cell (j := 9) (v := .int .u32 m2.d1) rfl
  have chX10 := hX.cell (j := 10) (v := .int .u32 m2.d2) rfl
  have chX11 := hX.cell (j := 11) (v := .int .u32 m2.d3) rfl
  have chX12 := hX.cell (j := 12) (v := .int .i64 (i : Int)) rfl
  have chX13 := hX.cell (j := 13) (v := .slice p n c) rfl
  have chX14 := hX.cell (j := 14) (v := .slice q m d) rfl
  have chX15 := hX.cell (j := 15) (v := .int .i64 (i : Int)) rfl
  have chX16 := hX.cell (j := 16) (v := .slice p' n' c') rfl
  have chX17 := hX.cell (j := 17) (v := .slice q' m d') rfl
  have chA0 := hA.cell (j := 0) (v := .int .u32 a.d0) rfl
  have chA1 := hA.cell (j := 1) (v := .int .u32 a.d1) rfl
  have chA2 := hA.cell (j := 2) (v := .int .u32 a.d2) rfl
  have chA3 := hA.cell (j := 3) (v := .int .u32 a.d3) rfl
  have chBb0 := hBb.cell (j := 0) (v := .int .u32 b.d0) rfl
  have chBb1 := hBb.cell (j := 1) (v := .int .u32 b.d1) rfl
  have chBb2 := hBb.cell (j := 2) (v := .int .u32 b.d2) rfl
  have chBb3 := hBb.cell (j := 3) (v := .int .u32 b.d3) rfl
  go_wp2_with fail
  clear hw8 chX0 chX1 chX2 chX3 chX4 chX5 chX6 chX7 chX8 chX9 chX10 chX11 chX12 chX13 chX14 chX15 chX16 chX17 chA0 chA1 chA2 chA3 chBb0 chBb1 chBb2 chBb3
  refine (rclash_nm i a b Q Q' q q' m m d d' w8 HM.out HMP.out HAO.out HBO.out HQO.out HQP.out hrQ hrQ' hd hdm hd' hdm' hI HCS.out).mono ?_
  rintro e w9 ⟨rfl, hD⟩
  replace hX := hX.on hD
  replace hA := hA.on hD
  replace hBb := hBb.on hD
  replace hrS := hrS.on hD
  replace hrQ := hrQ.on hD
  replace hrS' := hrS'.on hD
  replace hrQ' := hrQ'.on hD
  replace hB := hB.trans (hD.mono hB.size)
  replace hT := hT.below hD
  clear hD
  go_wp2_with fail
  go_ret
  exact ⟨rfl, hB⟩
theorem clash_walk (pub m1 m2 : D4) (i k : Int) (p q p' q' : Option Addr) (c d c' d' : Nat) (S Q S' Q' : List D4) (w : World) (ho1 : m1.ok) (ho2 : m2.ok) (hSo : allD4 S) (hQo : allD4 Q) (hSo' : allD4 S') (hQo' : allD4 Q') (hc : S.length ≤ c) (hcm : c ≤ maxLen) (hd : Q.length ≤ d) (hdm : d ≤ maxLen) (hc' : S'.length ≤ c') (hcm' : c' ≤ maxLen) (hd' : Q'.length ≤ d') (hdm' : d' ≤ maxLen) (hrS : RdS w p S) (hrQ : RdS w q Q) (hrS' : RdS w p' S') (hrQ' : RdS w q' Q') (hT : TurnsOk w) :
    Calls Tryd.prog 8 #[.agg #[.int .u32 pub.d0, .int .u32 pub.d1, .int .u32 pub.d2, .int .u32 pub.d3, .int .u32 m1.d0, .int .u32 m1.d1, .int .u32 m1.d2, .int .u32 m1.d3, .int .u32 m2.d0, .int .u32 m2.d1, .int .u32 m2.d2, .int .u32 m2.d3, .int .i64 i, .slice p S.length c, .slice q Q.length d, .int .i64 k, .slice p' S'.length c', .slice q' Q'.length d']] w fun e w' => e = .returned (.bool true) ∧ Below w.heap.size w w' := by
  by_cases h : 40 < S.length ∨ 40 < S'.length ∨ 6 < Q.length ∨ i ≠ k ∨ Q.length ≠ Q'.length
  · exact clash_out pub m1 m2 p q p' q' i k S.length c Q.length d S'.length c' Q'.length d' h w hT
  · have hik : i = k := by omega
    have hm : Q'.length = Q.length := by omega
    subst hik
    rw [hm] at hd' ⊢
    have h1 : S.length ≤ 40 := by omega
    have h2 : S'.length ≤ 40 := by omega
    have h3 : Q.length ≤ 6 := by omega
    clear h
    cases e1 : check6 pub m1 i S Q
    · exact clash_no1 pub m1 m2 p q p' q' i S.length c Q.length d S'.length c' d' S Q S' Q' ho1 ho2 hSo hQo hSo' hQo' rfl rfl rfl hm.symm hc hcm hd hdm hc' hcm' hd' hdm' h1 h2 h3 e1 w hrS hrQ hrS' hrQ' hT
    · cases e2 : check6 pub m2 i S' Q'
      · exact clash_no2 pub m1 m2 p q p' q' i S.length c Q.length d S'.length c' d' S Q S' Q' ho1 ho2 hSo hQo hSo' hQo' rfl rfl rfl hm.symm hc hcm hd hdm hc' hcm' hd' hdm' h1 h2 h3 e1 e2 w hrS hrQ hrS' hrQ' hT
      · obtain ⟨n, rfl⟩ := Int.eq_ofNat_of_zero_le ((check6_iff _ _ _ _ _).mp e1).2.2.1
        cases e3 : sameD (reachV m1 S) (reachV m2 S')
        · exact clash_else pub m1 m2 p q p' q' n S.length c Q.length d S'.length c' d' S Q S' Q' ho1 ho2 hSo hQo hSo' hQo' rfl rfl rfl hm.symm hc hcm hd hdm hc' hcm' hd' hdm' h1 h2 h3 e1 e2 e3 w hrS hrQ hrS' hrQ' hT
        · exact clash_same pub m1 m2 p q p' q' n S.length c Q.length d S'.length c' d' S Q S' Q' ho1 ho2 hSo hQo hSo' hQo' rfl rfl rfl hm.symm hc hcm hd hdm hc' hcm' hd' hdm' h1 h2 h3 e1 e2 e3 w hrS hrQ hrS' hrQ' hT
end Go.Proofs.YtdphhpmkcalahaaDoor
