/-
  InstApart: the walk (written by gen_inL.py).
-/
import Derived.Test.YtojgngefgianpaaDoorInJ
namespace Go.Proofs.YtojgngefgianpaaDoor
open Go.RowKit

theorem eqI_val (o a b c o' a' b' c' : Int) (g : Bool) (h : (o == o' && (a == a' && (b == b' && c == c'))) = g) (w : World) : Sem.run Tryd.prog (Op.equalIn 10000 23 (.agg #[.int .i64 o, .int .i64 a, .int .i64 b, .int .i64 c]) (.agg #[.int .i64 o', .int .i64 a', .int .i64 b', .int .i64 c'])) w = Result.ok g w := by
  rw [eqI_run, h]
theorem enc_same {o a b c o' a' b' c' : Int} (h : rightI o a b c = true) (h' : rightI o' a' b' c' = true) : (encI o a b c == encI o' a' b' c') = (o == o' && (a == a' && (b == b' && c == c'))) := by
  rw [Bool.eq_iff_iff]
  simp only [beq_iff_eq, Bool.and_eq_true]
  constructor
  · intro e
    exact enc_inj h h' e
  · rintro ⟨rfl, rfl, rfl, rfl⟩; rfl
theorem text_same {o o' : Int} {a b c a' b' c' : Nat} (h : rightI o a b c = true) (h' : rightI o' a' b' c' = true) : ((txtB (partsB o) (nameB o) a b c (partsB o).size).toList == (txtB (partsB o') (nameB o') a' b' c' (partsB o').size).toList) = (o == o' && ((a : Int) == a' && ((b : Int) == b' && (c : Int) == c'))) := by
  rw [Bool.eq_iff_iff]
  simp only [beq_iff_eq, Bool.and_eq_true]
  constructor
  · intro e
    rw [ByteArray.toList_eq, ByteArray.toList_eq] at e
    obtain ⟨e1, e2, e3, e4⟩ := text_inj h h' (bytes_eq e)
    exact ⟨e1, by rw [e2], by rw [e3], by rw [e4]⟩
  · rintro ⟨rfl, e1, e2, e3⟩
    rw [Int.natCast_inj.1 e1, Int.natCast_inj.1 e2, Int.natCast_inj.1 e3]
theorem keepII {B b0 b1 : Nat} {W w' : World} {v0_0 v0_1 v0_2 v0_3 v1_0 v1_1 v1_2 v1_3 : Value} (h : Below B W w') (g0 : b0 < B) (g1 : b1 < B) (f : W.cell? ⟨b0, 0, none⟩ = some (v0_0) ∧ W.cell? ⟨b0, 1, none⟩ = some (v0_1) ∧ W.cell? ⟨b0, 2, none⟩ = some (v0_2) ∧ W.cell? ⟨b0, 3, none⟩ = some (v0_3) ∧ W.cell? ⟨b1, 0, none⟩ = some (v1_0) ∧ W.cell? ⟨b1, 1, none⟩ = some (v1_1) ∧ W.cell? ⟨b1, 2, none⟩ = some (v1_2) ∧ W.cell? ⟨b1, 3, none⟩ = some (v1_3)) : w'.cell? ⟨b0, 0, none⟩ = some (v0_0) ∧ w'.cell? ⟨b0, 1, none⟩ = some (v0_1) ∧ w'.cell? ⟨b0, 2, none⟩ = some (v0_2) ∧ w'.cell? ⟨b0, 3, none⟩ = some (v0_3) ∧ w'.cell? ⟨b1, 0, none⟩ = some (v1_0) ∧ w'.cell? ⟨b1, 1, none⟩ = some (v1_1) ∧ w'.cell? ⟨b1, 2, none⟩ = some (v1_2) ∧ w'.cell? ⟨b1, 3, none⟩ = some (v1_3) := by
  obtain ⟨f0, f1, f2, f3, f4, f5, f6, f7⟩ := f
  exact ⟨by rw [h.cell (p := ⟨_, _, none⟩) g0]; exact f0, by rw [h.cell (p := ⟨_, _, none⟩) g0]; exact f1, by rw [h.cell (p := ⟨_, _, none⟩) g0]; exact f2, by rw [h.cell (p := ⟨_, _, none⟩) g0]; exact f3, by rw [h.cell (p := ⟨_, _, none⟩) g1]; exact f4, by rw [h.cell (p := ⟨_, _, none⟩) g1]; exact f5, by rw [h.cell (p := ⟨_, _, none⟩) g1]; exact f6, by rw [h.cell (p := ⟨_, _, none⟩) g1]; exact f7⟩
set_option maxHeartbeats 8000000 in
set_option maxRecDepth 100000 in
theorem apart_no1 (o a b c o' a' b' c' : Int) (w : World) (hO : OpsOk w) (hT : PowOk w) (h : rightI o a b c = false) : Calls Tryd.prog 6 #[.agg #[.int .i64 o, .int .i64 a, .int .i64 b, .int .i64 c], .agg #[.int .i64 o', .int .i64 a', .int .i64 b', .int .i64 c']] w fun e w' => e = .returned (.bool true) ∧ Below w.heap.size w w' := by
  have H := Lib.hid h
  clear h
  obtain ⟨w1, hw1⟩ : ∃ w', w.alloc (.cells #[.int .i64 o, .int .i64 a, .int .i64 b, .int .i64 c] 23) = w' := ⟨_, rfl⟩
  have hI : Box 23 w.heap.size [.int .i64 o, .int .i64 a, .int .i64 b, .int .i64 c] w1 := by rw [← hw1]; exact Box.new 23 [.int .i64 o, .int .i64 a, .int .i64 b, .int .i64 c] w
  have hD : Below w.heap.size w w1 := by rw [← hw1]; exact (Below.refl _ _).alloc (Nat.le_refl _) _
  replace hO := hO.on hD
  replace hT := hT.on hD
  have hB := hD
  clear hD
  obtain ⟨w2, hw2⟩ : ∃ w', w1.alloc (.cells #[.int .i64 o', .int .i64 a', .int .i64 b', .int .i64 c'] 23) = w' := ⟨_, rfl⟩
  have hK : Box 23 w1.heap.size [.int .i64 o', .int .i64 a', .int .i64 b', .int .i64 c'] w2 := by rw [← hw2]; exact Box.new 23 [.int .i64 o', .int .i64 a', .int .i64 b', .int .i64 c'] w1
  have hD : Below w1.heap.size w1 w2 := by rw [← hw2]; exact (Below.refl _ _).alloc (Nat.le_refl _) _
  replace hI := hI.on hD
  replace hO := hO.on hD
  replace hT := hT.on hD
  replace hB := hB.trans (hD.mono hB.size)
  clear hD
  go_enter Tryd.func6, Tryd.ntmps6
  go_wp2_with fail
  clear hw1 hw2
  refine (alive_any w2 hO hT).mono ?_
  rintro e w3 ⟨rfl, hD⟩
  replace hI := hI.on hD
  replace hK := hK.on hD
  replace hO := hO.on hD
  replace hT := hT.on hD
  replace hB := hB.trans (hD.mono hB.size)
  clear hD
  have chI0 := hI.cell (j := 0) (v := .int .i64 o) rfl
  have chI1 := hI.cell (j := 1) (v := .int .i64 a) rfl
  have chI2 := hI.cell (j := 2) (v := .int .i64 b) rfl
  have chI3 := hI.cell (j := 3) (v := .int .i64 c) rfl
  go_wp2_with fail
  clear chI0 chI1 chI2 chI3
  refine (cright_val o a b c false w3 hO H.out).mono ?_
  rintro e w4 ⟨rfl, hD⟩
  replace hI := hI.on hD
  replace hK := hK.on hD
  replace hO := hO.on hD
  replace hT := hT.on hD
  replace hB := hB.trans (hD.mono hB.size)
  clear hD
  go_wp2_with fail
  go_ret
  exact ⟨rfl, hB⟩
set_option maxHeartbeats 8000000 in
set_option maxRecDepth 100000 in
theorem apart_no2 (o a b c o' a' b' c' : Int) (w : World) (hO : OpsOk w) (hT : PowOk w) (h : rightI o a b c = true) (h2 : rightI o' a' b' c' = false) : Calls Tryd.prog 6 #[.agg #[.int .i64 o, .int .i64 a, .int .i64 b, .int .i64 c], .agg #[.int .i64 o', .int .i64 a', .int .i64 b', .int .i64 c']] w fun e w' => e = .returned (.bool true) ∧ Below w.heap.size w w' := by
  have H := Lib.hid h
  have H2 := Lib.hid h2
  clear h h2
  obtain ⟨w1, hw1⟩ : ∃ w', w.alloc (.cells #[.int .i64 o, .int .i64 a, .int .i64 b, .int .i64 c] 23) = w' := ⟨_, rfl⟩
  have hI : Box 23 w.heap.size [.int .i64 o, .int .i64 a, .int .i64 b, .int .i64 c] w1 := by rw [← hw1]; exact Box.new 23 [.int .i64 o, .int .i64 a, .int .i64 b, .int .i64 c] w
  have hD : Below w.heap.size w w1 := by rw [← hw1]; exact (Below.refl _ _).alloc (Nat.le_refl _) _
  replace hO := hO.on hD
  replace hT := hT.on hD
  have hB := hD
  clear hD
  obtain ⟨w2, hw2⟩ : ∃ w', w1.alloc (.cells #[.int .i64 o', .int .i64 a', .int .i64 b', .int .i64 c'] 23) = w' := ⟨_, rfl⟩
  have hK : Box 23 w1.heap.size [.int .i64 o', .int .i64 a', .int .i64 b', .int .i64 c'] w2 := by rw [← hw2]; exact Box.new 23 [.int .i64 o', .int .i64 a', .int .i64 b', .int .i64 c'] w1
  have hD : Below w1.heap.size w1 w2 := by rw [← hw2]; exact (Below.refl _ _).alloc (Nat.le_refl _) _
  replace hI := hI.on hD
  replace hO := hO.on hD
  replace hT := hT.on hD
  replace hB := hB.trans (hD.mono hB.size)
  clear hD
  go_enter Tryd.func6, Tryd.ntmps6
  go_wp2_with fail
  clear hw1 hw2
  refine (alive_any w2 hO hT).mono ?_
  rintro e w3 ⟨rfl, hD⟩
  replace hI := hI.on hD
  replace hK := hK.on hD
  replace hO := hO.on hD
  replace hT := hT.on hD
  replace hB := hB.trans (hD.mono hB.size)
  clear hD
  have chI0 := hI.cell (j := 0) (v := .int .i64 o) rfl
  have chI1 := hI.cell (j := 1) (v := .int .i64 a) rfl
  have chI2 := hI.cell (j := 2) (v := .int .i64 b) rfl
  have chI3 := hI.cell (j := 3) (v := .int .i64 c) rfl
  go_wp2_with fail
  clear chI0 chI1 chI2 chI3
  refine (cright_val o a b c true w3 hO H.out).mono ?_
  rintro e w4 ⟨rfl, hD⟩
  replace hI := hI.on hD
  replace hK := hK.on hD
  replace hO := hO.on hD
  replace hT := hT.on hD
  replace hB := hB.trans (hD.mono hB.size)
  clear hD
  have chK0 := hK.cell (j := 0) (v := .int .i64 o') rfl
  have chK1 := hK.cell (j := 1) (v := .int .i64 a') rfl
  have chK2 := hK.cell (j := 2) (v := .int .i64 b') rfl
  have chK3 := hK.cell (j := 3) (v := .int .i64 c') rfl
  go_wp2_with fail
  clear chK0 chK1 chK2 chK3
  refine (cright_val o' a' b' c' false w4 hO H2.out).mono ?_
  rintro e w5 ⟨rfl, hD⟩
  replace hI := hI.on hD
  replace hK := hK.on hD
  replace hO := hO.on hD
  replace hT := hT.on hD
  replace hB := hB.trans (hD.mono hB.size)
  clear hD
  go_wp2_with fail
  go_ret
  exact ⟨rfl, hB⟩
set_option maxHeartbeats 8000000 in
set_option maxRecDepth 100000 in
theorem apart_yes (o o' : Int) (a b c a' b' c' : Nat) (w : World) (hO : OpsOk w) (hT : PowOk w) (h : rightI o a b c = true) (h2 : rightI o' a' b' c' = true) : Calls Tryd.prog 6 #[.agg #[.int .i64 o, .int .i64 (a : Int), .int .i64 (b : Int), .int .i64 (c : Int)], .agg #[.int .i64 o', .int .i64 (a' : Int), .int .i64 (b' : Int), .int .i64 (c' : Int)]] w fun e w' => e = .returned (.bool true) ∧ Below w.heap.size w w' := by
  have hvw := enc_same h h2
  have hft := text_same h h2
  obtain ⟨F, hF⟩ : ∃ F, txtB (partsB o) (nameB o) a b c (partsB o).size = F := ⟨_, rfl⟩
  obtain ⟨G, hG⟩ : ∃ F, txtB (partsB o') (nameB o') a' b' c' (partsB o').size = F := ⟨_, rfl⟩
  obtain ⟨x, hx⟩ : ∃ x, encI o a b c = x := ⟨_, rfl⟩
  obtain ⟨y, hy⟩ : ∃ x, encI o' a' b' c' = x := ⟨_, rfl⟩
  have hEq := eqI_val o a b c o' a' b' c' _ rfl
  rw [hx, hy] at hvw
  rw [hF, hG] at hft
  generalize (o == o' && ((a : Int) == a' && ((b : Int) == b' && (c : Int) == c'))) = g at hvw hft hEq
  have HF := Lib.hid hF
  have HG := Lib.hid hG
  have HX := Lib.hid hx
  have HY := Lib.hid hy
  have H := Lib.hid h
  have H2 := Lib.hid h2
  clear hF hG hx hy h h2
  obtain ⟨w1, hw1⟩ : ∃ w', w.alloc (.cells #[.int .i64 o, .int .i64 (a : Int), .int .i64 (b : Int), .int .i64 (c : Int)] 23) = w' := ⟨_, rfl⟩
  have hI : Box 23 w.heap.size [.int .i64 o, .int .i64 (a : Int), .int .i64 (b : Int), .int .i64 (c : Int)] w1 := by rw [← hw1]; exact Box.new 23 [.int .i64 o, .int .i64 (a : Int), .int .i64 (b : Int), .int .i64 (c : Int)] w
  have hD : Below w.heap.size w w1 := by rw [← hw1]; exact (Below.refl _ _).alloc (Nat.le_refl _) _
  replace hO := hO.on hD
  replace hT := hT.on hD
  have hB := hD
  clear hD
  obtain ⟨w2, hw2⟩ : ∃ w', w1.alloc (.cells #[.int .i64 o', .int .i64 (a' : Int), .int .i64 (b' : Int), .int .i64 (c' : Int)] 23) = w' := ⟨_, rfl⟩
  have hK : Box 23 w1.heap.size [.int .i64 o', .int .i64 (a' : Int), .int .i64 (b' : Int), .int .i64 (c' : Int)] w2 := by rw [← hw2]; exact Box.new 23 [.int .i64 o', .int .i64 (a' : Int), .int .i64 (b' : Int), .int .i64 (c' : Int)] w1
  have hD : Below w1.heap.size w1 w2 := by rw [← hw2]; exact (Below.refl _ _).alloc (Nat.le_refl _) _
  replace hI := hI.on hD
  replace hO := hO.on hD
  replace hT := hT.on hD
  replace hB := hB.trans (hD.mono hB.size)
  clear hD
  go_enter Tryd.func6, Tryd.ntmps6
  go_wp2_with fail
  clear hw1 hw2
  refine (alive_any w2 hO hT).mono ?_
  rintro e w3 ⟨rfl, hD⟩
  replace hI := hI.on hD
  replace hK := hK.on hD
  replace hO := hO.on hD
  replace hT := hT.on hD
  replace hB := hB.trans (hD.mono hB.size)
  clear hD
  have chI0 := hI.cell (j := 0) (v := .int .i64 o) rfl
  have chI1 := hI.cell (j := 1) (v := .int .i64 (a : Int)) rfl
  have chI2 := hI.cell (j := 2) (v := .int .i64 (b : Int)) rfl
  have chI3 := hI.cell (j := 3) (v := .int .i64 (c : Int)) rfl
  go_wp2_with fail
  clear chI0 chI1 chI2 chI3
  refine (cright_val o a b c true w3 hO H.out).mono ?_
  rintro e w4 ⟨rfl, hD⟩
  replace hI := hI.on hD
  replace hK := hK.on hD
  replace hO := hO.on hD
  replace hT := hT.on hD
  replace hB := hB.trans (hD.mono hB.size)
  clear hD
  have chK0 := hK.cell (j := 0) (v := .int .i64 o') rfl
  have chK1 := hK.cell (j := 1) (v := .int .i64 (a' : Int)) rfl
  have chK2 := hK.cell (j := 2) (v := .int .i64 (b' : Int)) rfl
  have chK3 := hK.cell (j := 3) (v := .int .i64 (c' : Int)) rfl
  go_wp2_with fail
  clear chK0 chK1 chK2 chK3
  refine (cright_val o' a' b' c' true w4 hO H2.out).mono ?_
  rintro e w5 ⟨rfl, hD⟩
  replace hI := hI.on hD
  replace hK := hK.on hD
  replace hO := hO.on hD
  replace hT := hT.on hD
  replace hB := hB.trans (hD.mono hB.size)
  clear hD
  have chI0 := hI.cell (j := 0) (v := .int .i64 o) rfl
  have chI1 := hI.cell (j := 1) (v := .int .i64 (a : Int)) rfl
  have chI2 := hI.cell (j := 2) (v := .int .i64 (b : Int)) rfl
  have chI3 := hI.cell (j := 3) (v := .int .i64 (c : Int)) rfl
  go_wp2_with fail
  clear chI0 chI1 chI2 chI3
  refine (cencode_val o a b c x w5 hO H.out HX.out).mono ?_
  rintro e w6 ⟨rfl, hD⟩
  replace hI := hI.on hD
  replace hK := hK.on hD
  replace hO := hO.on hD
  replace hT := hT.on hD
  replace hB := hB.trans (hD.mono hB.size)
  clear hD
  have chK0 := hK.cell (j := 0) (v := .int .i64 o') rfl
  have chK1 := hK.cell (j := 1) (v := .int .i64 (a' : Int)) rfl
  have chK2 := hK.cell (j := 2) (v := .int .i64 (b' : Int)) rfl
  have chK3 := hK.cell (j := 3) (v := .int .i64 (c' : Int)) rfl
  go_wp2_with fail
  clear chK0 chK1 chK2 chK3
  refine (cencode_val o' a' b' c' y w6 hO H2.out HY.out).mono ?_
  rintro e w7 ⟨rfl, hD⟩
  replace hI := hI.on hD
  replace hK := hK.on hD
  replace hO := hO.on hD
  replace hT := hT.on hD
  replace hB := hB.trans (hD.mono hB.size)
  clear hD
  have hOa : OpsOk w7.drew := hO
  have hTa : PowOk w7.drew := hT
  replace hI : Box 23 (w.heap.size) [.int .i64 o, .int .i64 (a : Int), .int .i64 (b : Int), .int .i64 (c : Int)] w7.drew := hI
  replace hK : Box 23 (w1.heap.size) [.int .i64 o', .int .i64 (a' : Int), .int .i64 (b' : Int), .int .i64 (c' : Int)] w7.drew := hK
  have HS0 : Hid (w7.drew.cell? ⟨w.heap.size, 0, none⟩ = some (.int .i64 o) ∧ w7.drew.cell? ⟨w.heap.size, 1, none⟩ = some (.int .i64 (a : Int)) ∧ w7.drew.cell? ⟨w.heap.size, 2, none⟩ = some (.int .i64 (b : Int)) ∧ w7.drew.cell? ⟨w.heap.size, 3, none⟩ = some (.int .i64 (c : Int)) ∧ w7.drew.cell? ⟨w1.heap.size, 0, none⟩ = some (.int .i64 o') ∧ w7.drew.cell? ⟨w1.heap.size, 1, none⟩ = some (.int .i64 (a' : Int)) ∧ w7.drew.cell? ⟨w1.heap.size, 2, none⟩ = some (.int .i64 (b' : Int)) ∧ w7.drew.cell? ⟨w1.heap.size, 3, none⟩ = some (.int .i64 (c' : Int))) := ⟨hI.cell rfl, hI.cell rfl, hI.cell rfl, hI.cell rfl, hK.cell rfl, hK.cell rfl, hK.cell rfl, hK.cell rfl⟩
  have g0 := hI.lt
  have g1 := hK.lt
  replace hB : Below w.heap.size w w7.drew := hB.drew
  have hCur : Below w7.drew.heap.size w7.drew w7.drew := Below.refl _ _
  have hszB := hB.size
  clear hI hK
  go_wp2_with fail
  go_region_held3 (fun w' => w'.cell? ⟨w.heap.size, 0, none⟩ = some (.int .i64 o) ∧ w'.cell? ⟨w.heap.size, 1, none⟩ = some (.int .i64 (a : Int)) ∧ w'.cell? ⟨w.heap.size, 2, none⟩ = some (.int .i64 (b : Int)) ∧ w'.cell? ⟨w.heap.size, 3, none⟩ = some (.int .i64 (c : Int)) ∧ w'.cell? ⟨w1.heap.size, 0, none⟩ = some (.int .i64 o') ∧ w'.cell? ⟨w1.heap.size, 1, none⟩ = some (.int .i64 (a' : Int)) ∧ w'.cell? ⟨w1.heap.size, 2, none⟩ = some (.int .i64 (b' : Int)) ∧ w'.cell? ⟨w1.heap.size, 3, none⟩ = some (.int .i64 (c' : Int)))
    (first
      | exact keepII hCur g0 g1 HS0.out)
    (first
      | (go_at_call 14; (with_reducible refine (ctext_val o a b c F _ (hOa.on hCur) (hTa.on hCur) H.out HF.out).mono ?_); rintro e wb ⟨rfl, hP⟩; have hCur : Below w7.drew.heap.size w7.drew wb := hCur.trans (hP.mono hCur.size))
      | (go_at_call 14; (with_reducible refine (ctext_val o' a' b' c' G _ (hOa.on hCur) (hTa.on hCur) H2.out HG.out).mono ?_); rintro e wb ⟨rfl, hP⟩; have hCur : Below w7.drew.heap.size w7.drew wb := hCur.trans (hP.mono hCur.size)))
  all_goals
    go_wp2_with fail
    go_ret
    exact ⟨rfl, hB.trans (hCur.mono hszB)⟩
theorem apart_walk (o a b c o' a' b' c' : Int) (w : World) (hO : OpsOk w) (hT : PowOk w) : Calls Tryd.prog 6 #[.agg #[.int .i64 o, .int .i64 a, .int .i64 b, .int .i64 c], .agg #[.int .i64 o', .int .i64 a', .int .i64 b', .int .i64 c']] w fun e w' => e = .returned (.bool true) ∧ Below w.heap.size w w' := by
  cases h : rightI o a b c
  · exact apart_no1 o a b c o' a' b' c' w hO hT h
  cases h2 : rightI o' a' b' c'
  · exact apart_no2 o a b c o' a' b' c' w hO hT h h2
  have hb := right_bd h
  have hb2 := right_bd h2
  obtain ⟨x, rfl⟩ : ∃ k : Nat, a = (k : Int) := ⟨a.toNat, by omega⟩
  obtain ⟨y, rfl⟩ : ∃ k : Nat, b = (k : Int) := ⟨b.toNat, by omega⟩
  obtain ⟨z, rfl⟩ : ∃ k : Nat, c = (k : Int) := ⟨c.toNat, by omega⟩
  obtain ⟨x', rfl⟩ : ∃ k : Nat, a' = (k : Int) := ⟨a'.toNat, by omega⟩
  obtain ⟨y', rfl⟩ : ∃ k : Nat, b' = (k : Int) := ⟨b'.toNat, by omega⟩
  obtain ⟨z', rfl⟩ : ∃ k : Nat, c' = (k : Int) := ⟨c'.toNat, by omega⟩
  exact apart_yes o o' x y z x' y' z' w hO hT h h2
end Go.Proofs.YtojgngefgianpaaDoor
