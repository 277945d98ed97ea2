/-
  InstCodes and InstReads: the walks (written by gen_inJ.py).
-/
import Derived.Test.YtojgngefgianpaaDoorInI
import Derived.Test.YtojgngefgianpaaDoorRefText
import Derived.Deep.RegionHeld3
namespace Go.Proofs.YtojgngefgianpaaDoor
open Go.RowKit

theorem hin : Tryd.prog.underlying 23 = some (.struct (Tryd.prog.fieldsOf 23)) := by kernel_rfl
theorem hinp : Tryd.prog.stoodInHeld 23 = false := by kernel_rfl
theorem eqI_run (o a b c o' a' b' c' : Int) (w : World) : Sem.run Tryd.prog (Op.equalIn 10000 23 (.agg #[.int .i64 o, .int .i64 a, .int .i64 b, .int .i64 c]) (.agg #[.int .i64 o', .int .i64 a', .int .i64 b', .int .i64 c'])) w = Result.ok (o == o' && (a == a' && (b == b' && c == c'))) w := by
  rw [run_equalIn_struct w 9999 23 _ _ hin hinp]
  cases h1 : (o == o') <;> cases h2 : (a == a') <;> cases h3 : (b == b') <;> cases h4 : (c == c') <;> simp [Op.eqFields, go_sem, part, h1, h2, h3, h4]
theorem eqI_yes (o a b c : Int) (w : World) : Sem.run Tryd.prog (Op.equalIn 10000 23 (.agg #[.int .i64 o, .int .i64 a, .int .i64 b, .int .i64 c]) (.agg #[.int .i64 o, .int .i64 a, .int .i64 b, .int .i64 c])) w = Result.ok true w := by
  rw [eqI_run]; simp
theorem refText_b (u : Nat) (w : World) (hu : u < 4294967296) : Calls Tryd.prog 37 #[.int .u32 (u : Int)] w fun e w' => e = .returned (.string (decB u)) ∧ Below w.heap.size w w' := refText_any u hu w
theorem ctext_val (o : Int) (a b c : Nat) (F : ByteArray) (w : World) (hO : OpsOk w) (hT : PowOk w) (h : rightI o a b c = true) (hF : txtB (partsB o) (nameB o) a b c (partsB o).size = F) : Calls Tryd.prog 14 #[.agg #[.int .i64 o, .int .i64 (a : Int), .int .i64 (b : Int), .int .i64 (c : Int)]] w fun e w' => e = .returned (.string F) ∧ Below w.heap.size w w' := by
  subst hF; exact ctext_yes o a b c w hO hT h
theorem rtext_val (o : Int) (a b c : Nat) (F : ByteArray) (w : World) (h : rightI o a b c = true) (hF : txtB (partsB o) (nameB o) a b c (partsB o).size = F) : Calls Tryd.prog 15 #[.agg #[.int .i64 o, .int .i64 (a : Int), .int .i64 (b : Int), .int .i64 (c : Int)]] w fun e w' => e = .returned (.string F) ∧ Below w.heap.size w w' := by
  subst hF
  have h' := right_bd h
  exact rtext7_yes o a b c w (by omega) (by omega) (by omega) h (fun u w hu => refText_b u w hu)
theorem enc_fields {o a b c : Int} (h : rightI o a b c = true) : encI o a b c / 16777216 = o ∧ encI o a b c / 1048576 % 16 = a ∧ encI o a b c / 65536 % 16 = b ∧ encI o a b c % 65536 = c := by
  have := right_bd h
  unfold encI
  omega
theorem cdecode_enc (o a b c x : Int) (w : World) (hO : OpsOk w) (h : rightI o a b c = true) (hx : encI o a b c = x) : Calls Tryd.prog 16 #[.int .u32 x] w fun e w' => e = .returned (.tuple #[.agg #[.int .i64 o, .int .i64 a, .int .i64 b, .int .i64 c], .int .i64 0]) ∧ Below w.heap.size w w' := by
  obtain ⟨e1, e2, e3, e4⟩ := enc_fields h
  have hb := enc_bd h
  have hd := cdecode_yes (encI o a b c) w hO hb.1 hb.2 (by rw [e1, e2, e3, e4]; exact h)
  rw [e1, e2, e3, e4, hx] at hd
  exact hd
theorem cencode_val (o a b c x : Int) (w : World) (hO : OpsOk w) (h : rightI o a b c = true) (hx : encI o a b c = x) : Calls Tryd.prog 10 #[.agg #[.int .i64 o, .int .i64 a, .int .i64 b, .int .i64 c]] w fun e w' => e = .returned (.tuple #[.int .u32 x, .int .i64 0]) ∧ Below w.heap.size w w' := by
  subst hx; exact cencode_yes o a b c w hO h
theorem rencode_val (o a b c x : Int) (w : World) (h : rightI o a b c = true) (hx : encI o a b c = x) : Calls Tryd.prog 11 #[.agg #[.int .i64 o, .int .i64 a, .int .i64 b, .int .i64 c]] w fun e w' => e = .returned (.tuple #[.int .u32 x, .int .i64 0]) ∧ Below w.heap.size w w' := by
  subst hx; exact rencode_yes o a b c w h
theorem keepI {B b0 : Nat} {W w' : World} {v0_0 v0_1 v0_2 v0_3 : Value} (h : Below B W w') (g0 : b0 < B) (f : W.cell? ⟨b0, 0, none⟩ = some (v0_0) ∧ W.cell? ⟨b0, 1, none⟩ = some (v0_1) ∧ W.cell? ⟨b0, 2, none⟩ = some (v0_2) ∧ W.cell? ⟨b0, 3, none⟩ = some (v0_3)) : w'.cell? ⟨b0, 0, none⟩ = some (v0_0) ∧ w'.cell? ⟨b0, 1, none⟩ = some (v0_1) ∧ w'.cell? ⟨b0, 2, none⟩ = some (v0_2) ∧ w'.cell? ⟨b0, 3, none⟩ = some (v0_3) := by
  obtain ⟨f0, f1, f2, f3⟩ := f
  exact ⟨by rw [h.cell (p := ⟨_, _, none⟩) g0]; exact f0, by rw [h.cell (p := ⟨_, _, none⟩) g0]; exact f1, by rw [h.cell (p := ⟨_, _, none⟩) g0]; exact f2, by rw [h.cell (p := ⟨_, _, none⟩) g0]; exact f3⟩
set_option maxHeartbeats 8000000 in
set_option maxRecDepth 100000 in
theorem codes_no (o a b c : Int) (w : World) (hO : OpsOk w) (hT : PowOk w) (h : rightI o a b c = false) : Calls Tryd.prog 3 #[.agg #[.int .i64 o, .int .i64 a, .int .i64 b, .int .i64 c]] w fun e w' => e = .returned (.bool true) ∧ Below w.heap.size w w' := by
  have H := Lib.hid h
  clear h
  obtain ⟨w1, hw1⟩ : ∃ w', w.alloc (.cells #[.int .i64 o, .int .i64 a, .int .i64 b, .int .i64 c] 23) = w' := ⟨_, rfl⟩
  have hI : Box 23 w.heap.size [.int .i64 o, .int .i64 a, .int .i64 b, .int .i64 c] w1 := by rw [← hw1]; exact Box.new 23 [.int .i64 o, .int .i64 a, .int .i64 b, .int .i64 c] w
  have hD : Below w.heap.size w w1 := by rw [← hw1]; exact (Below.refl _ _).alloc (Nat.le_refl _) _
  replace hO := hO.on hD
  replace hT := hT.on hD
  have hB := hD
  clear hD
  go_enter Tryd.func3, Tryd.ntmps3
  go_wp2_with fail
  clear hw1
  refine (alive_any w1 hO hT).mono ?_
  rintro e w2 ⟨rfl, hD⟩
  replace hI := hI.on hD
  replace hO := hO.on hD
  replace hT := hT.on hD
  replace hB := hB.trans (hD.mono hB.size)
  clear hD
  have chI0 := hI.cell (j := 0) (v := .int .i64 o) rfl
  have chI1 := hI.cell (j := 1) (v := .int .i64 a) rfl
  have chI2 := hI.cell (j := 2) (v := .int .i64 b) rfl
  have chI3 := hI.cell (j := 3) (v := .int .i64 c) rfl
  go_wp2_with fail
  clear chI0 chI1 chI2 chI3
  refine (cencode_no o a b c w2 hO H.out).mono ?_
  rintro e w3 ⟨rfl, hD⟩
  replace hI := hI.on hD
  replace hO := hO.on hD
  replace hT := hT.on hD
  replace hB := hB.trans (hD.mono hB.size)
  clear hD
  have chI0 := hI.cell (j := 0) (v := .int .i64 o) rfl
  have chI1 := hI.cell (j := 1) (v := .int .i64 a) rfl
  have chI2 := hI.cell (j := 2) (v := .int .i64 b) rfl
  have chI3 := hI.cell (j := 3) (v := .int .i64 c) rfl
  go_wp2_with fail
  clear chI0 chI1 chI2 chI3
  refine (rencode_no o a b c w3 H.out).mono ?_
  rintro e w4 ⟨rfl, hD⟩
  replace hI := hI.on hD
  replace hO := hO.on hD
  replace hT := hT.on hD
  replace hB := hB.trans (hD.mono hB.size)
  clear hD
  have hOa : OpsOk w4.drew := hO
  have hTa : PowOk w4.drew := hT
  have hIk : Box 23 w.heap.size [.int .i64 o, .int .i64 a, .int .i64 b, .int .i64 c] w4.drew := hI
  replace hI : Box 23 (w.heap.size) [.int .i64 o, .int .i64 a, .int .i64 b, .int .i64 c] w4.drew := hI
  have HS0 : Hid (w4.drew.cell? ⟨w.heap.size, 0, none⟩ = some (.int .i64 o) ∧ w4.drew.cell? ⟨w.heap.size, 1, none⟩ = some (.int .i64 a) ∧ w4.drew.cell? ⟨w.heap.size, 2, none⟩ = some (.int .i64 b) ∧ w4.drew.cell? ⟨w.heap.size, 3, none⟩ = some (.int .i64 c)) := ⟨hI.cell rfl, hI.cell rfl, hI.cell rfl, hI.cell rfl⟩
  have g0 := hI.lt
  replace hB : Below w.heap.size w w4.drew := hB.drew
  have hCur : Below w4.drew.heap.size w4.drew w4.drew := Below.refl _ _
  have hszB := hB.size
  clear hI
  go_wp2_with fail
  go_region_held3 (fun w' => w'.cell? ⟨w.heap.size, 0, none⟩ = some (.int .i64 o) ∧ w'.cell? ⟨w.heap.size, 1, none⟩ = some (.int .i64 a) ∧ w'.cell? ⟨w.heap.size, 2, none⟩ = some (.int .i64 b) ∧ w'.cell? ⟨w.heap.size, 3, none⟩ = some (.int .i64 c))
    (first
      | exact keepI hCur g0 HS0.out)
    (first
      | (go_at_call 12; (with_reducible refine (cright_val o a b c false _ (hOa.on hCur) H.out).mono ?_); rintro e wb ⟨rfl, hP⟩; have hCur : Below w4.drew.heap.size w4.drew wb := hCur.trans (hP.mono hCur.size))
      | (go_at_call 13; (with_reducible refine (rright_val o a b c false _ H.out).mono ?_); rintro e wb ⟨rfl, hP⟩; have hCur : Below w4.drew.heap.size w4.drew wb := hCur.trans (hP.mono hCur.size))
      | (go_at_call 14; (with_reducible refine (ctext_no o a b c _ (hOa.on hCur) H.out).mono ?_); rintro e wb ⟨rfl, hP⟩; have hCur : Below w4.drew.heap.size w4.drew wb := hCur.trans (hP.mono hCur.size))
      | (go_at_call 15; (with_reducible refine (rtext7_no o a b c _ H.out).mono ?_); rintro e wb ⟨rfl, hP⟩; have hCur : Below w4.drew.heap.size w4.drew wb := hCur.trans (hP.mono hCur.size)))
  have hI := hIk.on hCur
  replace hO := hOa.on hCur
  replace hT := hTa.on hCur
  replace hB := hB.trans (hCur.mono hszB)
  clear hCur hOa hTa HS0 hIk
  go_wp2_with fail
  refine (calive_d wb hO).mono ?_
  rintro e w5 ⟨rfl, hD⟩
  replace hI := hI.on hD
  replace hO := hO.on hD
  replace hT := hT.on hD
  replace hB := hB.trans (hD.mono hB.size)
  clear hD
  obtain ⟨w6, hw6⟩ : ∃ w', w5.alloc (.cells #[.int .i64 0, .int .i64 0, .int .i64 0, .int .i64 0] 23) = w' := ⟨_, rfl⟩
  have hK : Box 23 w5.heap.size [.int .i64 0, .int .i64 0, .int .i64 0, .int .i64 0] w6 := by rw [← hw6]; exact Box.new 23 [.int .i64 0, .int .i64 0, .int .i64 0, .int .i64 0] w5
  have hD : Below w5.heap.size w5 w6 := by rw [← hw6]; exact (Below.refl _ _).alloc (Nat.le_refl _) _
  have zhK0 := hK.cell (j := 0) (v := .int .i64 0) rfl
  have yhK0 := hK.fz 0
  have zhK1 := hK.cell (j := 1) (v := .int .i64 0) rfl
  have yhK1 := hK.fz 1
  have zhK2 := hK.cell (j := 2) (v := .int .i64 0) rfl
  have yhK2 := hK.fz 2
  have zhK3 := hK.cell (j := 3) (v := .int .i64 0) rfl
  have yhK3 := hK.fz 3
  obtain ⟨w7, hw7⟩ : ∃ w', ((((w6.setCell ⟨w5.heap.size, 0, none⟩ (.int .i64 0)).setCell ⟨w5.heap.size, 1, none⟩ (.int .i64 0)).setCell ⟨w5.heap.size, 2, none⟩ (.int .i64 0)).setCell ⟨w5.heap.size, 3, none⟩ (.int .i64 0)) = w' := ⟨_, rfl⟩
  replace hK : Box 23 w5.heap.size [.int .i64 0, .int .i64 0, .int .i64 0, .int .i64 0] w7 := by rw [← hw7]; exact ((((hK.set 0 (.int .i64 0)).set 1 (.int .i64 0)).set 2 (.int .i64 0)).set 3 (.int .i64 0))
  replace hD : Below w5.heap.size w5 w7 := by rw [← hw7]; exact ((((hD.setCell (p := ⟨w5.heap.size, 0, none⟩) (Nat.le_refl _) (.int .i64 0)).setCell (p := ⟨w5.heap.size, 1, none⟩) (Nat.le_refl _) (.int .i64 0)).setCell (p := ⟨w5.heap.size, 2, none⟩) (Nat.le_refl _) (.int .i64 0)).setCell (p := ⟨w5.heap.size, 3, none⟩) (Nat.le_refl _) (.int .i64 0))
  replace hI := hI.on hD
  replace hO := hO.on hD
  replace hT := hT.on hD
  replace hB := hB.trans (hD.mono hB.size)
  clear hD
  have chI0 := hI.cell (j := 0) (v := .int .i64 o) rfl
  have chI1 := hI.cell (j := 1) (v := .int .i64 a) rfl
  have chI2 := hI.cell (j := 2) (v := .int .i64 b) rfl
  have chI3 := hI.cell (j := 3) (v := .int .i64 c) rfl
  have chK0 := hK.cell (j := 0) (v := .int .i64 0) rfl
  have chK1 := hK.cell (j := 1) (v := .int .i64 0) rfl
  have chK2 := hK.cell (j := 2) (v := .int .i64 0) rfl
  have chK3 := hK.cell (j := 3) (v := .int .i64 0) rfl
  go_wp2_with fail
  clear hw6 zhK0 yhK0 zhK1 yhK1 zhK2 yhK2 zhK3 yhK3 hw7 chI0 chI1 chI2 chI3 chK0 chK1 chK2 chK3
  go_ret
  exact ⟨rfl, hB⟩
set_option maxHeartbeats 8000000 in
set_option maxRecDepth 100000 in
theorem codes_yes (o : Int) (a b c : Nat) (w : World) (hO : OpsOk w) (hT : PowOk w) (h : rightI o a b c = true) : Calls Tryd.prog 3 #[.agg #[.int .i64 o, .int .i64 (a : Int), .int .i64 (b : Int), .int .i64 (c : Int)]] w fun e w' => e = .returned (.bool true) ∧ Below w.heap.size w w' := by
  have H := Lib.hid h
  obtain ⟨F, hF⟩ : ∃ F, txtB (partsB o) (nameB o) a b c (partsB o).size = F := ⟨_, rfl⟩
  obtain ⟨x, hx⟩ : ∃ x, encI o a b c = x := ⟨_, rfl⟩
  have HF := Lib.hid hF
  have HX := Lib.hid hx
  clear hF hx
  clear h
  obtain ⟨w1, hw1⟩ : ∃ w', w.alloc (.cells #[.int .i64 o, .int .i64 (a : Int), .int .i64 (b : Int), .int .i64 (c : Int)] 23) = w' := ⟨_, rfl⟩
  have hI : Box 23 w.heap.size [.int .i64 o, .int .i64 (a : Int), .int .i64 (b : Int), .int .i64 (c : Int)] w1 := by rw [← hw1]; exact Box.new 23 [.int .i64 o, .int .i64 (a : Int), .int .i64 (b : Int), .int .i64 (c : Int)] w
  have hD : Below w.heap.size w w1 := by rw [← hw1]; exact (Below.refl _ _).alloc (Nat.le_refl _) _
  replace hO := hO.on hD
  replace hT := hT.on hD
  have hB := hD
  clear hD
  go_enter Tryd.func3, Tryd.ntmps3
  go_wp2_with fail
  clear hw1
  refine (alive_any w1 hO hT).mono ?_
  rintro e w2 ⟨rfl, hD⟩
  replace hI := hI.on hD
  replace hO := hO.on hD
  replace hT := hT.on hD
  replace hB := hB.trans (hD.mono hB.size)
  clear hD
  have chI0 := hI.cell (j := 0) (v := .int .i64 o) rfl
  have chI1 := hI.cell (j := 1) (v := .int .i64 (a : Int)) rfl
  have chI2 := hI.cell (j := 2) (v := .int .i64 (b : Int)) rfl
  have chI3 := hI.cell (j := 3) (v := .int .i64 (c : Int)) rfl
  go_wp2_with fail
  clear chI0 chI1 chI2 chI3
  refine (cencode_val o a b c x w2 hO H.out HX.out).mono ?_
  rintro e w3 ⟨rfl, hD⟩
  replace hI := hI.on hD
  replace hO := hO.on hD
  replace hT := hT.on hD
  replace hB := hB.trans (hD.mono hB.size)
  clear hD
  have chI0 := hI.cell (j := 0) (v := .int .i64 o) rfl
  have chI1 := hI.cell (j := 1) (v := .int .i64 (a : Int)) rfl
  have chI2 := hI.cell (j := 2) (v := .int .i64 (b : Int)) rfl
  have chI3 := hI.cell (j := 3) (v := .int .i64 (c : Int)) rfl
  go_wp2_with fail
  clear chI0 chI1 chI2 chI3
  refine (rencode_val o a b c x w3 H.out HX.out).mono ?_
  rintro e w4 ⟨rfl, hD⟩
  replace hI := hI.on hD
  replace hO := hO.on hD
  replace hT := hT.on hD
  replace hB := hB.trans (hD.mono hB.size)
  clear hD
  have hOa : OpsOk w4.drew := hO
  have hTa : PowOk w4.drew := hT
  have hIk : Box 23 w.heap.size [.int .i64 o, .int .i64 (a : Int), .int .i64 (b : Int), .int .i64 (c : Int)] w4.drew := hI
  replace hI : Box 23 (w.heap.size) [.int .i64 o, .int .i64 (a : Int), .int .i64 (b : Int), .int .i64 (c : Int)] w4.drew := hI
  have HS0 : Hid (w4.drew.cell? ⟨w.heap.size, 0, none⟩ = some (.int .i64 o) ∧ w4.drew.cell? ⟨w.heap.size, 1, none⟩ = some (.int .i64 (a : Int)) ∧ w4.drew.cell? ⟨w.heap.size, 2, none⟩ = some (.int .i64 (b : Int)) ∧ w4.drew.cell? ⟨w.heap.size, 3, none⟩ = some (.int .i64 (c : Int))) := ⟨hI.cell rfl, hI.cell rfl, hI.cell rfl, hI.cell rfl⟩
  have g0 := hI.lt
  replace hB : Below w.heap.size w w4.drew := hB.drew
  have hCur : Below w4.drew.heap.size w4.drew w4.drew := Below.refl _ _
  have hszB := hB.size
  clear hI
  go_wp2_with fail
  go_region_held3 (fun w' => w'.cell? ⟨w.heap.size, 0, none⟩ = some (.int .i64 o) ∧ w'.cell? ⟨w.heap.size, 1, none⟩ = some (.int .i64 (a : Int)) ∧ w'.cell? ⟨w.heap.size, 2, none⟩ = some (.int .i64 (b : Int)) ∧ w'.cell? ⟨w.heap.size, 3, none⟩ = some (.int .i64 (c : Int)))
    (first
      | exact keepI hCur g0 HS0.out)
    (first
      | (go_at_call 12; (with_reducible refine (cright_val o a b c true _ (hOa.on hCur) H.out).mono ?_); rintro e wb ⟨rfl, hP⟩; have hCur : Below w4.drew.heap.size w4.drew wb := hCur.trans (hP.mono hCur.size))
      | (go_at_call 13; (with_reducible refine (rright_val o a b c true _ H.out).mono ?_); rintro e wb ⟨rfl, hP⟩; have hCur : Below w4.drew.heap.size w4.drew wb := hCur.trans (hP.mono hCur.size))
      | (go_at_call 14; (with_reducible refine (ctext_val o a b c F _ (hOa.on hCur) (hTa.on hCur) H.out HF.out).mono ?_); rintro e wb ⟨rfl, hP⟩; have hCur : Below w4.drew.heap.size w4.drew wb := hCur.trans (hP.mono hCur.size))
      | (go_at_call 15; (with_reducible refine (rtext_val o a b c F _ H.out HF.out).mono ?_); rintro e wb ⟨rfl, hP⟩; have hCur : Below w4.drew.heap.size w4.drew wb := hCur.trans (hP.mono hCur.size)))
  have hI := hIk.on hCur
  replace hO := hOa.on hCur
  replace hT := hTa.on hCur
  replace hB := hB.trans (hCur.mono hszB)
  clear hCur hOa hTa HS0 hIk
  go_wp2_with fail
  refine (cdecode_enc o a b c x wb hO H.out HX.out).mono ?_
  rintro e w5 ⟨rfl, hD⟩
  replace hI := hI.on hD
  replace hO := hO.on hD
  replace hT := hT.on hD
  replace hB := hB.trans (hD.mono hB.size)
  clear hD
  obtain ⟨w6, hw6⟩ : ∃ w', w5.alloc (.cells #[.int .i64 o, .int .i64 (a : Int), .int .i64 (b : Int), .int .i64 (c : Int)] 23) = w' := ⟨_, rfl⟩
  have hK : Box 23 w5.heap.size [.int .i64 o, .int .i64 (a : Int), .int .i64 (b : Int), .int .i64 (c : Int)] w6 := by rw [← hw6]; exact Box.new 23 [.int .i64 o, .int .i64 (a : Int), .int .i64 (b : Int), .int .i64 (c : Int)] w5
  have hD : Below w5.heap.size w5 w6 := by rw [← hw6]; exact (Below.refl _ _).alloc (Nat.le_refl _) _
  replace hI := hI.on hD
  replace hO := hO.on hD
  replace hT := hT.on hD
  replace hB := hB.trans (hD.mono hB.size)
  clear hD
  have hEq := fun W => eqI_yes o (a : Int) (b : Int) (c : Int) W
  have chI0 := hI.cell (j := 0) (v := .int .i64 o) rfl
  have chI1 := hI.cell (j := 1) (v := .int .i64 (a : Int)) rfl
  have chI2 := hI.cell (j := 2) (v := .int .i64 (b : Int)) rfl
  have chI3 := hI.cell (j := 3) (v := .int .i64 (c : Int)) rfl
  have chK0 := hK.cell (j := 0) (v := .int .i64 o) rfl
  have chK1 := hK.cell (j := 1) (v := .int .i64 (a : Int)) rfl
  have chK2 := hK.cell (j := 2) (v := .int .i64 (b : Int)) rfl
  have chK3 := hK.cell (j := 3) (v := .int .i64 (c : Int)) rfl
  go_wp2_with fail
  clear hw6 chI0 chI1 chI2 chI3 chK0 chK1 chK2 chK3
  go_ret
  exact ⟨rfl, hB⟩
theorem codes_walk (o a b c : Int) (w : World) (hO : OpsOk w) (hT : PowOk w) : Calls Tryd.prog 3 #[.agg #[.int .i64 o, .int .i64 a, .int .i64 b, .int .i64 c]] w fun e w' => e = .returned (.bool true) ∧ Below w.heap.size w w' := by
  cases h : rightI o a b c
  · exact codes_no o a b c w hO hT h
  · have hb := right_bd h
    obtain ⟨x, rfl⟩ : ∃ k : Nat, a = (k : Int) := ⟨a.toNat, by omega⟩
    obtain ⟨y, rfl⟩ : ∃ k : Nat, b = (k : Int) := ⟨b.toNat, by omega⟩
    obtain ⟨z, rfl⟩ : ∃ k : Nat, c = (k : Int) := ⟨c.toNat, by omega⟩
    exact codes_yes o x y z w hO hT h
theorem enc_read (x : Int) (_h0 : 0 ≤ x) (_h1 : x < 4294967296) : encI (x / 16777216) (x / 1048576 % 16) (x / 65536 % 16) (x % 65536) = x := by
  unfold encI; omega
set_option maxHeartbeats 8000000 in
set_option maxRecDepth 100000 in
theorem reads_no (x : Int) (w : World) (hO : OpsOk w) (hT : PowOk w) (hx0 : 0 ≤ x) (hx1 : x < 4294967296) (h : rightI (x / 16777216) (x / 1048576 % 16) (x / 65536 % 16) (x % 65536) = false) : Calls Tryd.prog 4 #[.int .u32 x] w fun e w' => e = .returned (.bool true) ∧ Below w.heap.size w w' := by
  have H := Lib.hid h
  clear h
  go_enter Tryd.func4, Tryd.ntmps4
  go_wp2_with fail
  refine (alive_any w hO hT).mono ?_
  rintro e w1 ⟨rfl, hD⟩
  replace hO := hO.on hD
  replace hT := hT.on hD
  have hB := hD
  clear hD
  go_wp2_with fail
  refine (cdecode_no x w1 hO hx0 hx1 H.out).mono ?_
  rintro e w2 ⟨rfl, hD⟩
  replace hO := hO.on hD
  replace hT := hT.on hD
  replace hB := hB.trans (hD.mono hB.size)
  clear hD
  obtain ⟨w3, hw3⟩ : ∃ w', w2.alloc (.cells #[.int .i64 0, .int .i64 0, .int .i64 0, .int .i64 0] 23) = w' := ⟨_, rfl⟩
  have hI : Box 23 w2.heap.size [.int .i64 0, .int .i64 0, .int .i64 0, .int .i64 0] w3 := by rw [← hw3]; exact Box.new 23 [.int .i64 0, .int .i64 0, .int .i64 0, .int .i64 0] w2
  have hD : Below w2.heap.size w2 w3 := by rw [← hw3]; exact (Below.refl _ _).alloc (Nat.le_refl _) _
  have zhI0 := hI.cell (j := 0) (v := .int .i64 0) rfl
  have yhI0 := hI.fz 0
  have zhI1 := hI.cell (j := 1) (v := .int .i64 0) rfl
  have yhI1 := hI.fz 1
  have zhI2 := hI.cell (j := 2) (v := .int .i64 0) rfl
  have yhI2 := hI.fz 2
  have zhI3 := hI.cell (j := 3) (v := .int .i64 0) rfl
  have yhI3 := hI.fz 3
  obtain ⟨w4, hw4⟩ : ∃ w', ((((w3.setCell ⟨w2.heap.size, 0, none⟩ (.int .i64 0)).setCell ⟨w2.heap.size, 1, none⟩ (.int .i64 0)).setCell ⟨w2.heap.size, 2, none⟩ (.int .i64 0)).setCell ⟨w2.heap.size, 3, none⟩ (.int .i64 0)) = w' := ⟨_, rfl⟩
  replace hI : Box 23 w2.heap.size [.int .i64 0, .int .i64 0, .int .i64 0, .int .i64 0] w4 := by rw [← hw4]; exact ((((hI.set 0 (.int .i64 0)).set 1 (.int .i64 0)).set 2 (.int .i64 0)).set 3 (.int .i64 0))
  replace hD : Below w2.heap.size w2 w4 := by rw [← hw4]; exact ((((hD.setCell (p := ⟨w2.heap.size, 0, none⟩) (Nat.le_refl _) (.int .i64 0)).setCell (p := ⟨w2.heap.size, 1, none⟩) (Nat.le_refl _) (.int .i64 0)).setCell (p := ⟨w2.heap.size, 2, none⟩) (Nat.le_refl _) (.int .i64 0)).setCell (p := ⟨w2.heap.size, 3, none⟩) (Nat.le_refl _) (.int .i64 0))
  replace hO := hO.on hD
  replace hT := hT.on hD
  replace hB := hB.trans (hD.mono hB.size)
  clear hD
  go_wp2_with fail
  clear hw3 zhI0 yhI0 zhI1 yhI1 zhI2 yhI2 zhI3 yhI3 hw4
  refine (rdecode_no x w4 hx0 hx1 H.out).mono ?_
  rintro e w5 ⟨rfl, hD⟩
  replace hI := hI.on hD
  replace hO := hO.on hD
  replace hT := hT.on hD
  replace hB := hB.trans (hD.mono hB.size)
  clear hD
  obtain ⟨w6, hw6⟩ : ∃ w', w5.alloc (.cells #[.int .i64 0, .int .i64 0, .int .i64 0, .int .i64 0] 23) = w' := ⟨_, rfl⟩
  have hK : Box 23 w5.heap.size [.int .i64 0, .int .i64 0, .int .i64 0, .int .i64 0] w6 := by rw [← hw6]; exact Box.new 23 [.int .i64 0, .int .i64 0, .int .i64 0, .int .i64 0] w5
  have hD : Below w5.heap.size w5 w6 := by rw [← hw6]; exact (Below.refl _ _).alloc (Nat.le_refl _) _
  have zhK0 := hK.cell (j := 0) (v := .int .i64 0) rfl
  have yhK0 := hK.fz 0
  have zhK1 := hK.cell (j := 1) (v := .int .i64 0) rfl
  have yhK1 := hK.fz 1
  have zhK2 := hK.cell (j := 2) (v := .int .i64 0) rfl
  have yhK2 := hK.fz 2
  have zhK3 := hK.cell (j := 3) (v := .int .i64 0) rfl
  have yhK3 := hK.fz 3
  obtain ⟨w7, hw7⟩ : ∃ w', ((((w6.setCell ⟨w5.heap.size, 0, none⟩ (.int .i64 0)).setCell ⟨w5.heap.size, 1, none⟩ (.int .i64 0)).setCell ⟨w5.heap.size, 2, none⟩ (.int .i64 0)).setCell ⟨w5.heap.size, 3, none⟩ (.int .i64 0)) = w' := ⟨_, rfl⟩
  replace hK : Box 23 w5.heap.size [.int .i64 0, .int .i64 0, .int .i64 0, .int .i64 0] w7 := by rw [← hw7]; exact ((((hK.set 0 (.int .i64 0)).set 1 (.int .i64 0)).set 2 (.int .i64 0)).set 3 (.int .i64 0))
  replace hD : Below w5.heap.size w5 w7 := by rw [← hw7]; exact ((((hD.setCell (p := ⟨w5.heap.size, 0, none⟩) (Nat.le_refl _) (.int .i64 0)).setCell (p := ⟨w5.heap.size, 1, none⟩) (Nat.le_refl _) (.int .i64 0)).setCell (p := ⟨w5.heap.size, 2, none⟩) (Nat.le_refl _) (.int .i64 0)).setCell (p := ⟨w5.heap.size, 3, none⟩) (Nat.le_refl _) (.int .i64 0))
  replace hI := hI.on hD
  replace hO := hO.on hD
  replace hT := hT.on hD
  replace hB := hB.trans (hD.mono hB.size)
  clear hD
  have hEq := fun W => eqI_yes 0 0 0 0 W
  have chI0 := hI.cell (j := 0) (v := .int .i64 0) rfl
  have chI1 := hI.cell (j := 1) (v := .int .i64 0) rfl
  have chI2 := hI.cell (j := 2) (v := .int .i64 0) rfl
  have chI3 := hI.cell (j := 3) (v := .int .i64 0) rfl
  have chK0 := hK.cell (j := 0) (v := .int .i64 0) rfl
  have chK1 := hK.cell (j := 1) (v := .int .i64 0) rfl
  have chK2 := hK.cell (j := 2) (v := .int .i64 0) rfl
  have chK3 := hK.cell (j := 3) (v := .int .i64 0) rfl
  go_wp2_with fail
  clear hw6 zhK0 yhK0 zhK1 yhK1 zhK2 yhK2 zhK3 yhK3 hw7 chI0 chI1 chI2 chI3 chK0 chK1 chK2 chK3
  refine (cencode_no 0 0 0 0 w7 hO right_zero).mono ?_
  rintro e w8 ⟨rfl, hD⟩
  replace hI := hI.on hD
  replace hK := hK.on hD
  replace hO := hO.on hD
  replace hT := hT.on hD
  replace hB := hB.trans (hD.mono hB.size)
  clear hD
  have chI0 := hI.cell (j := 0) (v := .int .i64 0) rfl
  have chI1 := hI.cell (j := 1) (v := .int .i64 0) rfl
  have chI2 := hI.cell (j := 2) (v := .int .i64 0) rfl
  have chI3 := hI.cell (j := 3) (v := .int .i64 0) rfl
  go_wp2_with fail
  clear chI0 chI1 chI2 chI3
  go_ret
  exact ⟨rfl, hB⟩
set_option maxHeartbeats 8000000 in
set_option maxRecDepth 100000 in
theorem reads_yes (x : Int) (w : World) (hO : OpsOk w) (hT : PowOk w) (hx0 : 0 ≤ x) (hx1 : x < 4294967296) (h : rightI (x / 16777216) (x / 1048576 % 16) (x / 65536 % 16) (x % 65536) = true) : Calls Tryd.prog 4 #[.int .u32 x] w fun e w' => e = .returned (.bool true) ∧ Below w.heap.size w w' := by
  have H := Lib.hid h
  clear h
  have hv := enc_read x hx0 hx1
  have HV := Lib.hid hv
  clear hv
  go_enter Tryd.func4, Tryd.ntmps4
  go_wp2_with fail
  refine (alive_any w hO hT).mono ?_
  rintro e w1 ⟨rfl, hD⟩
  replace hO := hO.on hD
  replace hT := hT.on hD
  have hB := hD
  clear hD
  go_wp2_with fail
  refine (cdecode_yes x w1 hO hx0 hx1 H.out).mono ?_
  rintro e w2 ⟨rfl, hD⟩
  replace hO := hO.on hD
  replace hT := hT.on hD
  replace hB := hB.trans (hD.mono hB.size)
  clear hD
  have hdr := fun (W : World) => rdecode_yes x W hx0 hx1 H.out
  have henc := fun (W : World) (h : OpsOk W) => cencode_val (x / 16777216) (x / 1048576 % 16) (x / 65536 % 16) (x % 65536) x W h H.out HV.out
  have hrt := fun (W : World) (h : OpsOk W) => cright_val (x / 16777216) (x / 1048576 % 16) (x / 65536 % 16) (x % 65536) true W h H.out
  have HDR := Lib.hid hdr
  have HEN := Lib.hid henc
  have HRT := Lib.hid hrt
  clear hdr henc hrt
  obtain ⟨w3, hw3⟩ : ∃ w', w2.alloc (.cells #[.int .i64 (x / 16777216), .int .i64 (x / 1048576 % 16), .int .i64 (x / 65536 % 16), .int .i64 (x % 65536)] 23) = w' := ⟨_, rfl⟩
  have hI : Box 23 w2.heap.size [.int .i64 (x / 16777216), .int .i64 (x / 1048576 % 16), .int .i64 (x / 65536 % 16), .int .i64 (x % 65536)] w3 := by rw [← hw3]; exact Box.new 23 [.int .i64 (x / 16777216), .int .i64 (x / 1048576 % 16), .int .i64 (x / 65536 % 16), .int .i64 (x % 65536)] w2
  have hD : Below w2.heap.size w2 w3 := by rw [← hw3]; exact (Below.refl _ _).alloc (Nat.le_refl _) _
  replace hO := hO.on hD
  replace hT := hT.on hD
  replace hB := hB.trans (hD.mono hB.size)
  clear hD
  go_wp2_with fail
  clear hw3
  refine (HDR.out w3).mono ?_
  rintro e w4 ⟨rfl, hD⟩
  replace hI := hI.on hD
  replace hO := hO.on hD
  replace hT := hT.on hD
  replace hB := hB.trans (hD.mono hB.size)
  clear hD
  obtain ⟨w5, hw5⟩ : ∃ w', w4.alloc (.cells #[.int .i64 (x / 16777216), .int .i64 (x / 1048576 % 16), .int .i64 (x / 65536 % 16), .int .i64 (x % 65536)] 23) = w' := ⟨_, rfl⟩
  have hK : Box 23 w4.heap.size [.int .i64 (x / 16777216), .int .i64 (x / 1048576 % 16), .int .i64 (x / 65536 % 16), .int .i64 (x % 65536)] w5 := by rw [← hw5]; exact Box.new 23 [.int .i64 (x / 16777216), .int .i64 (x / 1048576 % 16), .int .i64 (x / 65536 % 16), .int .i64 (x % 65536)] w4
  have hD : Below w4.heap.size w4 w5 := by rw [← hw5]; exact (Below.refl _ _).alloc (Nat.le_refl _) _
  replace hI := hI.on hD
  replace hO := hO.on hD
  replace hT := hT.on hD
  replace hB := hB.trans (hD.mono hB.size)
  clear hD
  have hEq := fun W => eqI_yes (x / 16777216) (x / 1048576 % 16) (x / 65536 % 16) (x % 65536) W
  have chI0 := hI.cell (j := 0) (v := .int .i64 (x / 16777216)) rfl
  have chI1 := hI.cell (j := 1) (v := .int .i64 (x / 1048576 % 16)) rfl
  have chI2 := hI.cell (j := 2) (v := .int .i64 (x / 65536 % 16)) rfl
  have chI3 := hI.cell (j := 3) (v := .int .i64 (x % 65536)) rfl
  have chK0 := hK.cell (j := 0) (v := .int .i64 (x / 16777216)) rfl
  have chK1 := hK.cell (j := 1) (v := .int .i64 (x / 1048576 % 16)) rfl
  have chK2 := hK.cell (j := 2) (v := .int .i64 (x / 65536 % 16)) rfl
  have chK3 := hK.cell (j := 3) (v := .int .i64 (x % 65536)) rfl
  go_wp2_with fail
  clear hw5 chI0 chI1 chI2 chI3 chK0 chK1 chK2 chK3
  refine (HEN.out w5 hO).mono ?_
  rintro e w6 ⟨rfl, hD⟩
  replace hI := hI.on hD
  replace hK := hK.on hD
  replace hO := hO.on hD
  replace hT := hT.on hD
  replace hB := hB.trans (hD.mono hB.size)
  clear hD
  have chI0 := hI.cell (j := 0) (v := .int .i64 (x / 16777216)) rfl
  have chI1 := hI.cell (j := 1) (v := .int .i64 (x / 1048576 % 16)) rfl
  have chI2 := hI.cell (j := 2) (v := .int .i64 (x / 65536 % 16)) rfl
  have chI3 := hI.cell (j := 3) (v := .int .i64 (x % 65536)) rfl
  go_wp2_with fail
  clear chI0 chI1 chI2 chI3
  refine (HRT.out w6 hO).mono ?_
  rintro e w7 ⟨rfl, hD⟩
  replace hI := hI.on hD
  replace hK := hK.on hD
  replace hO := hO.on hD
  replace hT := hT.on hD
  replace hB := hB.trans (hD.mono hB.size)
  clear hD
  go_wp2_with fail
  go_ret
  exact ⟨rfl, hB⟩
theorem reads_walk (x : Int) (w : World) (hx0 : 0 ≤ x) (hx1 : x < 4294967296) (hO : OpsOk w) (hT : PowOk w) : Calls Tryd.prog 4 #[.int .u32 x] w fun e w' => e = .returned (.bool true) ∧ Below w.heap.size w w' := by
  cases h : rightI (x / 16777216) (x / 1048576 % 16) (x / 65536 % 16) (x % 65536)
  · exact reads_no x w hO hT hx0 hx1 h
  · exact reads_yes x w hO hT hx0 hx1 h
end Go.Proofs.YtojgngefgianpaaDoor
