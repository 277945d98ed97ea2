/-
  The walk of OnetimeReaches (written by gen_laws5.py).
-/
import Derived.Test.YtkgkmpelclmllaaDoorOtLA
namespace Go.Proofs.YtkgkmpelclmllaaDoor
open Go.RowKit

theorem keepB4 {B b c d e : Nat} {W w' : World} {x y z u : D4} (h : Below B W w') (hb : b < B) (hc : c < B) (hd : d < B) (he : e < B) (q : W.cell? ⟨b, 0, none⟩ = some (.int .u32 x.d0) ∧ W.cell? ⟨b, 1, none⟩ = some (.int .u32 x.d1) ∧ W.cell? ⟨b, 2, none⟩ = some (.int .u32 x.d2) ∧ W.cell? ⟨b, 3, none⟩ = some (.int .u32 x.d3) ∧ W.cell? ⟨c, 0, none⟩ = some (.int .u32 y.d0) ∧ W.cell? ⟨c, 1, none⟩ = some (.int .u32 y.d1) ∧ W.cell? ⟨c, 2, none⟩ = some (.int .u32 y.d2) ∧ W.cell? ⟨c, 3, none⟩ = some (.int .u32 y.d3) ∧ W.cell? ⟨d, 0, none⟩ = some (.int .u32 z.d0) ∧ W.cell? ⟨d, 1, none⟩ = some (.int .u32 z.d1) ∧ W.cell? ⟨d, 2, none⟩ = some (.int .u32 z.d2) ∧ W.cell? ⟨d, 3, none⟩ = some (.int .u32 z.d3) ∧ W.cell? ⟨e, 0, none⟩ = some (.int .u32 u.d0) ∧ W.cell? ⟨e, 1, none⟩ = some (.int .u32 u.d1) ∧ W.cell? ⟨e, 2, none⟩ = some (.int .u32 u.d2) ∧ W.cell? ⟨e, 3, none⟩ = some (.int .u32 u.d3)) : w'.cell? ⟨b, 0, none⟩ = some (.int .u32 x.d0) ∧ w'.cell? ⟨b, 1, none⟩ = some (.int .u32 x.d1) ∧ w'.cell? ⟨b, 2, none⟩ = some (.int .u32 x.d2) ∧ w'.cell? ⟨b, 3, none⟩ = some (.int .u32 x.d3) ∧ w'.cell? ⟨c, 0, none⟩ = some (.int .u32 y.d0) ∧ w'.cell? ⟨c, 1, none⟩ = some (.int .u32 y.d1) ∧ w'.cell? ⟨c, 2, none⟩ = some (.int .u32 y.d2) ∧ w'.cell? ⟨c, 3, none⟩ = some (.int .u32 y.d3) ∧ w'.cell? ⟨d, 0, none⟩ = some (.int .u32 z.d0) ∧ w'.cell? ⟨d, 1, none⟩ = some (.int .u32 z.d1) ∧ w'.cell? ⟨d, 2, none⟩ = some (.int .u32 z.d2) ∧ w'.cell? ⟨d, 3, none⟩ = some (.int .u32 z.d3) ∧ w'.cell? ⟨e, 0, none⟩ = some (.int .u32 u.d0) ∧ w'.cell? ⟨e, 1, none⟩ = some (.int .u32 u.d1) ∧ w'.cell? ⟨e, 2, none⟩ = some (.int .u32 u.d2) ∧ w'.cell? ⟨e, 3, none⟩ = some (.int .u32 u.d3) := by
  obtain ⟨q0, q1, q2, q3, q4, q5, q6, q7, q8, q9, q10, q11, q12, q13, q14, q15⟩ := q
  exact ⟨by rw [h.cell (p := ⟨_, _, none⟩) hb]; exact q0, by rw [h.cell (p := ⟨_, _, none⟩) hb]; exact q1, by rw [h.cell (p := ⟨_, _, none⟩) hb]; exact q2, by rw [h.cell (p := ⟨_, _, none⟩) hb]; exact q3, by rw [h.cell (p := ⟨_, _, none⟩) hc]; exact q4, by rw [h.cell (p := ⟨_, _, none⟩) hc]; exact q5, by rw [h.cell (p := ⟨_, _, none⟩) hc]; exact q6, by rw [h.cell (p := ⟨_, _, none⟩) hc]; exact q7, by rw [h.cell (p := ⟨_, _, none⟩) hd]; exact q8, by rw [h.cell (p := ⟨_, _, none⟩) hd]; exact q9, by rw [h.cell (p := ⟨_, _, none⟩) hd]; exact q10, by rw [h.cell (p := ⟨_, _, none⟩) hd]; exact q11, by rw [h.cell (p := ⟨_, _, none⟩) he]; exact q12, by rw [h.cell (p := ⟨_, _, none⟩) he]; exact q13, by rw [h.cell (p := ⟨_, _, none⟩) he]; exact q14, by rw [h.cell (p := ⟨_, _, none⟩) he]; exact q15⟩
theorem check_reach (msg : D4) (S : List D4) : checkV (reachV msg S) msg S = is35 S := by
  rw [checkV, (sameD_iff _ _).mpr rfl, Bool.and_true]
set_option maxHeartbeats 1000000 in
set_option maxRecDepth 100000 in
theorem reaches_long (pub msg : D4) (p : Option Addr) (n c : Nat) (w : World) (hT : TurnsOk w) (h : 40 < n) : Calls Tryd.prog 6 #[.agg #[.int .u32 pub.d0, .int .u32 pub.d1, .int .u32 pub.d2, .int .u32 pub.d3], .agg #[.int .u32 msg.d0, .int .u32 msg.d1, .int .u32 msg.d2, .int .u32 msg.d3], .slice p n c] w fun e w' => e = .returned (.bool true) ∧ Below w.heap.size w w' := by
  have hd : decide (40 < (n : Int)) = true := by simp; omega
  obtain ⟨w0, hw0⟩ : ∃ w0, (w.alloc (.cells #[.int .u32 pub.d0, .int .u32 pub.d1, .int .u32 pub.d2, .int .u32 pub.d3] 24)).alloc (.cells #[.int .u32 msg.d0, .int .u32 msg.d1, .int .u32 msg.d2, .int .u32 msg.d3] 24) = w0 := ⟨_, rfl⟩
  obtain ⟨_, _, hB0⟩ := start47 pub msg w w0 hw0
  go_enter Tryd.func6, Tryd.ntmps6
  go_wp2_with fail
  clear hw0
  refine (awake5_any w0 (hT.below hB0)).mono ?_
  rintro e w1 ⟨rfl, hB⟩
  go_wp2_with fail
  go_ret
  exact ⟨rfl, hB0.trans (hB.mono hB0.size)⟩
set_option maxHeartbeats 8000000 in
set_option maxRecDepth 100000 in
theorem reaches_walk (pub msg : D4) (S : List D4) (p : Option Addr) (n c : Nat) (w : World) (_hpo : pub.ok) (hmo : msg.ok) (hSo : allD4 S) (hn : n = S.length) (hr : RdS w p S) (hc : S.length ≤ c) (hcm : c ≤ maxLen) (hT : TurnsOk w) (h : n ≤ 40) : Calls Tryd.prog 6 #[.agg #[.int .u32 pub.d0, .int .u32 pub.d1, .int .u32 pub.d2, .int .u32 pub.d3], .agg #[.int .u32 msg.d0, .int .u32 msg.d1, .int .u32 msg.d2, .int .u32 msg.d3], .slice p n c] w fun e w' => e = .returned (.bool true) ∧ Below w.heap.size w w' := by
  have hd : decide (40 < (n : Int)) = false := by simp; omega
  obtain ⟨v, hv⟩ : ∃ v, reachV msg S = v := ⟨_, rfl⟩
  obtain ⟨g, hg⟩ : ∃ g, is35 S = g := ⟨_, rfl⟩
  obtain ⟨q, hq⟩ : ∃ q, checkV pub msg S = q := ⟨_, rfl⟩
  have hk : checkV v msg S = g := by rw [← hv, ← hg]; exact check_reach msg S
  have HV := Lib.hid hv
  have HG := Lib.hid hg
  have HQ := Lib.hid hq
  have HK := Lib.hid hk
  have HN := Lib.hid hn
  have HSo := Lib.hid hSo
  have HC := Lib.hid hc
  have hE := eqD_yes v
  clear hv hg hq hk hn hSo hc
  obtain ⟨w0, hw0⟩ : ∃ w0, (w.alloc (.cells #[.int .u32 pub.d0, .int .u32 pub.d1, .int .u32 pub.d2, .int .u32 pub.d3] 24)).alloc (.cells #[.int .u32 msg.d0, .int .u32 msg.d1, .int .u32 msg.d2, .int .u32 msg.d3] 24) = w0 := ⟨_, rfl⟩
  obtain ⟨hA0, hM0, hB0⟩ := start47 pub msg w w0 hw0
  have hT0 := hT.below hB0
  have hr0 := hr.on hB0
  obtain ⟨m0, m1, m2, m3⟩ := Arr.c4 hM0
  clear hT hr
  go_enter Tryd.func6, Tryd.ntmps6
  go_wp2_with fail
  clear hw0
  refine (creach_any msg v S g p n c w0 hmo HSo.out HN.out hr0 HC.out hcm hT0 HV.out HG.out).mono ?_
  rintro e w1 ⟨rfl, hD⟩
  obtain ⟨w2, hw2⟩ : ∃ w2, w1.alloc (.cells #[.int .u32 v.d0, .int .u32 v.d1, .int .u32 v.d2, .int .u32 v.d3] 24) = w2 := ⟨_, rfl⟩
  have hX2 : Arr .u32 24 w1.heap.size v.toL w2 := by rw [← hw2]; exact heap_alloc_new w1 _
  have hD2 : Below w1.heap.size w1 w2 := by rw [← hw2]; exact (Below.refl _ _).alloc (Nat.le_refl _) _
  have hD02 := hD.trans (hD2.mono hD.size)
  have hA2 := hA0.on hD02
  have hM2 := hM0.on hD02
  have hr2 := hr0.on hD02
  have hB2 := hB0.trans (hD02.mono hB0.size)
  have hT2 := hT0.below hD02
  clear hA0 hM0 hr0 hB0 hT0 m0 m1 m2 m3 hD hD2 hD02
  obtain ⟨m0, m1, m2, m3⟩ := Arr.c4 hM2
  go_wp2_with fail
  clear hw2
  refine (rreach_any msg v S g p n c w2 hmo HSo.out HN.out hr2 HC.out hcm HV.out HG.out).mono ?_
  rintro e w3 ⟨rfl, hD⟩
  obtain ⟨w4, hw4⟩ : ∃ w4, w3.alloc (.cells #[.int .u32 v.d0, .int .u32 v.d1, .int .u32 v.d2, .int .u32 v.d3] 24) = w4 := ⟨_, rfl⟩
  have hY4 : Arr .u32 24 w3.heap.size v.toL w4 := by rw [← hw4]; exact heap_alloc_new w3 _
  have hD2 : Below w3.heap.size w3 w4 := by rw [← hw4]; exact (Below.refl _ _).alloc (Nat.le_refl _) _
  have hD02 := hD.trans (hD2.mono hD.size)
  have hA4 := hA2.on hD02
  have hM4 := hM2.on hD02
  have hX4 := hX2.on hD02
  have hr4 : RdS w4.drew p S := hr2.on hD02.drew
  have hB4 := hB2.trans (hD02.mono hB2.size)
  have hTd : TurnsOk w4.drew := hT2.below hD02.drew
  clear hA2 hM2 hX2 hr2 hB2 hT2 m0 m1 m2 m3 hD hD2 hD02
  have hb1 : w.heap.size < w4.drew.heap.size := hA4.lt
  have hb2 : w.heap.size + 1 < w4.drew.heap.size := hM4.lt
  have hb3 : w1.heap.size < w4.drew.heap.size := hX4.lt
  have hb4 : w3.heap.size < w4.drew.heap.size := hY4.lt
  have hp4 := Arr.c4 (show Arr .u32 24 w.heap.size pub.toL w4.drew from hA4)
  have hm4 := Arr.c4 (show Arr .u32 24 (w.heap.size + 1) msg.toL w4.drew from hM4)
  have hx4 := Arr.c4 (show Arr .u32 24 w1.heap.size v.toL w4.drew from hX4)
  have hy4 := Arr.c4 (show Arr .u32 24 w3.heap.size v.toL w4.drew from hY4)
  have HS0 : Hid (w4.drew.cell? ⟨w.heap.size, 0, none⟩ = some (.int .u32 pub.d0) ∧ w4.drew.cell? ⟨w.heap.size, 1, none⟩ = some (.int .u32 pub.d1) ∧ w4.drew.cell? ⟨w.heap.size, 2, none⟩ = some (.int .u32 pub.d2) ∧ w4.drew.cell? ⟨w.heap.size, 3, none⟩ = some (.int .u32 pub.d3) ∧ w4.drew.cell? ⟨w.heap.size + 1, 0, none⟩ = some (.int .u32 msg.d0) ∧ w4.drew.cell? ⟨w.heap.size + 1, 1, none⟩ = some (.int .u32 msg.d1) ∧ w4.drew.cell? ⟨w.heap.size + 1, 2, none⟩ = some (.int .u32 msg.d2) ∧ w4.drew.cell? ⟨w.heap.size + 1, 3, none⟩ = some (.int .u32 msg.d3) ∧ w4.drew.cell? ⟨w1.heap.size, 0, none⟩ = some (.int .u32 v.d0) ∧ w4.drew.cell? ⟨w1.heap.size, 1, none⟩ = some (.int .u32 v.d1) ∧ w4.drew.cell? ⟨w1.heap.size, 2, none⟩ = some (.int .u32 v.d2) ∧ w4.drew.cell? ⟨w1.heap.size, 3, none⟩ = some (.int .u32 v.d3) ∧ w4.drew.cell? ⟨w3.heap.size, 0, none⟩ = some (.int .u32 v.d0) ∧ w4.drew.cell? ⟨w3.heap.size, 1, none⟩ = some (.int .u32 v.d1) ∧ w4.drew.cell? ⟨w3.heap.size, 2, none⟩ = some (.int .u32 v.d2) ∧ w4.drew.cell? ⟨w3.heap.size, 3, none⟩ = some (.int .u32 v.d3)) := ⟨hp4.1, hp4.2.1, hp4.2.2.1, hp4.2.2.2, hm4.1, hm4.2.1, hm4.2.2.1, hm4.2.2.2, hx4.1, hx4.2.1, hx4.2.2.1, hx4.2.2.2, hy4.1, hy4.2.1, hy4.2.2.1, hy4.2.2.2⟩
  have hCur : Below w4.drew.heap.size w4.drew w4.drew := Below.refl _ _
  clear hA4 hM4 hX4 hY4 hp4 hm4 hx4 hy4
  go_wp2_with fail
  clear hw4
  go_region_held3 (fun w' => w'.cell? ⟨w.heap.size, 0, none⟩ = some (.int .u32 pub.d0) ∧ w'.cell? ⟨w.heap.size, 1, none⟩ = some (.int .u32 pub.d1) ∧ w'.cell? ⟨w.heap.size, 2, none⟩ = some (.int .u32 pub.d2) ∧ w'.cell? ⟨w.heap.size, 3, none⟩ = some (.int .u32 pub.d3) ∧ w'.cell? ⟨w.heap.size + 1, 0, none⟩ = some (.int .u32 msg.d0) ∧ w'.cell? ⟨w.heap.size + 1, 1, none⟩ = some (.int .u32 msg.d1) ∧ w'.cell? ⟨w.heap.size + 1, 2, none⟩ = some (.int .u32 msg.d2) ∧ w'.cell? ⟨w.heap.size + 1, 3, none⟩ = some (.int .u32 msg.d3) ∧ w'.cell? ⟨w1.heap.size, 0, none⟩ = some (.int .u32 v.d0) ∧ w'.cell? ⟨w1.heap.size, 1, none⟩ = some (.int .u32 v.d1) ∧ w'.cell? ⟨w1.heap.size, 2, none⟩ = some (.int .u32 v.d2) ∧ w'.cell? ⟨w1.heap.size, 3, none⟩ = some (.int .u32 v.d3) ∧ w'.cell? ⟨w3.heap.size, 0, none⟩ = some (.int .u32 v.d0) ∧ w'.cell? ⟨w3.heap.size, 1, none⟩ = some (.int .u32 v.d1) ∧ w'.cell? ⟨w3.heap.size, 2, none⟩ = some (.int .u32 v.d2) ∧ w'.cell? ⟨w3.heap.size, 3, none⟩ = some (.int .u32 v.d3))
    (first | exact keepB4 hCur hb1 hb2 hb3 hb4 HS0.out)
    (first
      | (go_at_call 10; (with_reducible refine (awake5_any _ hTd).mono ?_); rintro e wa ⟨rfl, hP⟩; have hCur : Below w4.drew.heap.size w4.drew wa := hCur.trans (hP.mono hCur.size); have hrr := hr4.on hCur)
      | (go_at_call 20; (with_reducible refine (ccheck_any pub msg S q p n c _ hmo HSo.out HN.out hrr HC.out hcm (hTd.below hCur) HQ.out).mono ?_); rintro e wb ⟨rfl, hP⟩; have hCur : Below w4.drew.heap.size w4.drew wb := hCur.trans (hP.mono hCur.size); have hrr := hr4.on hCur)
      | (go_at_call 22; (with_reducible refine (rcheck_any pub msg S q p n c _ hmo HSo.out HN.out hrr HC.out hcm HQ.out).mono ?_); rintro e wc ⟨rfl, hP⟩; have hCur : Below w4.drew.heap.size w4.drew wc := hCur.trans (hP.mono hCur.size); have hrr := hr4.on hCur)
      | (go_at_call 20; (with_reducible refine (ccheck_any v msg S g p n c _ hmo HSo.out HN.out hrr HC.out hcm (hTd.below hCur) HK.out).mono ?_); rintro e wd ⟨rfl, hP⟩; have hCur : Below w4.drew.heap.size w4.drew wd := hCur.trans (hP.mono hCur.size); have hrr := hr4.on hCur))
  all_goals
    go_wp2_with fail
    go_ret
    exact ⟨rfl, hB4.drew.trans (hCur.mono hB4.size)⟩

end Go.Proofs.YtkgkmpelclmllaaDoor
