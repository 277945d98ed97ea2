/-
  The code's Check and New of layer 6 (written by gen_ccheck6.py).
-/
import Derived.Test.YtdphhpmkcalahaaDoorKyK
import Derived.Test.YtdphhpmkcalahaaDoorKyD
namespace Go.Proofs.YtdphhpmkcalahaaDoor
open Go.RowKit

theorem keepK3 {B b1 b2 b3 : Nat} {W w' : World} {x y : D4} {i : Int} {p q : Option Addr} {n c m d : Nat} (h : Below B W w') (g1 : b1 < B) (g2 : b2 < B) (g3 : b3 < B) (f : W.cell? ⟨b1, 0, none⟩ = some (.int .u32 x.d0) ∧ W.cell? ⟨b1, 1, none⟩ = some (.int .u32 x.d1) ∧ W.cell? ⟨b1, 2, none⟩ = some (.int .u32 x.d2) ∧ W.cell? ⟨b1, 3, none⟩ = some (.int .u32 x.d3) ∧ W.cell? ⟨b2, 0, none⟩ = some (.int .u32 y.d0) ∧ W.cell? ⟨b2, 1, none⟩ = some (.int .u32 y.d1) ∧ W.cell? ⟨b2, 2, none⟩ = some (.int .u32 y.d2) ∧ W.cell? ⟨b2, 3, none⟩ = some (.int .u32 y.d3) ∧ W.cell? ⟨b3, 0, none⟩ = some (.int .i64 i) ∧ W.cell? ⟨b3, 1, none⟩ = some (.slice p n c) ∧ W.cell? ⟨b3, 2, none⟩ = some (.slice q m d)) : w'.cell? ⟨b1, 0, none⟩ = some (.int .u32 x.d0) ∧ w'.cell? ⟨b1, 1, none⟩ = some (.int .u32 x.d1) ∧ w'.cell? ⟨b1, 2, none⟩ = some (.int .u32 x.d2) ∧ w'.cell? ⟨b1, 3, none⟩ = some (.int .u32 x.d3) ∧ w'.cell? ⟨b2, 0, none⟩ = some (.int .u32 y.d0) ∧ w'.cell? ⟨b2, 1, none⟩ = some (.int .u32 y.d1) ∧ w'.cell? ⟨b2, 2, none⟩ = some (.int .u32 y.d2) ∧ w'.cell? ⟨b2, 3, none⟩ = some (.int .u32 y.d3) ∧ w'.cell? ⟨b3, 0, none⟩ = some (.int .i64 i) ∧ w'.cell? ⟨b3, 1, none⟩ = some (.slice p n c) ∧ w'.cell? ⟨b3, 2, none⟩ = some (.slice q m d) := by
  obtain ⟨f0, f1, f2, f3, f4, f5, f6, f7, f8, f9, f10⟩ := f
  exact ⟨by rw [h.cell (p := ⟨_, _, none⟩) g1]; exact f0, by rw [h.cell (p := ⟨_, _, none⟩) g1]; exact f1, by rw [h.cell (p := ⟨_, _, none⟩) g1]; exact f2, by rw [h.cell (p := ⟨_, _, none⟩) g1]; exact f3, by rw [h.cell (p := ⟨_, _, none⟩) g2]; exact f4, by rw [h.cell (p := ⟨_, _, none⟩) g2]; exact f5, by rw [h.cell (p := ⟨_, _, none⟩) g2]; exact f6, by rw [h.cell (p := ⟨_, _, none⟩) g2]; exact f7, by rw [h.cell (p := ⟨_, _, none⟩) g3]; exact f8, by rw [h.cell (p := ⟨_, _, none⟩) g3]; exact f9, by rw [h.cell (p := ⟨_, _, none⟩) g3]; exact f10⟩
theorem ccheck_nm (root leaf : D4) (k n i : Int) (q : List D4) (bl : Bool) (a : Option Addr) (L cap : Nat) (w : World) (hL : L = q.length) (hlo : leaf.ok) (hq : allD4 q) (hr : RdS w a q) (hc : L ≤ cap) (hm : cap ≤ maxLen) (hT : TurnsOk w) (hk : k = n) (hb : checkD root n i leaf q = bl) :
    Calls Tryd.prog 37 #[.agg #[.int .u32 root.d0, .int .u32 root.d1, .int .u32 root.d2, .int .u32 root.d3], .int .i64 k, .int .i64 i, .agg #[.int .u32 leaf.d0, .int .u32 leaf.d1, .int .u32 leaf.d2, .int .u32 leaf.d3], .slice a L cap] w fun e w' => e = .returned (.bool bl) ∧ Below w.heap.size w w' := by
  subst hL; subst hb; subst hk
  exact ccheck_any root leaf k i q a cap w hlo hq hr hc hm hT
theorem shl_pow (m N : Nat) (h : 2 ^ m = N) (hN : N ≤ 1000000) : wrap64 ((2 : Int) ^ m) = (N : Int) := by
  rw [show ((2 : Int) ^ m) = (N : Int) by rw [← h]; simp]
  exact IntWalk.wrap64_in _ (by omega)
set_option maxHeartbeats 4000000 in
set_option maxRecDepth 100000 in
theorem ccheck6_long (pub msg : D4) (i : Int) (p q : Option Addr) (n c m d : Nat) (w : World) (h : 4 < m) :
    Calls Tryd.prog 17 #[.agg #[.int .u32 pub.d0, .int .u32 pub.d1, .int .u32 pub.d2, .int .u32 pub.d3], .agg #[.int .u32 msg.d0, .int .u32 msg.d1, .int .u32 msg.d2, .int .u32 msg.d3], .agg #[.int .i64 i, .slice p n c, .slice q m d]] w fun e w' => e = .returned (.bool false) ∧ Below w.heap.size w w' := by
  have HALL := Lib.hid (show (decide (0 ≤ (m : Int)) && decide ((m : Int) ≤ 4)) = false by
    rw [Bool.and_eq_false_iff]; right; exact decide_eq_false (by omega))
  obtain ⟨w0, hw0⟩ : ∃ w0, ((w.alloc (.cells #[.int .u32 pub.d0, .int .u32 pub.d1, .int .u32 pub.d2, .int .u32 pub.d3] 24)).alloc (.cells #[.int .u32 msg.d0, .int .u32 msg.d1, .int .u32 msg.d2, .int .u32 msg.d3] 24)).alloc (.cells #[.int .i64 i, .slice p n c, .slice q m d] 38) = w0 := ⟨_, rfl⟩
  obtain ⟨hA0, hM0, hX0, hB0⟩ := start47s pub msg i p q n c m d w w0 hw0
  obtain ⟨b0, b1, b2⟩ := hX0.c3
  go_enter Tryd.func17, Tryd.ntmps17
  go_wp2_with fail
  refine (ishigh_any m w0).mono ?_
  rintro e w1 ⟨rfl, rfl⟩
  rw [HALL.out]
  go_wp2_with fail
  go_ret
  exact ⟨rfl, hB0⟩
set_option maxHeartbeats 4000000 in
set_option maxRecDepth 100000 in
theorem ccheck6_any (pub msg : D4) (i : Int) (S Q : List D4) (bl : Bool) (p q : Option Addr) (n c m d : Nat) (w : World) (hmo : msg.ok) (hSo : allD4 S) (hQo : allD4 Q) (hn : n = S.length) (hm : m = Q.length) (hrS : RdS w p S) (hrQ : RdS w q Q) (hc : S.length ≤ c) (hcm : c ≤ maxLen) (hd : m ≤ d) (hdm : d ≤ maxLen) (hT : TurnsOk w) (hb : check6 pub msg i S Q = bl) :
    Calls Tryd.prog 17 #[.agg #[.int .u32 pub.d0, .int .u32 pub.d1, .int .u32 pub.d2, .int .u32 pub.d3], .agg #[.int .u32 msg.d0, .int .u32 msg.d1, .int .u32 msg.d2, .int .u32 msg.d3], .agg #[.int .i64 i, .slice p n c, .slice q m d]] w fun e w' => e = .returned (.bool bl) ∧ Below w.heap.size w w' := by
  rcases Nat.lt_or_ge 4 m with h | h
  · have : bl = false := by rw [← hb, check6, decide_eq_false (by omega)]; rfl
    subst this
    exact ccheck6_long pub msg i p q n c m d w h
  · have h4 : Q.length ≤ 4 := by omega
    obtain ⟨v, hv⟩ : ∃ v, reachV msg S = v := ⟨_, rfl⟩
    obtain ⟨g, hg⟩ : ∃ g, is35 S = g := ⟨_, rfl⟩
    obtain ⟨N, hN⟩ : ∃ N, 2 ^ m = N := ⟨_, rfl⟩
    obtain ⟨r, hr⟩ : ∃ r, checkD pub (N : Int) i v Q = r := ⟨_, rfl⟩
    have hN16 : N ≤ 16 := by rw [← hN]; exact pow_le16 (Nat.le_refl _) h
    have hbl : (g && r) = bl := by
      rw [← hb, check6, decide_eq_true h4, hg, hv, ← hm, hN, hr]; rfl
    have hvo : v.ok := by rw [← hv]; exact reachV_ok6 msg hSo
    have HSH := Lib.hid (show IntKind.i64.wrap ((2 : Int) ^ m) = (N : Int) by rw [IntWalk.i64_left]; exact shl_pow m N hN (by omega))
    have HV := Lib.hid hv
    have HG := Lib.hid hg
    have HR := Lib.hid hr
    have HBL := Lib.hid hbl
    have HVO := Lib.hid hvo
    have HN := Lib.hid hn
    have HM := Lib.hid hm
    have HSo := Lib.hid hSo
    have HQo := Lib.hid hQo
    have HC := Lib.hid hc
    have HT := Lib.hid hT
    have HALL := Lib.hid (show (decide (0 ≤ (m : Int)) && decide ((m : Int) ≤ 4)) = true by simp; omega)
    clear hv hg hN hr hbl hvo hn hm hSo hQo hb h4 hc hT
    obtain ⟨w0, hw0⟩ : ∃ w0, ((w.alloc (.cells #[.int .u32 pub.d0, .int .u32 pub.d1, .int .u32 pub.d2, .int .u32 pub.d3] 24)).alloc (.cells #[.int .u32 msg.d0, .int .u32 msg.d1, .int .u32 msg.d2, .int .u32 msg.d3] 24)).alloc (.cells #[.int .i64 i, .slice p n c, .slice q m d] 38) = w0 := ⟨_, rfl⟩
    obtain ⟨hA0, hM0, hX0, hB0⟩ := start47s pub msg i p q n c m d w w0 hw0
    have hS0 := hrS.on hB0
    have hQ0 := hrQ.on hB0
    have hT0 := HT.out.below hB0
    have hz0 := hX0.lt
    obtain ⟨b0, b1, b2⟩ := hX0.c3
    obtain ⟨m0, m1, m2, m3⟩ := Arr.c4 hM0
    clear hrS hrQ
    go_enter Tryd.func17, Tryd.ntmps17
    go_wp2_with fail
    clear hw0
    refine (ishigh_any m w0).mono ?_
    rintro e w1 ⟨rfl, rfl⟩
    rw [HALL.out]
    go_wp2_with fail
    refine (creach_any msg v S g p n c w0 hmo HSo.out HN.out hS0 HC.out hcm hT0 HV.out HG.out).mono ?_
    rintro e w1 ⟨rfl, hD⟩
    obtain ⟨w2, hw2⟩ : ∃ w2, w1.alloc (.cells #[.int .u32 v.d0, .int .u32 v.d1, .int .u32 v.d2, .int .u32 v.d3] 24) = w2 := ⟨_, rfl⟩
    have hV2 : Arr .u32 24 w1.heap.size v.toL w2 := by rw [← hw2]; exact heap_alloc_new w1 _
    have hD2 : Below w1.heap.size w1 w2 := by rw [← hw2]; exact (Below.refl _ _).alloc (Nat.le_refl _) _
    have hD02 := hD.trans (hD2.mono hD.size)
    have hA2 := hA0.on hD02
    have hX2 := hX0.on hD02
    have hQ2 := hQ0.on hD02
    have hB2 := hB0.trans (hD02.mono hB0.size)
    have hz1 : w.heap.size + 1 + 1 < w1.heap.size := Nat.lt_of_lt_of_le hz0 hD.size
    have hvl := hV2.lt
    clear hA0 hM0 hX0 hS0 hQ0 hB0 b0 b1 b2 m0 m1 m2 m3 hD hD2 hD02 hT0
    have hx3 := Box.c3 (show Box 38 (w.heap.size + 1 + 1) [.int .i64 i, .slice p n c, .slice q m d] w2.drew from hX2)
    have ha4 := Arr.c4 (show Arr .u32 24 w.heap.size pub.toL w2.drew from hA2)
    have hv4 := Arr.c4 (show Arr .u32 24 w1.heap.size v.toL w2.drew from hV2)
    have HS0 : Hid (w2.drew.cell? ⟨w.heap.size, 0, none⟩ = some (.int .u32 pub.d0) ∧ w2.drew.cell? ⟨w.heap.size, 1, none⟩ = some (.int .u32 pub.d1) ∧ w2.drew.cell? ⟨w.heap.size, 2, none⟩ = some (.int .u32 pub.d2) ∧ w2.drew.cell? ⟨w.heap.size, 3, none⟩ = some (.int .u32 pub.d3) ∧ w2.drew.cell? ⟨w1.heap.size, 0, none⟩ = some (.int .u32 v.d0) ∧ w2.drew.cell? ⟨w1.heap.size, 1, none⟩ = some (.int .u32 v.d1) ∧ w2.drew.cell? ⟨w1.heap.size, 2, none⟩ = some (.int .u32 v.d2) ∧ w2.drew.cell? ⟨w1.heap.size, 3, none⟩ = some (.int .u32 v.d3) ∧ w2.drew.cell? ⟨w.heap.size + 1 + 1, 0, none⟩ = some (.int .i64 i) ∧ w2.drew.cell? ⟨w.heap.size + 1 + 1, 1, none⟩ = some (.slice p n c) ∧ w2.drew.cell? ⟨w.heap.size + 1 + 1, 2, none⟩ = some (.slice q m d)) := ⟨ha4.1, ha4.2.1, ha4.2.2.1, ha4.2.2.2, hv4.1, hv4.2.1, hv4.2.2.1, hv4.2.2.2, hx3.1, hx3.2.1, hx3.2.2⟩
    have hl1 : w.heap.size < w2.drew.heap.size := show w.heap.size < w2.heap.size by omega
    have hl2 : w1.heap.size < w2.drew.heap.size := hvl
    have hl3 : w.heap.size + 1 + 1 < w2.drew.heap.size := show w.heap.size + 1 + 1 < w2.heap.size by omega
    have hCur : Below w2.drew.heap.size w2.drew w2.drew := Below.refl _ _
    have hQ3 : RdS w2.drew q Q := hQ2
    have hT3 : TurnsOk w2.drew := HT.out.below hB2.drew
    have hB3 : Below w.heap.size w w2.drew := hB2.drew
    have hsz3 := hB3.size
    clear hx3 ha4 hv4 hA2 hX2 hV2 hQ2 hB2
    cases g
    · go_wp2_with fail
      clear hw2
      go_region
      all_goals
        go_wp2_with fail
        go_ret
        exact ⟨by rw [← HBL.out]; rfl, hB3⟩
    · go_wp2_with fail
      clear hw2
      go_region_held3 (fun w' => w'.cell? ⟨w.heap.size, 0, none⟩ = some (.int .u32 pub.d0) ∧ w'.cell? ⟨w.heap.size, 1, none⟩ = some (.int .u32 pub.d1) ∧ w'.cell? ⟨w.heap.size, 2, none⟩ = some (.int .u32 pub.d2) ∧ w'.cell? ⟨w.heap.size, 3, none⟩ = some (.int .u32 pub.d3) ∧ w'.cell? ⟨w1.heap.size, 0, none⟩ = some (.int .u32 v.d0) ∧ w'.cell? ⟨w1.heap.size, 1, none⟩ = some (.int .u32 v.d1) ∧ w'.cell? ⟨w1.heap.size, 2, none⟩ = some (.int .u32 v.d2) ∧ w'.cell? ⟨w1.heap.size, 3, none⟩ = some (.int .u32 v.d3) ∧ w'.cell? ⟨w.heap.size + 1 + 1, 0, none⟩ = some (.int .i64 i) ∧ w'.cell? ⟨w.heap.size + 1 + 1, 1, none⟩ = some (.slice p n c) ∧ w'.cell? ⟨w.heap.size + 1 + 1, 2, none⟩ = some (.slice q m d))
        (exact keepK3 hCur hl1 hl2 hl3 HS0.out)
        (first | (go_at_call 37; (with_reducible refine (ccheck_nm pub v (IntKind.i64.wrap ((2 : Int) ^ m)) (N : Int) i Q r q m d _ HM.out HVO.out HQo.out hQ3 hd hdm hT3 HSH.out HR.out).mono ?_); rintro e w3 ⟨rfl, hP⟩; have hCur : Below w2.drew.heap.size w2.drew w3 := hCur.trans (hP.mono hCur.size)))
      go_wp2_with fail
      go_ret
      exact ⟨by rw [← HBL.out]; rfl, hB3.trans (hCur.mono hsz3)⟩
end Go.Proofs.YtdphhpmkcalahaaDoor
