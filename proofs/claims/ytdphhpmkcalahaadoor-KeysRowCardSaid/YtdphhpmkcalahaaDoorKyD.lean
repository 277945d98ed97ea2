/-
  The document's Check, List, Same of layer 6 (written by gen_check.py).
-/
import Derived.Test.YtdphhpmkcalahaaDoorKyC
namespace Go.Proofs.YtdphhpmkcalahaaDoor
open Go.RowKit

/-- Does a signature hold? -/
def check6 (pub msg : D4) (i : Int) (S Q : List D4) : Bool := decide (Q.length ≤ 4) && (is35 S && checkD pub ((2 ^ Q.length : Nat) : Int) i (reachV msg S) Q)
theorem reachV_ok6 {S : List D4} (msg : D4) (h : allD4 S) : (reachV msg S).ok := by
  unfold reachV
  split
  · exact reachD_ok msg h
  · simp [zeroD, D4.ok, isW]
theorem start47s (x y : D4) (i : Int) (p q : Option Addr) (n c m d : Nat) (w w0 : World) (h : ((w.alloc (.cells #[.int .u32 x.d0, .int .u32 x.d1, .int .u32 x.d2, .int .u32 x.d3] 24)).alloc (.cells #[.int .u32 y.d0, .int .u32 y.d1, .int .u32 y.d2, .int .u32 y.d3] 24)).alloc (.cells #[.int .i64 i, .slice p n c, .slice q m d] 38) = w0) :
    Arr .u32 24 w.heap.size x.toL w0 ∧ Arr .u32 24 (w.heap.size + 1) y.toL w0 ∧ Box 38 (w.heap.size + 1 + 1) [.int .i64 i, .slice p n c, .slice q m d] w0 ∧ Below w.heap.size w w0 := by
  subst h
  obtain ⟨w1, h1⟩ : ∃ w1, (w.alloc (.cells #[.int .u32 x.d0, .int .u32 x.d1, .int .u32 x.d2, .int .u32 x.d3] 24)).alloc (.cells #[.int .u32 y.d0, .int .u32 y.d1, .int .u32 y.d2, .int .u32 y.d3] 24) = w1 := ⟨_, rfl⟩
  obtain ⟨hX, hY, hB⟩ := start47 x y w w1 h1
  have a1 : w1.heap.size = w.heap.size + 1 + 1 := by rw [← h1]; simp
  rw [h1]
  refine ⟨hX.al _, hY.al _, ?_, hB.alloc (by omega) _⟩
  rw [← a1]
  exact Box.new 38 [.int .i64 i, .slice p n c, .slice q m d] w1
theorem rcheck_val (root leaf : D4) (n i : Int) (q : List D4) (bl : Bool) (a : Option Addr) (L cap : Nat) (w : World) (hL : L = q.length) (hlo : leaf.ok) (hq : allD4 q) (hr : RdS w a q) (hc : L ≤ cap) (hm : cap ≤ maxLen) (hb : checkD root n i leaf q = bl) :
    Calls Tryd.prog 38 #[.agg #[.int .u32 root.d0, .int .u32 root.d1, .int .u32 root.d2, .int .u32 root.d3], .int .i64 n, .int .i64 i, .agg #[.int .u32 leaf.d0, .int .u32 leaf.d1, .int .u32 leaf.d2, .int .u32 leaf.d3], .slice a L cap] w fun e w' => e = .returned (.bool bl) ∧ Below w.heap.size w w' := by
  subst hL; subst hb
  exact rcheck_any root leaf n i q a cap w hlo hq hr hc hm
set_option maxHeartbeats 4000000 in
set_option maxRecDepth 100000 in
theorem rcheck6_long (pub msg : D4) (i : Int) (p q : Option Addr) (n c m d : Nat) (w : World) (h : 4 < m) :
    Calls Tryd.prog 18 #[.agg #[.int .u32 pub.d0, .int .u32 pub.d1, .int .u32 pub.d2, .int .u32 pub.d3], .agg #[.int .u32 msg.d0, .int .u32 msg.d1, .int .u32 msg.d2, .int .u32 msg.d3], .agg #[.int .i64 i, .slice p n c, .slice q m d]] w fun e w' => e = .returned (.bool false) ∧ Below w.heap.size w w' := by
  have hd : decide ((4 : Int) < (m : Int)) = true := by simp; omega
  obtain ⟨w0, hw0⟩ : ∃ w0, ((w.alloc (.cells #[.int .u32 pub.d0, .int .u32 pub.d1, .int .u32 pub.d2, .int .u32 pub.d3] 24)).alloc (.cells #[.int .u32 msg.d0, .int .u32 msg.d1, .int .u32 msg.d2, .int .u32 msg.d3] 24)).alloc (.cells #[.int .i64 i, .slice p n c, .slice q m d] 38) = w0 := ⟨_, rfl⟩
  obtain ⟨hA0, hM0, hX0, hB0⟩ := start47s pub msg i p q n c m d w w0 hw0
  obtain ⟨b0, b1, b2⟩ := hX0.c3
  go_enter Tryd.func18, Tryd.ntmps18
  go_wp2_with fail
  go_ret
  exact ⟨rfl, hB0⟩
set_option maxHeartbeats 4000000 in
set_option maxRecDepth 100000 in
theorem rcheck6_any (pub msg : D4) (i : Int) (S Q : List D4) (bl : Bool) (p q : Option Addr) (n c m d : Nat) (w : World) (hmo : msg.ok) (hSo : allD4 S) (hQo : allD4 Q) (hn : n = S.length) (hm : m = Q.length) (hrS : RdS w p S) (hrQ : RdS w q Q) (hc : S.length ≤ c) (hcm : c ≤ maxLen) (hd : m ≤ d) (hdm : d ≤ maxLen) (hb : check6 pub msg i S Q = bl) :
    Calls Tryd.prog 18 #[.agg #[.int .u32 pub.d0, .int .u32 pub.d1, .int .u32 pub.d2, .int .u32 pub.d3], .agg #[.int .u32 msg.d0, .int .u32 msg.d1, .int .u32 msg.d2, .int .u32 msg.d3], .agg #[.int .i64 i, .slice p n c, .slice q m d]] w fun e w' => e = .returned (.bool bl) ∧ Below w.heap.size w w' := by
  rcases Nat.lt_or_ge 4 m with h | h
  · have : bl = false := by rw [← hb, check6, decide_eq_false (by omega)]; rfl
    subst this
    exact rcheck6_long pub msg i p q n c m d w h
  · have h4 : Q.length ≤ 4 := by omega
    obtain ⟨v, hv⟩ : ∃ v, reachV msg S = v := ⟨_, rfl⟩
    obtain ⟨g, hg⟩ : ∃ g, is35 S = g := ⟨_, rfl⟩
    obtain ⟨N, hN⟩ : ∃ N, 2 ^ m = N := ⟨_, rfl⟩
    obtain ⟨r, hr⟩ : ∃ r, checkD pub (N : Int) i v Q = r := ⟨_, rfl⟩
    have hN16 : N ≤ 16 := by rw [← hN]; exact pow_le16 (Nat.le_refl _) h
    have hbl : (g && r) = bl := by
      rw [← hb, check6, decide_eq_true h4, hg, hv, ← hm, hN, hr]; rfl
    have hvo : v.ok := by rw [← hv]; exact reachV_ok6 msg hSo
    have HV := Lib.hid hv
    have HG := Lib.hid hg
    have HNN := Lib.hid hN
    have HR := Lib.hid hr
    have HBL := Lib.hid hbl
    have HVO := Lib.hid hvo
    have HN := Lib.hid hn
    have HM := Lib.hid hm
    have HSo := Lib.hid hSo
    have HQo := Lib.hid hQo
    have HC := Lib.hid hc
    have hd0 : decide ((4 : Int) < (m : Int)) = false := by simp; omega
    clear hv hg hN hr hbl hvo hn hm hSo hQo hb h4 hc
    obtain ⟨w0, hw0⟩ : ∃ w0, ((w.alloc (.cells #[.int .u32 pub.d0, .int .u32 pub.d1, .int .u32 pub.d2, .int .u32 pub.d3] 24)).alloc (.cells #[.int .u32 msg.d0, .int .u32 msg.d1, .int .u32 msg.d2, .int .u32 msg.d3] 24)).alloc (.cells #[.int .i64 i, .slice p n c, .slice q m d] 38) = w0 := ⟨_, rfl⟩
    obtain ⟨hA0, hM0, hX0, hB0⟩ := start47s pub msg i p q n c m d w w0 hw0
    have hS0 := hrS.on hB0
    have hQ0 := hrQ.on hB0
    obtain ⟨b0, b1, b2⟩ := hX0.c3
    obtain ⟨m0, m1, m2, m3⟩ := Arr.c4 hM0
    clear hrS hrQ
    go_enter Tryd.func18, Tryd.ntmps18
    go_wp2_with fail
    clear hw0
    refine (rreach_any msg v S g p n c w0 hmo HSo.out HN.out hS0 HC.out hcm HV.out HG.out).mono ?_
    rintro e w1 ⟨rfl, hD⟩
    obtain ⟨w2, hw2⟩ : ∃ w2, w1.alloc (.cells #[.int .u32 v.d0, .int .u32 v.d1, .int .u32 v.d2, .int .u32 v.d3] 24) = w2 := ⟨_, rfl⟩
    have hV2 : Arr .u32 24 w1.heap.size v.toL w2 := by rw [← hw2]; exact heap_alloc_new w1 _
    have hD2 : Below w1.heap.size w1 w2 := by rw [← hw2]; exact (Below.refl _ _).alloc (Nat.le_refl _) _
    have hD02 := hD.trans (hD2.mono hD.size)
    have hA2 := hA0.on hD02
    have hX2 := hX0.on hD02
    have hQ2 := hQ0.on hD02
    have hB2 := hB0.trans (hD02.mono hB0.size)
    clear hA0 hM0 hX0 hS0 hQ0 hB0 b0 b1 b2 m0 m1 m2 m3 hD hD2 hD02
    obtain ⟨b0, b1, b2⟩ := hX2.c3
    obtain ⟨l0, l1, l2, l3⟩ := Arr.c4 hA2
    obtain ⟨k0, k1, k2, k3⟩ := Arr.c4 hV2
    go_wp2_with fail
    clear hw2
    go_loop [9, 10] (fun n i => ∃ (k a : Nat), k ≤ m ∧ a ≤ 16 ∧ Hid (2 ^ k = a) ∧ n = .int .i64 (a : Int) ∧ i = .int .i64 (k : Int)) (fun _ i => m - (intOf i).toNat)
    case atStart => exact ⟨0, 1, Nat.zero_le _, by omega, rfl, rfl, rfl⟩
    case round =>
      obtain ⟨k, a, hk, ha, HK, rfl, rfl⟩ := hrel
      by_cases hlt : k < m
      · have hkd : decide ((k : Int) < (m : Int)) = true := by simp; omega
        have h2 : a * 2 ≤ 16 := by
          have := pow_le16 (k := k + 1) (h := m) (by omega) h
          rw [Nat.pow_succ, HK.out] at this
          exact this
        go_wp2
        go_round
        case rel => exact ⟨k + 1, a * 2, by omega, h2, by show _ = _; rw [Nat.pow_succ, HK.out], by go_num, by go_num⟩
        case measure => simp [intOf]; omega
      · have hkm : k = m := by omega
        subst hkm
        have hmN : a = N := by rw [← HK.out, HNN.out]
        subst hmN
        cases g
        · go_wp2_with fail
          go_ret
          exact ⟨by rw [← HBL.out]; rfl, hB2⟩
        · go_wp2_with fail
          refine (rcheck_val pub v (a : Int) i Q r q k d w2 HM.out HVO.out HQo.out hQ2 hd hdm HR.out).mono ?_
          rintro e w3 ⟨rfl, hD⟩
          go_wp2_with fail
          go_ret
          exact ⟨by rw [← HBL.out]; rfl, hB2.trans (hD.mono hB2.size)⟩

theorem take_next (l : List D4) (k : Nat) (h : k < l.length) : l.take (k + 1) = l.take k ++ [l.getD k zeroD] := by
  rw [List.take_add_one, List.getD_eq_getElem?_getD, List.getElem?_eq_getElem h]
  rfl
theorem not_same (l m : List D4) (k : Nat) (h : l.getD k zeroD ≠ m.getD k zeroD) : l ≠ m := fun e => h (by rw [e])
set_option maxHeartbeats 2000000 in
set_option maxRecDepth 100000 in
theorem rlist_any (l m : List D4) (a b : Option Addr) (n n' c d : Nat) (w : World) (hn : n = l.length) (hn' : n' = m.length) (ha : RdS w a l) (hb : RdS w b m) (hc : n ≤ c) (hcm : c ≤ maxLen) (hd : n' ≤ d) (_hdm : d ≤ maxLen) :
    Calls Tryd.prog 35 #[.slice a n c, .slice b n' d] w fun e w' => e = .returned (.bool (decide (l = m))) ∧ Below w.heap.size w w' := by
  unfold maxLen at hcm _hdm
  by_cases hnm : n = n'
  · subst hnm
    have HN := Lib.hid hn
    have HN' := Lib.hid hn'
    clear hn hn'
    go_enter Tryd.func35, Tryd.ntmps35
    go_wp2
    go_loopw [5] (fun v wr => ∃ k : Nat, k ≤ n ∧ v = .int .i64 (k : Int) ∧ Below w.heap.size w wr ∧ Hid (l.take k = m.take k)) (fun v _ => n - (intOf v).toNat)
    case atStart => exact ⟨0, Nat.zero_le _, rfl, Below.refl _ _, Lib.hid rfl⟩
    case round =>
      obtain ⟨k, hk, rfl, hB, HT⟩ := hrel
      by_cases hlt : k < n
      · have hl : k < l.length := by have := HN.out; omega
        have hm : k < m.length := by have := HN'.out; omega
        obtain ⟨b1, o1, rfl, h1⟩ := ha (by intro e; subst e; simp at hl)
        obtain ⟨b2, o2, rfl, h2⟩ := hb (by intro e; subst e; simp at hm)
        obtain ⟨c0, c1, c2, c3⟩ := (h1.2 k hl).on hB h1.1
        obtain ⟨d0, d1, d2, d3⟩ := (h2.2 k hm).on hB h2.1
        obtain ⟨x, hx⟩ : ∃ x, l.getD k zeroD = x := ⟨_, rfl⟩
        obtain ⟨y, hy⟩ : ∃ y, m.getD k zeroD = y := ⟨_, rfl⟩
        rw [hx] at c0 c1 c2 c3
        rw [hy] at d0 d1 d2 d3
        obtain ⟨q, hq⟩ : ∃ q, sameD x y = q := ⟨_, rfl⟩
        have hE := eqD_run x y
        rw [hq] at hE
        have HX := Lib.hid hx
        have HY := Lib.hid hy
        have HQ := Lib.hid hq
        clear hx hy hq
        have hk0 : (0 : Int) ≤ (k : Int) := by omega
        have hkn : (k : Int) < (n : Int) := by omega
        cases q
        · go_wp2_with fail
          go_region
          all_goals
            go_wp2
            go_ret
            refine ⟨?_, hB.drew⟩
            have : l ≠ m := not_same l m k (by rw [HX.out, HY.out]; intro e; have := HQ.out; rw [(sameD_iff x y).mpr e] at this; cases this)
            rw [decide_eq_false this]; rfl
        · go_wp2_with fail
          go_region
          all_goals
            go_wp2
            go_round
            case rel =>
              refine ⟨k + 1, by omega, by go_num, hB.drew, Lib.hid ?_⟩
              rw [take_next l k hl, take_next m k hm, HT.out, HX.out, HY.out, (sameD_iff x y).mp HQ.out]
            case measure => simp [intOf]; omega
      · have hkn : k = n := by omega
        subst hkn
        go_wp2
        go_ret
        refine ⟨?_, hB⟩
        have : l = m := by
          have h1 := HT.out
          rwa [List.take_of_length_le (by have := HN.out; omega), List.take_of_length_le (by have := HN'.out; omega)] at h1
        rw [decide_eq_true this]; rfl
  · have hne : ((n : Int) == (n' : Int)) = false := by simp; omega
    have hne2 : ((n : Int) != (n' : Int)) = true := by simp; omega
    have hd : decide (l = m) = false := decide_eq_false (fun e => hnm (by rw [hn, hn', e]))
    rw [hd]
    clear hd hn hn'
    go_enter Tryd.func35, Tryd.ntmps35
    go_wp2
    go_ret
    exact ⟨rfl, Below.refl _ _⟩

theorem rlist_val (l m : List D4) (q : Bool) (a b : Option Addr) (n n' c d : Nat) (w : World) (hn : n = l.length) (hn' : n' = m.length) (ha : RdS w a l) (hb : RdS w b m) (hc : n ≤ c) (hcm : c ≤ maxLen) (hd : n' ≤ d) (hdm : d ≤ maxLen) (hq : decide (l = m) = q) :
    Calls Tryd.prog 35 #[.slice a n c, .slice b n' d] w fun e w' => e = .returned (.bool q) ∧ Below w.heap.size w w' := by
  subst hq
  exact rlist_any l m a b n n' c d w hn hn' ha hb hc hcm hd hdm
end Go.Proofs.YtdphhpmkcalahaaDoor
