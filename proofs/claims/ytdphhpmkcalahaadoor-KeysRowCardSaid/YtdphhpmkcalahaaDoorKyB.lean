/-
  The document's Keys and Public.
-/
import Derived.Test.YtdphhpmkcalahaaDoorKyA
namespace Go.Proofs.YtdphhpmkcalahaaDoor
open Go.RowKit

theorem pow_le16 {k h : Nat} (hk : k ≤ h) (hh : h ≤ 4) : 2 ^ k ≤ 16 := by
  have : (2 : Nat) ^ k ≤ 2 ^ 4 := Nat.pow_le_pow_right (by decide) (by omega)
  simpa using this
theorem rpublic_val (seed v : D4) (w : World) (hs : seed.ok) (hv : publicD seed = v) :
    Calls Tryd.prog 24 #[.agg #[.int .u32 seed.d0, .int .u32 seed.d1, .int .u32 seed.d2, .int .u32 seed.d3]] w fun e w' => e = .returned (.agg #[.int .u32 v.d0, .int .u32 v.d1, .int .u32 v.d2, .int .u32 v.d3]) ∧ Below w.heap.size w w' := rpublic_any seed v w hs hv
set_option maxHeartbeats 4000000 in
set_option maxRecDepth 100000 in
theorem rkeys_any (s : D4) (h : Nat) (l : List D4) (N : Nat) (w : World) (hs : s.ok) (hh : h ≤ 4) (hl : keysL s h = l) (hN : l.length = N) :
    Calls Tryd.prog 23 #[.agg #[.int .u32 s.d0, .int .u32 s.d1, .int .u32 s.d2, .int .u32 s.d3], .int .i64 (h : Int)] w fun e w' => ∃ p c, e = .returned (.slice p N c) ∧ N ≤ c ∧ c ≤ maxLen ∧ RdS w' p l ∧ Below w.heap.size w w' := by
  obtain ⟨i0, hinf, hz0, hz1, hz2⟩ := info_parts info_dg
  have hn16 : 2 ^ h ≤ 16 := pow_le16 (Nat.le_refl _) hh
  have HN : Hid (2 ^ h = N) := by show _ = _; rw [← hN, ← hl, keysL_len]
  have HL : Hid (mapR (keyK s) (2 ^ h) = l) := hl
  have HS := Lib.hid hs
  obtain ⟨w0, hw0⟩ : ∃ w0, w.alloc (.cells #[.int .u32 s.d0, .int .u32 s.d1, .int .u32 s.d2, .int .u32 s.d3] 24) = w0 := ⟨_, rfl⟩
  have hA0 : Arr .u32 24 w.heap.size s.toL w0 := by rw [← hw0]; exact heap_alloc_new w _
  have hB0 : Below w.heap.size w w0 := by rw [← hw0]; exact (Below.refl _ _).alloc (Nat.le_refl _) _
  have hs1 := hA0.lt
  rw [HN.out] at hn16
  clear hl hN hs
  go_enter Tryd.func23, Tryd.ntmps23
  go_wp2_with fail
  clear hw0
  go_loop [5, 6] (fun n i => ∃ (k m : Nat), k ≤ h ∧ m ≤ 16 ∧ Hid (2 ^ k = m) ∧ n = .int .i64 (m : Int) ∧ i = .int .i64 (k : Int)) (fun _ i => h - (intOf i).toNat)
  case atStart => exact ⟨0, 1, Nat.zero_le _, by omega, rfl, rfl, rfl⟩
  case round =>
    obtain ⟨k, m, hk, hm, HK, rfl, rfl⟩ := hrel
    by_cases hlt : k < h
    · have hkd : decide ((k : Int) < (h : Int)) = true := by simp; omega
      have h2 : m * 2 ≤ 16 := by
        have := pow_le16 (k := k + 1) (h := h) (by omega) hh
        rw [Nat.pow_succ, HK.out] at this
        exact this
      go_wp2
      go_round
      case rel => exact ⟨k + 1, m * 2, by omega, h2, by show _ = _; rw [Nat.pow_succ, HK.out], by go_num, by go_num⟩
      case measure => simp [intOf]; omega
    · have hkh : k = h := by omega
      subst hkh
      have hmN : m = N := by rw [← HK.out, HN.out]
      subst hmN
      go_wp2_with fail
      go_loopw [7, 8] (fun v i wr => ∃ j : Nat, j ≤ m ∧ i = .int .i64 (j : Int) ∧ OwnsD w0.heap.size v (mapR (keyK s) j) wr ∧ Below w0.heap.size w0 wr) (fun _ i _ => m - (intOf i).toNat)
      case atStart => exact ⟨0, Nat.zero_le _, rfl, OwnsD.nil _ _, Below.refl _ _⟩
      case round =>
        obtain ⟨j, hj, rfl, hO, hC⟩ := hrel
        obtain ⟨l0, l1, l2, l3⟩ := Arr.c4 (hA0.thr hC hs1)
        by_cases hjl : j < m
        · have hjd : decide ((j : Int) < (m : Int)) = true := by simp; omega
          obtain ⟨z, hz⟩ : ∃ z, seedK s j = z := ⟨_, rfl⟩
          have hzo : z.ok := by rw [← hz]; exact seedK_ok s j
          obtain ⟨y, hy⟩ : ∃ y, publicD z = y := ⟨_, rfl⟩
          have HY : Hid (keyK s j = y) := by show _ = _; rw [keyK, hz, hy]
          have HZ0 := Lib.hid hz
          have HY0 := Lib.hid hy
          have HZO := Lib.hid hzo
          have hml := mapR_len (keyK s) j
          clear hz hy hzo
          go_wp2_with fail
          refine (rseed_any s z j wr HS.out (by omega) HZ0.out).mono ?_
          rintro e w1 ⟨rfl, hD⟩
          go_wp2_with fail
          refine (rpublic_val z y w1 HZO.out HY0.out).mono ?_
          rintro e w2 ⟨rfl, hE⟩
          have hD2 := hD.trans (hE.mono hD.size)
          have hO2 : w2.ownsRow w0.heap.size 24 4 u7 (mapR (keyK s) j).length (dCells (mapR (keyK s) j)) := hO.on hD2
          have hC2 := hC.trans (hD2.mono hC.size)
          have hbw := hC2.size
          clear hD hE hO hC hD2 l0 l1 l2 l3
          go_wp2_with (at_builtin; refine wpList_append_lies _ (by rfl) _ _ _ (by rfl) w0.heap.size 24 i0 _ 4 16 Tryd.underlying35 hinf hz0 hz1 hz2 rfl (by omega) u7 (mapR (keyK s) j).length (dCells (mapR (keyK s) j)) (by rfl) (hO2.alloc _) ⟨w2.heap.size, 0, none⟩ 1 1 [.int .u32 y.d0, .int .u32 y.d1, .int .u32 y.d2, .int .u32 y.d3] (by rfl) (by rfl) (World.news_of_block (cs := #[.int .u32 y.d0, .int .u32 y.d1, .int .u32 y.d2, .int .u32 y.d3]) (t := 24) (fr := (0, 0)) (heap_alloc_new w2 _)) (by simp [Value.oneCell']) (by omega) (by unfold maxLen; omega) (by omega) (by simp; omega) (w2.heap.size + 1) (by simp) ?_; intro gg gcap w3 hown3 hgrow hat hlt3)
          have hC3 : Below w0.heap.size w0 w3 := (hC2.alloc hbw _).grown hgrow (by simp; omega) (fun k hk => (World.ownsRow.lt hO2 k hk).1)
          have hO3 := OwnsD.snoc (d := y) hown3
          rw [← HY.out, ← mapR_succ, hml] at hO3
          clear hown3 hgrow hat hO2 hC2
          go_wp2
          go_roundw
          case rel => exact ⟨j + 1, by omega, by go_num, hO3, hC3⟩
          case measure => simp [intOf]; omega
        · have hjm : j = m := by omega
          subst hjm
          obtain ⟨p, c, rfl, hc, hcm, hrd⟩ := hO.form
          have hml := mapR_len (keyK s) j
          rw [hml] at hc ⊢
          have hB := hB0.trans (hC.mono hB0.size)
          have hrd2 : RdS wr p l := by rw [← HL.out, HN.out]; exact hrd
          clear hO hml hrd
          go_wp2_with fail
          go_ret
          exact ⟨p, c, rfl, hc, hcm, hrd2, hB⟩
theorem rroot_val (l : List D4) (y : D4) (n cap : Nat) (p : Option Addr) (w : World) (hle : l.length ≤ 1000000) (hok : allD4 l) (hr : RdS w p l) (hn : n = l.length) (hc : n ≤ cap) (hm : cap ≤ maxLen) (hy : rootD l = y) :
    Calls Tryd.prog 29 #[.slice p n cap] w fun e w' => e = .returned (.agg #[.int .u32 y.d0, .int .u32 y.d1, .int .u32 y.d2, .int .u32 y.d3]) ∧ Below w.heap.size w w' := by
  subst hy; subst hn
  exact root_any l hle hok p cap w hr hc hm
/-- May a height be? -/
def hBad (h : Int) : Bool := decide (h < 0) || decide (4 < h)
set_option maxHeartbeats 2000000 in
set_option maxRecDepth 100000 in
theorem rpub6_no (s : D4) (h : Int) (w : World) (hh : h < 0 ∨ 4 < h) :
    Calls Tryd.prog 12 #[.agg #[.int .u32 s.d0, .int .u32 s.d1, .int .u32 s.d2, .int .u32 s.d3], .int .i64 h] w fun e w' => e = .returned (.tuple #[zeroD.val, .int .i64 2]) ∧ Below w.heap.size w w' := by
  obtain ⟨w0, hw0⟩ : ∃ w0, (w.alloc (.cells #[.int .u32 s.d0, .int .u32 s.d1, .int .u32 s.d2, .int .u32 s.d3] 24)).alloc (.cells #[.int .u32 0, .int .u32 0, .int .u32 0, .int .u32 0] 24) = w0 := ⟨_, rfl⟩
  obtain ⟨hM0, hR0, hB0⟩ := start46 s w w0 hw0
  obtain ⟨b0, b1, b2, b3⟩ := Arr.c4 (d := zeroD) hR0
  obtain ⟨f0, f1, f2, f3⟩ := hR0.f4
  have hRf := put4 (d := zeroD) hR0 rfl
  have hBf := below_put4 hB0 (show w.heap.size ≤ w.heap.size + 1 by omega) zeroD
  simp only [zeroD] at b0 b1 b2 b3 hRf hBf
  obtain ⟨g1, hg1⟩ : ∃ g, decide (h < 0) = g := ⟨_, rfl⟩
  obtain ⟨g2, hg2⟩ : ∃ g, decide (4 < h) = g := ⟨_, rfl⟩
  have hall : g1 = true ∨ g2 = true := by
    subst hg1; subst hg2
    simp
    omega
  clear hh
  go_enter Tryd.func12, Tryd.ntmps12
  cases g1 <;> cases g2 <;> simp at hall
  all_goals
    go_wp2_with fail
    generalize (((w0.setCell ⟨w.heap.size + 1, 0, none⟩ (.int .u32 0)).setCell ⟨w.heap.size + 1, 1, none⟩ (.int .u32 0)).setCell ⟨w.heap.size + 1, 2, none⟩ (.int .u32 0)).setCell ⟨w.heap.size + 1, 3, none⟩ (.int .u32 0) = wf at *
    obtain ⟨r0, r1, r2, r3⟩ := hRf.c4
    simp only at r0 r1 r2 r3
    refine bodyPost_ret (v := .tuple #[zeroD.val, .int .i64 2]) (by simp [results, Tryd.results12, go_sem, D4.val, zeroD, r0, r1, r2, r3]) rfl ⟨rfl, hBf⟩
set_option maxHeartbeats 2000000 in
set_option maxRecDepth 100000 in
theorem rpub6_yes (s v : D4) (h : Nat) (w : World) (hs : s.ok) (hh : h ≤ 4) (hv : pubK s h = v) :
    Calls Tryd.prog 12 #[.agg #[.int .u32 s.d0, .int .u32 s.d1, .int .u32 s.d2, .int .u32 s.d3], .int .i64 (h : Int)] w fun e w' => e = .returned (.tuple #[v.val, .int .i64 0]) ∧ Below w.heap.size w w' := by
  obtain ⟨l, hl⟩ : ∃ l, keysL s h = l := ⟨_, rfl⟩
  obtain ⟨N, hN⟩ : ∃ N, l.length = N := ⟨_, rfl⟩
  have hNb : N ≤ 16 := by rw [← hN, ← hl, keysL_len]; exact pow_le16 (Nat.le_refl _) hh
  have HLO := Lib.hid (show allD4 l by rw [← hl]; exact keysL_ok s h)
  have HV : Hid (rootD l = v) := by show _ = _; rw [← hl]; exact hv
  have HL := Lib.hid hl
  have HN := Lib.hid hN
  have HNL := Lib.hid (show l.length ≤ 1000000 by omega)
  have hd1 : decide ((h : Int) < 0) = false := by simp
  have hd2 : decide ((4 : Int) < (h : Int)) = false := by simp; omega
  clear hl hN hv
  obtain ⟨w0, hw0⟩ : ∃ w0, (w.alloc (.cells #[.int .u32 s.d0, .int .u32 s.d1, .int .u32 s.d2, .int .u32 s.d3] 24)).alloc (.cells #[.int .u32 0, .int .u32 0, .int .u32 0, .int .u32 0] 24) = w0 := ⟨_, rfl⟩
  obtain ⟨hM0, hR0, hB0⟩ := start46 s w w0 hw0
  obtain ⟨l0, l1, l2, l3⟩ := Arr.c4 hM0
  go_enter Tryd.func12, Tryd.ntmps12
  go_wp2_with fail
  clear hw0
  refine (rkeys_any s h l N w0 hs hh HL.out HN.out).mono ?_
  rintro e w1 ⟨p, c, rfl, hc, hcm, hrd, hD⟩
  have hR1 := hR0.on hD
  have hB1 := hB0.trans (hD.mono hB0.size)
  clear hM0 hR0 hB0 l0 l1 l2 l3 hD
  go_wp2_with fail
  refine (rroot_val l v N c p w1 HNL.out HLO.out hrd HN.out.symm hc hcm HV.out).mono ?_
  rintro e w2 ⟨rfl, hE⟩
  have hR2 := hR1.on hE
  have hB2 := hB1.trans (hE.mono hB1.size)
  obtain ⟨b0, b1, b2, b3⟩ := Arr.c4 (d := zeroD) hR2
  obtain ⟨f0, f1, f2, f3⟩ := hR2.f4
  have hRf := put4 (d := v) hR2 rfl
  have hBf := below_put4 hB2 (show w.heap.size ≤ w.heap.size + 1 by omega) v
  clear hR1 hB1 hR2 hB2 hE hrd
  go_wp2_with fail
  generalize (((w2.setCell ⟨w.heap.size + 1, 0, none⟩ (.int .u32 v.d0)).setCell ⟨w.heap.size + 1, 1, none⟩ (.int .u32 v.d1)).setCell ⟨w.heap.size + 1, 2, none⟩ (.int .u32 v.d2)).setCell ⟨w.heap.size + 1, 3, none⟩ (.int .u32 v.d3) = wf at *
  obtain ⟨r0, r1, r2, r3⟩ := hRf.c4
  refine bodyPost_ret (v := .tuple #[v.val, .int .i64 0]) (by simp [results, Tryd.results12, go_sem, D4.val, r0, r1, r2, r3]) rfl ⟨rfl, hBf⟩
end Go.Proofs.YtdphhpmkcalahaaDoor
