/-
  The document's one-time keys: Steps, Walk, Begin, Of, Public, Sign, Reach.
-/
import Derived.Test.YtdphhpmkcalahaaDoorOtC1
import Derived.Test.YtdphhpmkcalahaaDoorTxC
import Derived.Deep.RegionHeld3
import Derived.Deep.RegionWith
namespace Go.Proofs.YtdphhpmkcalahaaDoor

section
/-! The document's Steps. -/
open Go.RowKit

theorem textL_append (l m : List UInt8) : textL (l ++ m) = textL l ++ textL m := by
  induction l with
  | nil => rfl
  | cons a l ih => simp [textL, ih]
theorem text_hi4 (x : Int) : textL (hi4 x) = (nibs x.toNat 8).map sgn := by
  have e : ∀ j, (byteN x.toNat j).toNat = x.toNat / 256 ^ j % 256 := fun j => byteN_nat _ j
  obtain ⟨a, ha⟩ : ∃ a, x.toNat = a := ⟨_, rfl⟩
  rw [ha] at e
  simp only [hi4, textL, nibs, nib, List.map_cons, List.map_nil, ha, e]
  simp only [show (256 : Nat) ^ 3 = 16777216 from rfl, show (256 : Nat) ^ 2 = 65536 from rfl, show (256 : Nat) ^ 1 = 256 from rfl, show (256 : Nat) ^ 0 = 1 from rfl, show (16 : Nat) ^ 7 = 268435456 from rfl, show (16 : Nat) ^ 5 = 1048576 from rfl, show (16 : Nat) ^ 3 = 4096 from rfl, show (16 : Nat) ^ 1 = 16 from rfl]
  rw [show a / 16777216 % 256 / 16 = a / 268435456 % 16 by omega, show a / 16777216 % 256 % 16 = a / 16777216 % 16 by omega, show a / 65536 % 256 / 16 = a / 1048576 % 16 by omega, show a / 65536 % 256 % 16 = a / 65536 % 16 by omega, show a / 256 % 256 / 16 = a / 4096 % 16 by omega, show a / 256 % 256 % 16 = a / 256 % 16 by omega, show a / 1 % 256 / 16 = a / 16 % 16 by omega, show a / 1 % 256 % 16 = a / 1 % 16 by omega]
theorem text_digits (d : D4) : dTextL d = (digL d).map sgn := by
  simp only [dTextL, dB, textL_append, text_hi4, digL, List.map_append, List.append_assoc]
theorem textR_named (d : D4) (t : ByteArray) (w : World) (hd : d.ok) (ht : t.data.toList = dTextL d) : Calls Tryd.prog 62 #[.agg #[.int .u32 d.d0, .int .u32 d.d1, .int .u32 d.d2, .int .u32 d.d3]] w fun e w' => e = .returned (.string t) ∧ Below w.heap.size w w' := by
  rw [show t = ⟨(dTextL d).toArray⟩ by rw [← ht]]; exact rtext_any d w hd
theorem sign_at (N : List Nat) (t : ByteArray) (ht : t.data.toList = N.map sgn) (k : Nat) (h : k < t.size) (hk : k < N.length) (hlt : N.getD k 0 < 16) : (t[k].toNat : Int) = if N.getD k 0 < 10 then 48 + ((N.getD k 0 : Nat) : Int) else 87 + ((N.getD k 0 : Nat) : Int) := by
  have e : t[k] = sgn (N.getD k 0) := by
    have h1 : t.data.toList[k]? = some t[k] := by
      rw [List.getElem?_eq_getElem (by rw [Array.length_toList]; exact h)]; rfl
    rw [ht, List.getElem?_map, List.getElem?_eq_getElem hk] at h1
    rw [List.getD_eq_getElem?_getD, List.getElem?_eq_getElem hk]
    simpa using h1.symm
  rw [e, sgn_val _ hlt]
  split <;> simp
set_option maxHeartbeats 2000000 in
set_option maxRecDepth 100000 in
theorem rsteps_any (d : D4) (w : World) (hd : d.ok) :
    Calls Tryd.prog 39 #[.agg #[.int .u32 d.d0, .int .u32 d.d1, .int .u32 d.d2, .int .u32 d.d3]] w fun e w' => ∃ g cap, e = .returned (.slice (some ⟨g, 0, none⟩) 35 cap) ∧ w.heap.size ≤ g ∧ 35 ≤ cap ∧ cap ≤ maxLen ∧ RdN w' g (numL d) ∧ Below w.heap.size w w' := by
  obtain ⟨i0, hinf, hz0, hz1, hz2⟩ := info_parts info_int
  obtain ⟨N, hN⟩ : ∃ N, digL d = N := ⟨_, rfl⟩
  have hNl : N.length = 32 := by rw [← hN, digL_len]
  have hNt : ∀ i, N.getD i 0 < 16 := fun i => by
    rw [← hN, List.getD_eq_getElem?_getD]
    rcases Nat.lt_or_ge i (digL d).length with h | h
    · rw [List.getElem?_eq_getElem h]
      exact digL_lt d _ (List.getElem_mem h)
    · rw [List.getElem?_eq_none h]; simp
  have HNE := Lib.hid hN
  have HNt := Lib.hid hNt
  obtain ⟨t, ht⟩ : ∃ t : ByteArray, t.data.toList = dTextL d := ⟨⟨(dTextL d).toArray⟩, rfl⟩
  have hts : t.size = 32 := by
    have h1 : t.data.toList.length = t.size := by rw [Array.length_toList]; rfl
    rw [← h1, ht, text_digits, List.length_map, digL_len]
  have HT := Lib.hid ht
  have HTm : Hid (t.data.toList = N.map sgn) := by show _ = _; rw [ht, text_digits, hN]
  obtain ⟨w0, hw0⟩ : ∃ w0, w.alloc (.cells #[.int .u32 d.d0, .int .u32 d.d1, .int .u32 d.d2, .int .u32 d.d3] 24) = w0 := ⟨_, rfl⟩
  have hA0 : Arr .u32 24 w.heap.size d.toL w0 := by rw [← hw0]; exact heap_alloc_new w _
  have hB0 : Below w.heap.size w w0 := by rw [← hw0]; exact (Below.refl _ _).alloc (Nat.le_refl _) _
  obtain ⟨l0, l1, l2, l3⟩ := Arr.c4 hA0
  clear hN hNt ht
  go_enter Tryd.func39, Tryd.ntmps39
  go_wp2_with fail
  clear hw0
  refine (textR_named d t w0 hd HT.out).mono ?_
  rintro e w1 ⟨rfl, hD⟩
  have hB1 := hB0.trans (hD.mono hB0.size)
  clear hA0 hB0 l0 l1 l2 l3 hD
  go_wp2_with fail
  go_loopw [4, 5, 6] (fun v s i wr => ∃ (k : Nat) (L : List Nat), k ≤ 32 ∧ i = .int .i64 (k : Int) ∧ s = .int .i64 ((lackN L : Nat) : Int) ∧ OwnsN w.heap.size v L wr ∧ Hid (L = N.take k) ∧ Below w.heap.size w wr) (fun _ _ i _ => 32 - (intOf i).toNat)
  case atStart => exact ⟨0, [], by omega, rfl, rfl, OwnsN.nil _ _, rfl, hB1⟩
  case round =>
    clear hB1
    obtain ⟨k, L, hk, rfl, rfl, hown, HL, hB⟩ := hrel
    by_cases hlt : k < 32
    · have hk0 : (0 : Int) ≤ (k : Int) := by omega
      have hk1 : (k : Int) < (t.size : Int) := by omega
      have hks : k < t.size := by omega
      have hsg := sign_at N t HTm.out k hks (by omega) (HNt.out k)
      have h16 := HNt.out k
      have hnx := lack_next N k (by omega) (by omega)
      have hLk := lackN_le L
      have hLl : L.length = k := by rw [HL.out, List.length_take]; omega
      rw [← HL.out] at hnx
      obtain ⟨y, hy⟩ : ∃ y, N.getD k 0 = y := ⟨_, rfl⟩
      rw [hy] at hsg h16 hnx
      obtain ⟨M, hM⟩ : ∃ M, L ++ [y] = M := ⟨_, rfl⟩
      have HM : Hid (M = N.take (k + 1)) := by
        show _ = _
        rw [← hM, HL.out, List.take_add_one, ← hy, List.getD_eq_getElem?_getD, List.getElem?_eq_getElem (show k < N.length by omega)]; rfl
      rw [← HM.out] at hnx
      have HM0 := Lib.hid hM
      obtain ⟨s0, hs0⟩ : ∃ s, lackN L = s := ⟨_, rfl⟩
      obtain ⟨s1, hs1⟩ : ∃ s, lackN M = s := ⟨_, rfl⟩
      rw [hs0, hs1] at hnx
      rw [hs0] at hLk ⊢
      have HS1 := Lib.hid hs1
      have hown' : wr.ownsRow w.heap.size 3 1 u4 L.length (nCells L) := hown
      have hbw := hB.size
      clear hy hM hs0 hs1 hown
      have hw2 : IntKind.i64.wrap ((s0 : Int) + 15 - (y : Int)) = (s1 : Int) := by rw [IntWalk.i64_in _ (by omega)]; omega
      by_cases h10 : y < 10
      · rw [if_pos h10] at hsg
        have hq : decide ((97 : Int) ≤ 48 + (y : Int)) = false := by simp; omega
        have hv : (48 : Int) + (y : Int) - 48 = (y : Int) := by omega
        go_wp2_with (at_builtin; refine wpList_append_lies _ (by rfl) _ _ _ (by rfl) w.heap.size 3 i0 _ 1 8 Tryd.underlying66 hinf hz0 hz1 hz2 rfl (by omega) u4 L.length (nCells L) (by rfl) (hown'.alloc _) ⟨wr.heap.size, 0, none⟩ 1 1 [.int .i64 (y : Int)] (by rfl) (by rfl) (World.news_of_block (cs := #[.int .i64 (y : Int)]) (t := 3) (fr := (0, 0)) (heap_alloc_new wr _)) (by simp [Value.oneCell']) (by omega) (by unfold maxLen; omega) (by omega) (by simp; omega) (wr.heap.size + 1) (by simp) ?_; intro gg gcap w3 hown3 hgrow hat hlt3)
        have hB3 : Below w.heap.size w w3 := (hB.alloc hbw _).grown hgrow (by simp; omega) (fun k hk => (World.ownsRow.lt hown' k hk).1)
        have hO := OwnsN.snoc (y := y) hown3
        rw [HM0.out, hLl] at hO
        clear hown3 hgrow hat hown' hB hsg
        go_wp2
        go_roundw
        case rel => exact ⟨k + 1, M, by omega, by go_num, by rw [HS1.out]; congr 1 <;> omega, hO, HM, hB3⟩
        case measure => simp [intOf]; omega
      · rw [if_neg h10] at hsg
        have hq : decide ((97 : Int) ≤ 87 + (y : Int)) = true := by simp; omega
        have hv : (87 : Int) + (y : Int) - 97 + 10 = (y : Int) := by omega
        go_wp2_with (at_builtin; refine wpList_append_lies _ (by rfl) _ _ _ (by rfl) w.heap.size 3 i0 _ 1 8 Tryd.underlying66 hinf hz0 hz1 hz2 rfl (by omega) u4 L.length (nCells L) (by rfl) (hown'.alloc _) ⟨wr.heap.size, 0, none⟩ 1 1 [.int .i64 (y : Int)] (by rfl) (by rfl) (World.news_of_block (cs := #[.int .i64 (y : Int)]) (t := 3) (fr := (0, 0)) (heap_alloc_new wr _)) (by simp [Value.oneCell']) (by omega) (by unfold maxLen; omega) (by omega) (by simp; omega) (wr.heap.size + 1) (by simp) ?_; intro gg gcap w3 hown3 hgrow hat hlt3)
        have hB3 : Below w.heap.size w w3 := (hB.alloc hbw _).grown hgrow (by simp; omega) (fun k hk => (World.ownsRow.lt hown' k hk).1)
        have hO := OwnsN.snoc (y := y) hown3
        rw [HM0.out, hLl] at hO
        clear hown3 hgrow hat hown' hB hsg
        go_wp2
        go_roundw
        case rel => exact ⟨k + 1, M, by omega, by go_num, by rw [HS1.out]; congr 1 <;> omega, hO, HM, hB3⟩
        case measure => simp [intOf]; omega
    · have hk32 : k = 32 := by omega
      subst hk32
      have hLN : L = N := by rw [HL.out, List.take_of_length_le (by omega)]
      subst hLN
      have hlk : lackN L ≤ 480 := by have := lackN_le L; omega
      obtain ⟨S, hS⟩ : ∃ S, lackN L = S := ⟨_, rfl⟩
      rw [hS] at hlk ⊢
      have hown' : wr.ownsRow w.heap.size 3 1 u4 L.length (nCells L) := hown
      have hbw := hB.size
      obtain ⟨a, ha⟩ : ∃ a, nib S 2 = a := ⟨_, rfl⟩
      obtain ⟨b, hb⟩ : ∃ a, nib S 1 = a := ⟨_, rfl⟩
      obtain ⟨c, hc⟩ : ∃ a, nib S 0 = a := ⟨_, rfl⟩
      have ha16 : a < 16 := by rw [← ha]; exact nib_lt _ _
      have hb16 : b < 16 := by rw [← hb]; exact nib_lt _ _
      have hc16 : c < 16 := by rw [← hc]; exact nib_lt _ _
      have hq1 : ((S : Nat) : Int) / 256 = (a : Int) := by rw [← ha]; unfold nib; omega
      have hq2 : ((S : Nat) : Int) / 16 % 16 = (b : Int) := by rw [← hb]; unfold nib; omega
      have hq3 : ((S : Nat) : Int) % 16 = (c : Int) := by rw [← hc]; unfold nib; omega
      have HE : Hid (L ++ [a, b, c] = numL d) := by
        show _ = _
        rw [numL, HNE.out, hS, ← ha, ← hb, ← hc]; rfl
      clear ha hb hc hS
      go_wp2_with (at_builtin; refine wpList_append_lies _ (by rfl) _ _ _ (by rfl) w.heap.size 3 i0 _ 1 8 Tryd.underlying66 hinf hz0 hz1 hz2 rfl (by omega) u4 L.length (nCells L) (by rfl) (hown'.alloc _) ⟨wr.heap.size, 0, none⟩ 3 3 [.int .i64 (a : Int), .int .i64 (b : Int), .int .i64 (c : Int)] (by rfl) (by rfl) (World.news_of_block (cs := #[.int .i64 (a : Int), .int .i64 (b : Int), .int .i64 (c : Int)]) (t := 3) (fr := (0, 0)) (heap_alloc_new wr _)) (by simp [Value.oneCell']) (by omega) (by unfold maxLen; omega) (by omega) (by simp; omega) (wr.heap.size + 1) (by simp) ?_; intro gg gcap w3 hown3 hgrow hat hlt3)
      have hB3 : Below w.heap.size w w3 := (hB.alloc hbw _).grown hgrow (by simp; omega) (fun k hk => (World.ownsRow.lt hown' k hk).1)
      have hO : OwnsN w.heap.size (.slice (some ⟨gg, 0, none⟩) (L.length + 3) gcap) (L ++ [a, b, c]) w3 := by
        unfold OwnsN
        rw [nCells_append, List.length_append]
        exact hown3
      have hgg : w.heap.size ≤ gg := (World.ownsRow.lt hown3 gg rfl).1
      obtain ⟨g2, cap2, e2, h1, h2, h3, h4⟩ := hO.form (by simp)
      simp only [List.length_append, List.length_cons, List.length_nil, Value.slice.injEq, Option.some.injEq, Addr.mk.injEq, and_true, true_and] at e2
      obtain ⟨rfl, -, rfl⟩ := e2
      clear hown3 hgrow hat hown' hB hO
      go_wp2
      go_ret
      rw [HE.out] at h4
      exact ⟨gg, gcap, rfl, hgg, by simp [hNl] at h1; omega, h2, h4, hB3⟩
end

section
/-! The document's Walk, Begin, Of. -/
open Go.RowKit

set_option maxHeartbeats 2000000 in
set_option maxRecDepth 100000 in
theorem rwalk_any (n : Nat) (m : Int) (x v : D4) (w : World) (hx : x.ok) (hn : n ≤ 1000) (hm : (n : Int) = m) (hv : walkD x n = v) :
    Calls Tryd.prog 40 #[.agg #[.int .u32 x.d0, .int .u32 x.d1, .int .u32 x.d2, .int .u32 x.d3], .int .i64 m] w fun e w' => e = .returned (.agg #[.int .u32 v.d0, .int .u32 v.d1, .int .u32 v.d2, .int .u32 v.d3]) ∧ Below w.heap.size w w' := by
  subst hm
  have HV := Lib.hid hv
  have HX := Lib.hid hx
  obtain ⟨w0, hw0⟩ : ∃ w0, (w.alloc (.cells #[.int .u32 x.d0, .int .u32 x.d1, .int .u32 x.d2, .int .u32 x.d3] 24)).alloc (.cells #[.int .u32 0, .int .u32 0, .int .u32 0, .int .u32 0] 24) = w0 := ⟨_, rfl⟩
  obtain ⟨hA0, hR0, hB0⟩ := start46 x w w0 hw0
  clear hx hv
  go_enter Tryd.func40, Tryd.ntmps40
  go_wp2_with fail
  clear hw0
  go_loopw [5] (fun i wr => ∃ k : Nat, k ≤ n ∧ i = .int .i64 (k : Int) ∧ Arr .u32 24 w.heap.size (walkD x k).toL wr ∧ Arr .u32 24 (w.heap.size + 1) [0, 0, 0, 0] wr ∧ Below w.heap.size w wr) (fun i _ => n - (intOf i).toNat)
  case atStart => exact ⟨0, Nat.zero_le _, rfl, hA0, hR0, hB0⟩
  case round =>
    clear hA0 hR0 hB0
    obtain ⟨k, hk, rfl, hA, hR, hB⟩ := hrel
    obtain ⟨y, hy⟩ : ∃ y, walkD x k = y := ⟨_, rfl⟩
    rw [hy] at hA
    obtain ⟨l0, l1, l2, l3⟩ := Arr.c4 hA
    by_cases hlt : k < n
    · have hkd : decide ((k : Int) < (n : Int)) = true := by simp; omega
      have hyo : y.ok := by rw [← hy]; exact walkD_ok HX.out k
      obtain ⟨z, hz⟩ : ∃ z, pairS y oneD = z := ⟨_, rfl⟩
      have HZ : Hid (walkD x (k + 1) = z) := by show _ = _; rw [walkD, hy, hz]
      have HZ0 := Lib.hid hz
      have HYO := Lib.hid hyo
      clear hy hz hyo
      go_wp2_with fail
      refine (rpair_step y z wr HYO.out HZ0.out).mono ?_
      rintro e w1 ⟨rfl, hD⟩
      have hA1 := hA.on hD
      have hR1 := hR.on hD
      have hB1 := hB.trans (hD.mono hB.size)
      clear hA hR hB hD l0 l1 l2 l3
      obtain ⟨k0, k1, k2, k3⟩ := Arr.c4 hA1
      obtain ⟨f0, f1, f2, f3⟩ := hA1.f4
      have hA2 := put4 (d := z) hA1 rfl
      have hR2 := far4 hR1 (show w.heap.size + 1 ≠ w.heap.size by omega) z
      have hB2 := below_put4 hB1 (Nat.le_refl _) z
      go_wp2_with fail
      generalize (((w1.setCell ⟨w.heap.size, 0, none⟩ (.int .u32 z.d0)).setCell ⟨w.heap.size, 1, none⟩ (.int .u32 z.d1)).setCell ⟨w.heap.size, 2, none⟩ (.int .u32 z.d2)).setCell ⟨w.heap.size, 3, none⟩ (.int .u32 z.d3) = w2 at *
      go_roundw
      case rel => exact ⟨k + 1, by omega, by go_num, by rw [HZ.out]; exact hA2, hR2, hB2⟩
      case measure => simp [intOf]; omega
    · have hkn : k = n := by omega
      subst hkn
      have HY : Hid (v = y) := by show _ = _; rw [← hy, HV.out]
      obtain ⟨b0, b1, b2, b3⟩ := Arr.c4 (d := zeroD) hR
      obtain ⟨f0, f1, f2, f3⟩ := hR.f4
      have hRf := put4 (d := y) hR rfl
      have hBf := below_put4 hB (show w.heap.size ≤ w.heap.size + 1 by omega) y
      clear hy
      go_wp2_with fail
      generalize (((wr.setCell ⟨w.heap.size + 1, 0, none⟩ (.int .u32 y.d0)).setCell ⟨w.heap.size + 1, 1, none⟩ (.int .u32 y.d1)).setCell ⟨w.heap.size + 1, 2, none⟩ (.int .u32 y.d2)).setCell ⟨w.heap.size + 1, 3, none⟩ (.int .u32 y.d3) = wf at *
      obtain ⟨r0, r1, r2, r3⟩ := hRf.c4
      refine bodyPost_ret (v := y.val) (by simp [results, Tryd.results40, go_sem, D4.val, r0, r1, r2, r3]) rfl ⟨by rw [HY.out]; rfl, hBf⟩
set_option maxHeartbeats 2000000 in
set_option maxRecDepth 100000 in
theorem rbegin_any (seed z : D4) (i : Nat) (w : World) (hs : seed.ok) (hi : i ≤ 1000) (hz : beginD seed i = z) :
    Calls Tryd.prog 43 #[.agg #[.int .u32 seed.d0, .int .u32 seed.d1, .int .u32 seed.d2, .int .u32 seed.d3], .int .i64 (i : Int)] w fun e w' => e = .returned (.agg #[.int .u32 z.d0, .int .u32 z.d1, .int .u32 z.d2, .int .u32 z.d3]) ∧ Below w.heap.size w w' := by
  obtain ⟨w0, hw0⟩ : ∃ w0, (w.alloc (.cells #[.int .u32 seed.d0, .int .u32 seed.d1, .int .u32 seed.d2, .int .u32 seed.d3] 24)).alloc (.cells #[.int .u32 0, .int .u32 0, .int .u32 0, .int .u32 0] 24) = w0 := ⟨_, rfl⟩
  obtain ⟨hA0, hR0, hB0⟩ := start46 seed w w0 hw0
  have hwr := wrap_idx i hi
  have HZ : Hid (pairS seed (idxD i) = z) := hz
  obtain ⟨l0, l1, l2, l3⟩ := Arr.c4 hA0
  clear hz
  go_enter Tryd.func43, Tryd.ntmps43
  go_wp2_with fail
  clear hw0
  refine (rpair_val seed (idxD i) z w0 hs (idxD_ok (by omega)) HZ.out).mono ?_
  rintro e w1 ⟨rfl, hD⟩
  have hR1 := hR0.on hD
  have hB1 := hB0.trans (hD.mono hB0.size)
  obtain ⟨b0, b1, b2, b3⟩ := Arr.c4 (d := zeroD) hR1
  obtain ⟨f0, f1, f2, f3⟩ := hR1.f4
  have hRf := put4 (d := z) hR1 rfl
  have hBf := below_put4 hB1 (show w.heap.size ≤ w.heap.size + 1 by omega) z
  clear hA0 hR0 hB0 hD l0 l1 l2 l3
  go_wp2_with fail
  generalize (((w1.setCell ⟨w.heap.size + 1, 0, none⟩ (.int .u32 z.d0)).setCell ⟨w.heap.size + 1, 1, none⟩ (.int .u32 z.d1)).setCell ⟨w.heap.size + 1, 2, none⟩ (.int .u32 z.d2)).setCell ⟨w.heap.size + 1, 3, none⟩ (.int .u32 z.d3) = wf at *
  obtain ⟨r0, r1, r2, r3⟩ := hRf.c4
  refine bodyPost_ret (v := z.val) (by simp [results, Tryd.results43, go_sem, D4.val, r0, r1, r2, r3]) rfl ⟨rfl, hBf⟩
end

section
/-! The document's Of. -/
open Go.RowKit

set_option maxHeartbeats 4000000 in
set_option maxRecDepth 100000 in
theorem rof_list (l : List D4) (v : D4) (p : Option Addr) (n cap : Nat) (w : World) (hl : allD4 l) (hn : l.length = n) (hn1 : n ≤ 1000) (hr : RdS w p l) (hc : n ≤ cap) (hm : cap ≤ maxLen) (hv : endsD l = v) :
    Calls Tryd.prog 41 #[.slice p n cap] w fun e w' => e = .returned (.agg #[.int .u32 v.d0, .int .u32 v.d1, .int .u32 v.d2, .int .u32 v.d3]) ∧ Below w.heap.size w w' := by
  unfold maxLen at hm
  obtain ⟨w0, hw0⟩ : ∃ w0, (w.alloc (.cells #[.int .u32 0, .int .u32 0, .int .u32 0, .int .u32 0] 24)).alloc (.cells #[.int .u32 0, .int .u32 0, .int .u32 0, .int .u32 0] 24) = w0 := ⟨_, rfl⟩
  obtain ⟨hRq, hKq, hBq⟩ := start45 zeroD w w0 hw0
  obtain ⟨k0, k1, k2, k3⟩ := Arr.c4 (d := zeroD) hKq
  obtain ⟨f0, f1, f2, f3⟩ := hKq.f4
  have hK0 := put4 (d := k35) hKq rfl
  have hR0 := far4 hRq (show w.heap.size ≠ w.heap.size + 1 by omega) k35
  have hB0 := below_put4 hBq (show w.heap.size ≤ w.heap.size + 1 by omega) k35
  simp only [k35] at hK0 hR0 hB0
  have HV := Lib.hid hv
  have HL := Lib.hid hl
  have HN := Lib.hid hn
  clear hRq hKq hBq hv hl hn
  go_enter Tryd.func41, Tryd.ntmps41
  go_wp2_with fail
  clear hw0 k0 k1 k2 k3 f0 f1 f2 f3
  generalize (((w0.setCell ⟨w.heap.size + 1, 0, none⟩ (.int .u32 35)).setCell ⟨w.heap.size + 1, 1, none⟩ (.int .u32 0)).setCell ⟨w.heap.size + 1, 2, none⟩ (.int .u32 0)).setCell ⟨w.heap.size + 1, 3, none⟩ (.int .u32 0) = wz at *
  go_loopw [4] (fun i wr => ∃ k : Nat, k ≤ n ∧ i = .int .i64 (k : Int) ∧ Arr .u32 24 (w.heap.size + 1) ((l.take k).foldl pairS k35).toL wr ∧ Arr .u32 24 w.heap.size [0, 0, 0, 0] wr ∧ Below w.heap.size w wr) (fun i _ => n - (intOf i).toNat)
  case atStart => exact ⟨0, Nat.zero_le _, rfl, hK0, hR0, hB0⟩
  case round =>
    clear hK0 hR0 hB0
    obtain ⟨k, hk, rfl, hK, hR, hB⟩ := hrel
    obtain ⟨y, hy⟩ : ∃ y, (l.take k).foldl pairS k35 = y := ⟨_, rfl⟩
    rw [hy] at hK
    by_cases hlt : k < n
    · have hkd : decide ((k : Int) < (n : Int)) = true := by simp; omega
      have hkl : k < l.length := by have := HN.out; omega
      have hk0 : (0 : Int) ≤ (k : Int) := by omega
      have hk1 : (k : Int) < (n : Int) := by omega
      have hyo : y.ok := by rw [← hy]; exact foldl_ok _ _ k35_ok (HL.out.take k)
      obtain ⟨b, o, rfl, hrd⟩ := hr (by intro e; subst e; simp at hkl)
      obtain ⟨c0, c1, c2, c3⟩ := (hrd.thr hB hrd.1 hB.size).2 k hkl
      obtain ⟨x, hx⟩ : ∃ x, l.getD k zeroD = x := ⟨_, rfl⟩
      have hxo : x.ok := by rw [← hx]; exact getD_ok HL.out k
      obtain ⟨z, hz⟩ : ∃ z, pairS y x = z := ⟨_, rfl⟩
      have HZ : Hid ((l.take (k + 1)).foldl pairS k35 = z) := by show _ = _; rw [fold_next l _ k hkl, hy, hx, hz]
      have HZ0 := Lib.hid hz
      rw [hx] at c0 c1 c2 c3
      have HYO := Lib.hid hyo
      have HXO := Lib.hid hxo
      obtain ⟨l0, l1, l2, l3⟩ := Arr.c4 hK
      clear hy hz hyo hx hxo
      go_wp2_with fail
      go_region_with (go_at_call 42; refine (rpair_val y x z _ HYO.out HXO.out HZ0.out).mono ?_; rintro e w3 ⟨rfl, hD⟩; have hK3 := (show Arr .u32 24 (w.heap.size + 1) y.toL wr.drew from hK).on hD; obtain ⟨k0, k1, k2, k3⟩ := Arr.c4 hK3; obtain ⟨f0, f1, f2, f3⟩ := hK3.f4)
      all_goals
        have hB3 := hB.drew.trans (hD.mono hB.size)
        have hR3 := (show Arr .u32 24 w.heap.size [0, 0, 0, 0] wr.drew from hR).on hD
        have hK4 := put4 (d := z) hK3 rfl
        have hR4 := far4 hR3 (show w.heap.size ≠ w.heap.size + 1 by omega) z
        have hB4 := below_put4 hB3 (show w.heap.size ≤ w.heap.size + 1 by omega) z
        generalize (((w3.setCell ⟨w.heap.size + 1, 0, none⟩ (.int .u32 z.d0)).setCell ⟨w.heap.size + 1, 1, none⟩ (.int .u32 z.d1)).setCell ⟨w.heap.size + 1, 2, none⟩ (.int .u32 z.d2)).setCell ⟨w.heap.size + 1, 3, none⟩ (.int .u32 z.d3) = w4 at *
        clear hK hR hB hD hK3 hR3 hB3 k0 k1 k2 k3 f0 f1 f2 f3 l0 l1 l2 l3 c0 c1 c2 c3
        go_wp2_with fail
        go_roundw
        case rel => exact ⟨k + 1, by omega, by go_num, by rw [HZ.out]; exact hK4, hR4, hB4⟩
        case measure => simp [intOf]; omega
    · have hkn : k = n := by omega
      subst hkn
      have HY : Hid (v = y) := by
        show _ = _
        rw [← hy, List.take_of_length_le (by have := HN.out; omega), ← HV.out, endsD]
      clear hy
      obtain ⟨l0, l1, l2, l3⟩ := Arr.c4 hK
      obtain ⟨b0, b1, b2, b3⟩ := Arr.c4 (d := zeroD) hR
      obtain ⟨f0, f1, f2, f3⟩ := hR.f4
      have hRf := put4 (d := y) hR rfl
      have hBf := below_put4 hB (Nat.le_refl _) y
      go_wp2_with fail
      generalize (((wr.setCell ⟨w.heap.size, 0, none⟩ (.int .u32 y.d0)).setCell ⟨w.heap.size, 1, none⟩ (.int .u32 y.d1)).setCell ⟨w.heap.size, 2, none⟩ (.int .u32 y.d2)).setCell ⟨w.heap.size, 3, none⟩ (.int .u32 y.d3) = wf at *
      obtain ⟨r0, r1, r2, r3⟩ := hRf.c4
      refine bodyPost_ret (v := y.val) (by simp [results, Tryd.results41, go_sem, D4.val, r0, r1, r2, r3]) rfl ⟨by rw [HY.out]; rfl, hBf⟩
end

section
/-! The document's Public, Sign, Reach. -/
open Go.RowKit

theorem keep5 {B b1 o1 b2 o2 : Nat} {W w' : World} {u : Int} {x : D4} (h : Below B W w') (h1 : b1 < B) (h2 : b2 < B) (f : W.cell? ⟨b1, o1, none⟩ = some (.int .i64 u) ∧ W.cell? ⟨b2, o2, none⟩ = some (.int .u32 x.d0) ∧ W.cell? ⟨b2, o2 + 1, none⟩ = some (.int .u32 x.d1) ∧ W.cell? ⟨b2, o2 + 2, none⟩ = some (.int .u32 x.d2) ∧ W.cell? ⟨b2, o2 + 3, none⟩ = some (.int .u32 x.d3)) :
    w'.cell? ⟨b1, o1, none⟩ = some (.int .i64 u) ∧ w'.cell? ⟨b2, o2, none⟩ = some (.int .u32 x.d0) ∧ w'.cell? ⟨b2, o2 + 1, none⟩ = some (.int .u32 x.d1) ∧ w'.cell? ⟨b2, o2 + 2, none⟩ = some (.int .u32 x.d2) ∧ w'.cell? ⟨b2, o2 + 3, none⟩ = some (.int .u32 x.d3) := by
  obtain ⟨f0, f1, f2, f3, f4⟩ := f
  exact ⟨by rw [h.cell (p := ⟨_, _, none⟩) h1]; exact f0, by rw [h.cell (p := ⟨_, _, none⟩) h2]; exact f1, by rw [h.cell (p := ⟨_, _, none⟩) h2]; exact f2, by rw [h.cell (p := ⟨_, _, none⟩) h2]; exact f3, by rw [h.cell (p := ⟨_, _, none⟩) h2]; exact f4⟩
theorem OwnsD.lt {B : Nat} {v : Value} {l : List D4} {w : World} (h : OwnsD B v l w) {k : Nat} (hk : v.ownBlock = some k) : B ≤ k := (World.ownsRow.lt h k hk).1
theorem rsteps_val (d : D4) (N : List Nat) (w : World) (hd : d.ok) (hN : numL d = N) :
    Calls Tryd.prog 39 #[.agg #[.int .u32 d.d0, .int .u32 d.d1, .int .u32 d.d2, .int .u32 d.d3]] w fun e w' => ∃ g cap, e = .returned (.slice (some ⟨g, 0, none⟩) 35 cap) ∧ w.heap.size ≤ g ∧ 35 ≤ cap ∧ cap ≤ maxLen ∧ RdN w' g N ∧ Below w.heap.size w w' := by
  subst hN; exact rsteps_any d w hd

set_option maxHeartbeats 2000000 in
set_option maxRecDepth 100000 in
theorem rpublic_any (seed v : D4) (w : World) (hs : seed.ok) (hv : publicD seed = v) :
    Calls Tryd.prog 24 #[.agg #[.int .u32 seed.d0, .int .u32 seed.d1, .int .u32 seed.d2, .int .u32 seed.d3]] w fun e w' => e = .returned (.agg #[.int .u32 v.d0, .int .u32 v.d1, .int .u32 v.d2, .int .u32 v.d3]) ∧ Below w.heap.size w w' := by
  obtain ⟨i0, hinf, hz0, hz1, hz2⟩ := info_parts info_dg
  obtain ⟨f, hf⟩ : ∃ f, (fun i => walkD (beginD seed i) 15) = f := ⟨_, rfl⟩
  have HV : Hid (endsD (mapR f 35) = v) := by show _ = _; rw [← hv, publicD, hf]
  have HF : Hid (∀ i, f i = walkD (beginD seed i) 15) := fun i => by rw [← hf]
  obtain ⟨w0, hw0⟩ : ∃ w0, (w.alloc (.cells #[.int .u32 seed.d0, .int .u32 seed.d1, .int .u32 seed.d2, .int .u32 seed.d3] 24)).alloc (.cells #[.int .u32 0, .int .u32 0, .int .u32 0, .int .u32 0] 24) = w0 := ⟨_, rfl⟩
  obtain ⟨hS0, hR0, hB0⟩ := start46 seed w w0 hw0
  have hs1 := hS0.lt
  have hs2 := hR0.lt
  clear hv hf
  go_enter Tryd.func24, Tryd.ntmps24
  go_wp2_with fail
  clear hw0
  go_loopw [3, 4] (fun v i wr => ∃ k : Nat, k ≤ 35 ∧ i = .int .i64 (k : Int) ∧ OwnsD w0.heap.size v (mapR f k) wr ∧ Below w0.heap.size w0 wr) (fun _ i _ => 35 - (intOf i).toNat)
  case atStart => exact ⟨0, Nat.zero_le _, rfl, OwnsD.nil _ _, Below.refl _ _⟩
  case round =>
    obtain ⟨k, hk, rfl, hO, hC⟩ := hrel
    have hS := hS0.thr hC hs1
    obtain ⟨l0, l1, l2, l3⟩ := Arr.c4 hS
    by_cases hlt : k < 35
    · have hkd : decide ((k : Int) < 35) = true := by simp; omega
      obtain ⟨z, hz⟩ : ∃ z, beginD seed k = z := ⟨_, rfl⟩
      have hzo : z.ok := by rw [← hz]; exact beginD_ok hs (by omega)
      obtain ⟨y, hy⟩ : ∃ y, walkD z 15 = y := ⟨_, rfl⟩
      have HY : Hid (f k = y) := by show _ = _; rw [HF.out k, hz, hy]
      have HZ0 := Lib.hid hz
      have HY0 := Lib.hid hy
      have HZO := Lib.hid hzo
      have hml := mapR_len f k
      clear hz hy hzo
      go_wp2_with fail
      refine (rbegin_any seed z k wr hs (by omega) HZ0.out).mono ?_
      rintro e w1 ⟨rfl, hD⟩
      go_wp2_with fail
      refine (rwalk_any 15 15 z y w1 HZO.out (by omega) rfl HY0.out).mono ?_
      rintro e w2 ⟨rfl, hE⟩
      have hD2 := hD.trans (hE.mono hD.size)
      have hO2 := hO.on hD2
      have hC2 := hC.trans (hD2.mono hC.size)
      have hown2 : w2.ownsRow w0.heap.size 24 4 u3 (mapR f k).length (dCells (mapR f k)) := hO2
      have hbw := hC2.size
      clear hS hD hE hO hC hD2 l0 l1 l2 l3
      go_wp2_with (at_builtin; refine wpList_append_lies _ (by rfl) _ _ _ (by rfl) w0.heap.size 24 i0 _ 4 16 Tryd.underlying35 hinf hz0 hz1 hz2 rfl (by omega) u3 (mapR f k).length (dCells (mapR f k)) (by rfl) (hown2.alloc _) ⟨w2.heap.size, 0, none⟩ 1 1 [.int .u32 y.d0, .int .u32 y.d1, .int .u32 y.d2, .int .u32 y.d3] (by rfl) (by rfl) (World.news_of_block (cs := #[.int .u32 y.d0, .int .u32 y.d1, .int .u32 y.d2, .int .u32 y.d3]) (t := 24) (fr := (0, 0)) (heap_alloc_new w2 _)) (by simp [Value.oneCell']) (by omega) (by unfold maxLen; omega) (by omega) (by simp; omega) (w2.heap.size + 1) (by simp) ?_; intro gg gcap w3 hown3 hgrow hat hlt3)
      have hC3 : Below w0.heap.size w0 w3 := (hC2.alloc hbw _).grown hgrow (by simp; omega) (fun k hk => (World.ownsRow.lt hown2 k hk).1)
      have hO3 := OwnsD.snoc (d := y) hown3
      rw [← HY.out, ← mapR_succ, hml] at hO3
      clear hown3 hgrow hat hown2 hO2 hC2
      go_wp2
      go_roundw
      case rel => exact ⟨k + 1, by omega, by go_num, hO3, hC3⟩
      case measure => simp [intOf]; omega
    · have hk35 : k = 35 := by omega
      subst hk35
      obtain ⟨p, cap, rfl, hc, hm, hrd⟩ := hO.form
      have hml := mapR_len f 35
      rw [hml] at hc ⊢
      have hR := hR0.thr hC hs2
      have hB := hB0.trans (hC.mono hB0.size)
      have hok : allD4 (mapR f 35) := mapR_ok fun i _ => by rw [HF.out i]; exact walkD_ok (beginD_ok hs (by omega)) _
      have HOK := Lib.hid hok
      have HML := Lib.hid hml
      clear hO hS hC l0 l1 l2 l3 hok hml
      go_wp2_with fail
      refine (rof_list (mapR f 35) v p 35 cap wr HOK.out HML.out (by omega) hrd hc hm HV.out).mono ?_
      rintro e w2 ⟨rfl, hE⟩
      have hR2 := hR.on hE
      have hB2 := hB.trans (hE.mono hB.size)
      obtain ⟨b0, b1, b2, b3⟩ := Arr.c4 (d := zeroD) hR2
      obtain ⟨f0, f1, f2, f3⟩ := hR2.f4
      have hRf := put4 (d := v) hR2 rfl
      have hBf := below_put4 hB2 (show w.heap.size ≤ w.heap.size + 1 by omega) v
      clear hR hB hR2 hB2 hE hrd
      go_wp2_with fail
      generalize (((w2.setCell ⟨w.heap.size + 1, 0, none⟩ (.int .u32 v.d0)).setCell ⟨w.heap.size + 1, 1, none⟩ (.int .u32 v.d1)).setCell ⟨w.heap.size + 1, 2, none⟩ (.int .u32 v.d2)).setCell ⟨w.heap.size + 1, 3, none⟩ (.int .u32 v.d3) = wf at *
      obtain ⟨r0, r1, r2, r3⟩ := hRf.c4
      refine bodyPost_ret (v := v.val) (by simp [results, Tryd.results24, go_sem, D4.val, r0, r1, r2, r3]) rfl ⟨rfl, hBf⟩
end

section
/-! The document's Sign. -/
open Go.RowKit

theorem OwnsD.lower {B B' : Nat} {v : Value} {l : List D4} {w : World} (h : OwnsD B v l w) (hB : B' ≤ B) : OwnsD B' v l w := by
  refine ⟨h.1, ?_⟩
  rcases h.2 with q | ⟨g, cap, cur, hv, hb, q⟩
  · exact .inl q
  · exact .inr ⟨g, cap, cur, hv, Nat.le_trans hB hb, q⟩
/-- A store into a block below leaves such a row alone. -/
theorem OwnsD.far {B : Nat} {v : Value} {l : List D4} {w : World} (h : OwnsD B v l w) {a : Addr} (ha : a.block < B) (u : Value) : OwnsD B v l (w.setCell a u) := by
  refine ⟨h.1, ?_⟩
  rcases h.2 with q | ⟨g, cap, cur, hv, hb, hg, q⟩
  · exact .inl q
  · refine .inr ⟨g, cap, cur, hv, hb, ?_, q⟩
    rw [heap_setCell_other w a g u (by omega)]
    exact hg
set_option maxHeartbeats 4000000 in
set_option maxRecDepth 100000 in
theorem rsign_own (seed msg : D4) (L : List D4) (w : World) (hs : seed.ok) (hmo : msg.ok) (hL : signL seed msg = L) :
    Calls Tryd.prog 34 #[.agg #[.int .u32 seed.d0, .int .u32 seed.d1, .int .u32 seed.d2, .int .u32 seed.d3], .agg #[.int .u32 msg.d0, .int .u32 msg.d1, .int .u32 msg.d2, .int .u32 msg.d3]] w fun e w' => ∃ v, e = .returned v ∧ OwnsD w.heap.size v L w' ∧ Below w.heap.size w w' := by
  obtain ⟨i0, hinf, hz0, hz1, hz2⟩ := info_parts info_dg
  obtain ⟨N, hN⟩ : ∃ N, numL msg = N := ⟨_, rfl⟩
  have hNl : N.length = 35 := by rw [← hN, numL_len]
  have HNl : Hid (∀ i, num msg i = N.getD i 0) := fun i => by rw [num, hN]
  have HNe := Lib.hid hN
  obtain ⟨f, hf⟩ : ∃ f, (fun i => walkD (beginD seed i) (num msg i)) = f := ⟨_, rfl⟩
  have HV : Hid (mapR f 35 = L) := by show _ = _; rw [← hL, signL, hf]
  have HF : Hid (∀ i, f i = walkD (beginD seed i) (num msg i)) := fun i => by rw [← hf]
  obtain ⟨w0, hw0⟩ : ∃ w0, (w.alloc (.cells #[.int .u32 seed.d0, .int .u32 seed.d1, .int .u32 seed.d2, .int .u32 seed.d3] 24)).alloc (.cells #[.int .u32 msg.d0, .int .u32 msg.d1, .int .u32 msg.d2, .int .u32 msg.d3] 24) = w0 := ⟨_, rfl⟩
  obtain ⟨hS0, hR0, hB0⟩ := start47 seed msg w w0 hw0
  have hs1 := hS0.lt
  obtain ⟨m0, m1, m2, m3⟩ := Arr.c4 hR0
  clear hL hf hN
  go_enter Tryd.func34, Tryd.ntmps34
  go_wp2_with fail
  clear hw0
  refine (rsteps_val msg N w0 hmo HNe.out).mono ?_
  rintro e w1 ⟨g, cap, rfl, hgl, hcap, hcm, hRN1, hD⟩
  have hS1 := hS0.on hD
  have hB1 := hB0.trans (hD.mono hB0.size)
  have hs01 := hD.size
  have hg1 := hRN1.1
  clear m0 m1 m2 m3 hD hS0 hR0 hB0
  go_wp2_with fail
  go_loopw [6, 7] (fun v i wr => ∃ k : Nat, k ≤ 35 ∧ i = .int .i64 (k : Int) ∧ OwnsD w1.heap.size v (mapR f k) wr ∧ Below w1.heap.size w1 wr) (fun _ i _ => 35 - (intOf i).toNat)
  case atStart => exact ⟨0, Nat.zero_le _, rfl, OwnsD.nil _ _, Below.refl _ _⟩
  case round =>
    obtain ⟨k, hk, rfl, hO, hC⟩ := hrel
    by_cases hlt : k < 35
    · have hkd : decide ((k : Int) < 35) = true := by simp; omega
      have hk0 : (0 : Int) ≤ (k : Int) := by omega
      have hk1 : (k : Int) < 35 := by omega
      have hn15 := num_le msg k
      rw [HNl.out k] at hn15
      have hcN := (hRN1.thr hC hg1 hC.size).2 k (by omega)
      obtain ⟨l0, l1, l2, l3⟩ := Arr.c4 (hS1.thr hC (by omega))
      obtain ⟨n, hn⟩ : ∃ n, N.getD k 0 = n := ⟨_, rfl⟩
      rw [hn] at hcN hn15
      obtain ⟨z, hz⟩ : ∃ z, beginD seed k = z := ⟨_, rfl⟩
      have hzo : z.ok := by rw [← hz]; exact beginD_ok hs (by omega)
      obtain ⟨y, hy⟩ : ∃ y, walkD z n = y := ⟨_, rfl⟩
      have HY : Hid (f k = y) := by show _ = _; rw [HF.out k, HNl.out k, hn, hz, hy]
      have HZ0 := Lib.hid hz
      have HY0 := Lib.hid hy
      have HZO := Lib.hid hzo
      have hml := mapR_len f k
      clear hz hy hzo hn
      have HS0 : Hid (wr.drew.cell? ⟨g, k, none⟩ = some (.int .i64 (n : Int)) ∧ wr.drew.cell? ⟨w.heap.size, 0, none⟩ = some (.int .u32 seed.d0) ∧ wr.drew.cell? ⟨w.heap.size, 0 + 1, none⟩ = some (.int .u32 seed.d1) ∧ wr.drew.cell? ⟨w.heap.size, 0 + 2, none⟩ = some (.int .u32 seed.d2) ∧ wr.drew.cell? ⟨w.heap.size, 0 + 3, none⟩ = some (.int .u32 seed.d3)) := ⟨hcN, l0, l1, l2, l3⟩
      have hb1 : g < w1.heap.size := hg1
      have hb2 : w.heap.size < w1.heap.size := by omega
      have hOd : OwnsD w1.heap.size u6 (mapR f k) wr.drew := hO
      have hbw : w1.heap.size ≤ wr.drew.heap.size := hC.size
      go_wp2_with fail
      go_region_held3 (fun w' => w'.cell? ⟨g, k, none⟩ = some (.int .i64 (n : Int)) ∧ w'.cell? ⟨w.heap.size, 0, none⟩ = some (.int .u32 seed.d0) ∧ w'.cell? ⟨w.heap.size, 1, none⟩ = some (.int .u32 seed.d1) ∧ w'.cell? ⟨w.heap.size, 2, none⟩ = some (.int .u32 seed.d2) ∧ w'.cell? ⟨w.heap.size, 3, none⟩ = some (.int .u32 seed.d3))
        (first
          | exact keep5 hC5 hb1 hb2 HS0.out
          | exact keep5 (hC4.alloc hb4 _) hb1 hb2 HS0.out
          | exact keep5 hC4 hb1 hb2 HS0.out
          | exact keep5 hC3 hb1 hb2 HS0.out
          | exact HS0.out)
        (first
          | (go_at_call 43; (with_reducible refine (rbegin_any seed z k _ hs (by omega) HZ0.out).mono ?_); rintro e w3 ⟨rfl, hD3⟩; have hC3 : Below w1.heap.size wr.drew w3 := hD3.mono hbw; have hO3 := hOd.on hD3; have hb3 := Nat.le_trans hbw hD3.size)
          | (go_at_call 40; (with_reducible refine (rwalk_any n _ z y _ HZO.out (by omega) rfl HY0.out).mono ?_); rintro e w4 ⟨rfl, hD4⟩; have hC4 : Below w1.heap.size wr.drew w4 := hC3.trans (hD4.mono hb3); have hO4 : w4.ownsRow w1.heap.size 24 4 u6 (mapR f k).length (dCells (mapR f k)) := hO3.on hD4; have hb4 := Nat.le_trans hb3 hD4.size)
          | (refine step_append_lies _ (by rfl) _ _ _ (by rfl) w1.heap.size 24 i0 _ 4 16 Tryd.underlying36 hinf hz0 hz1 hz2 rfl (by omega) u6 (mapR f k).length (dCells (mapR f k)) (by rfl) (hO4.alloc _) ⟨w4.heap.size, 0, none⟩ 1 1 [.int .u32 y.d0, .int .u32 y.d1, .int .u32 y.d2, .int .u32 y.d3] (by rfl) (by rfl) (World.news_of_block (cs := #[.int .u32 y.d0, .int .u32 y.d1, .int .u32 y.d2, .int .u32 y.d3]) (t := 24) (fr := (0, 0)) (heap_alloc_new w4 _)) (by simp [Value.oneCell']) (by omega) (by unfold maxLen; omega) (by omega) (by simp; omega) (w4.heap.size + 1) (by simp) ?_; intro gg gcap w5 hown5 hgrow hat hlt5; have hC5 : Below w1.heap.size wr.drew w5 := (hC4.alloc hb4 _).grown hgrow (by simp; omega) (fun k hk => (World.ownsRow.lt hO4 k hk).1)))
      all_goals
        have hO5 := OwnsD.snoc (d := y) hown5
        rw [← HY.out, ← mapR_succ, hml] at hO5
        have hCf := hC.drew.trans hC5
        clear hown5 hgrow hat hO4 hC4 hO3 hC3 hD3 hD4 hOd hO hC
        go_wp2_with fail
        go_roundw
        case rel => exact ⟨k + 1, by omega, by go_num, hO5, hCf⟩
        case measure => simp [intOf]; omega
    · have hk35 : k = 35 := by omega
      subst hk35
      rw [HV.out] at hO
      have hB := hB1.trans (hC.mono hB1.size)
      have hO2 := hO.lower hB1.size
      clear hO
      go_wp2_with fail
      go_ret
      exact ⟨_, rfl, hO2, hB⟩
theorem rsign_any (seed msg : D4) (L : List D4) (w : World) (hs : seed.ok) (hmo : msg.ok) (hL : signL seed msg = L) :
    Calls Tryd.prog 34 #[.agg #[.int .u32 seed.d0, .int .u32 seed.d1, .int .u32 seed.d2, .int .u32 seed.d3], .agg #[.int .u32 msg.d0, .int .u32 msg.d1, .int .u32 msg.d2, .int .u32 msg.d3]] w fun e w' => ∃ p c, e = .returned (.slice p 35 c) ∧ 35 ≤ c ∧ c ≤ maxLen ∧ RdS w' p L ∧ Below w.heap.size w w' := by
  refine (rsign_own seed msg L w hs hmo hL).mono ?_
  rintro e w' ⟨v, rfl, hO, hB⟩
  obtain ⟨p, c, rfl, h1, h2, h3⟩ := hO.form
  have hl : L.length = 35 := by rw [← hL, signL_len]
  rw [hl] at h1 ⊢
  exact ⟨p, c, rfl, h1, h2, h3, hB⟩
end

section
/-! The document's Reach and Check. -/
open Go.RowKit

set_option maxHeartbeats 4000000 in
set_option maxRecDepth 100000 in
theorem rreach_yes (msg v : D4) (S : List D4) (bs o scap : Nat) (w : World) (hmo : msg.ok) (hSo : allD4 S) (hSl : S.length = 35) (hr : RdL w bs o S) (_hsc : 35 ≤ scap) (_hscm : scap ≤ maxLen) (hv : reachD msg S = v) :
    Calls Tryd.prog 21 #[.agg #[.int .u32 msg.d0, .int .u32 msg.d1, .int .u32 msg.d2, .int .u32 msg.d3], .slice (some ⟨bs, o, none⟩) 35 scap] w fun e w' => e = .returned (.tuple #[v.val, .bool true]) ∧ Below w.heap.size w w' := by
  obtain ⟨i0, hinf, hz0, hz1, hz2⟩ := info_parts info_dg
  have hbl := hr.1
  unfold maxLen at _hscm
  obtain ⟨N, hN⟩ : ∃ N, numL msg = N := ⟨_, rfl⟩
  have hNl : N.length = 35 := by rw [← hN, numL_len]
  have HNl : Hid (∀ i, num msg i = N.getD i 0) := fun i => by rw [num, hN]
  have HNe := Lib.hid hN
  obtain ⟨f, hf⟩ : ∃ f, (fun i => walkD (S.getD i zeroD) (15 - num msg i)) = f := ⟨_, rfl⟩
  have HV : Hid (endsD (mapR f 35) = v) := by show _ = _; rw [← hv, reachD, hf]
  have HF : Hid (∀ i, f i = walkD (S.getD i zeroD) (15 - num msg i)) := fun i => by rw [← hf]
  obtain ⟨w0, hw0⟩ : ∃ w0, (w.alloc (.cells #[.int .u32 msg.d0, .int .u32 msg.d1, .int .u32 msg.d2, .int .u32 msg.d3] 24)).alloc (.cells #[.int .u32 0, .int .u32 0, .int .u32 0, .int .u32 0] 24) = w0 := ⟨_, rfl⟩
  obtain ⟨hM0, hR0, hB0⟩ := start46 msg w w0 hw0
  have hr0 := hr.on hB0
  have hs2 := hR0.lt
  obtain ⟨m0, m1, m2, m3⟩ := Arr.c4 hM0
  have HSo := Lib.hid hSo
  have HSl := Lib.hid hSl
  clear hv hf hN hr hSo hSl
  go_enter Tryd.func21, Tryd.ntmps21
  go_wp2_with fail
  clear hw0
  refine (rsteps_val msg N w0 hmo HNe.out).mono ?_
  rintro e w1 ⟨g, cap, rfl, hgl, hcap, hcm, hRN1, hD⟩
  have hr1 := hr0.on hD
  have hR1 := hR0.on hD
  have hB1 := hB0.trans (hD.mono hB0.size)
  have hs01 := hD.size
  have hg1 := hRN1.1
  unfold maxLen at hcm
  clear m0 m1 m2 m3 hD hM0 hR0 hB0 hr0
  go_wp2_with fail
  go_loopw [7, 8] (fun v i wr => ∃ k : Nat, k ≤ 35 ∧ i = .int .i64 (k : Int) ∧ OwnsD w1.heap.size v (mapR f k) wr ∧ Below w1.heap.size w1 wr) (fun _ i _ => 35 - (intOf i).toNat)
  case atStart => exact ⟨0, Nat.zero_le _, rfl, OwnsD.nil _ _, Below.refl _ _⟩
  case round =>
    obtain ⟨k, hk, rfl, hO, hC⟩ := hrel
    by_cases hlt : k < 35
    · have hkd : decide ((k : Int) < 35) = true := by simp; omega
      have hk0 : (0 : Int) ≤ (k : Int) := by omega
      have hk1 : (k : Int) < 35 := by omega
      have hn15 := num_le msg k
      rw [HNl.out k] at hn15
      have hcN := (hRN1.thr hC hg1 hC.size).2 k (by omega)
      obtain ⟨l0, l1, l2, l3⟩ := (hr1.thr hC hr1.1 hC.size).2 k (by rw [HSl.out]; exact hlt)
      obtain ⟨n, hn⟩ : ∃ n, N.getD k 0 = n := ⟨_, rfl⟩
      rw [hn] at hcN hn15
      obtain ⟨z, hz⟩ : ∃ z, S.getD k zeroD = z := ⟨_, rfl⟩
      have hzo : z.ok := by rw [← hz]; exact getD_ok HSo.out k
      obtain ⟨y, hy⟩ : ∃ y, walkD z (15 - n) = y := ⟨_, rfl⟩
      have HY : Hid (f k = y) := by show _ = _; rw [HF.out k, HNl.out k, hn, hz, hy]
      rw [hz] at l0 l1 l2 l3
      have HY0 := Lib.hid hy
      have HZO := Lib.hid hzo
      have hml := mapR_len f k
      have hwrap : IntKind.i64.wrap (15 - (n : Int)) = 15 - (n : Int) := IntWalk.i64_in _ (by omega)
      clear hz hy hzo hn
      have HS0 : Hid (wr.drew.cell? ⟨g, k, none⟩ = some (.int .i64 (n : Int)) ∧ wr.drew.cell? ⟨bs, o + k * 4, none⟩ = some (.int .u32 z.d0) ∧ wr.drew.cell? ⟨bs, o + k * 4 + 1, none⟩ = some (.int .u32 z.d1) ∧ wr.drew.cell? ⟨bs, o + k * 4 + 2, none⟩ = some (.int .u32 z.d2) ∧ wr.drew.cell? ⟨bs, o + k * 4 + 3, none⟩ = some (.int .u32 z.d3)) := ⟨hcN, l0, l1, l2, l3⟩
      have hb1 : g < w1.heap.size := hg1
      have hb2 : bs < w1.heap.size := hr1.1
      have hOd : OwnsD w1.heap.size u7 (mapR f k) wr.drew := hO
      have hbw : w1.heap.size ≤ wr.drew.heap.size := hC.size
      go_wp2_with fail
      go_region_held3 (fun w' => w'.cell? ⟨g, k, none⟩ = some (.int .i64 (n : Int)) ∧ w'.cell? ⟨bs, o + k * 4, none⟩ = some (.int .u32 z.d0) ∧ w'.cell? ⟨bs, o + k * 4 + 1, none⟩ = some (.int .u32 z.d1) ∧ w'.cell? ⟨bs, o + k * 4 + 2, none⟩ = some (.int .u32 z.d2) ∧ w'.cell? ⟨bs, o + k * 4 + 3, none⟩ = some (.int .u32 z.d3))
        (first
          | exact keep5 hC5 hb1 hb2 HS0.out
          | exact keep5 (hC4.alloc hb4 _) hb1 hb2 HS0.out
          | exact keep5 hC4 hb1 hb2 HS0.out
          | exact HS0.out)
        (first
          | (go_at_call 40; (with_reducible refine (rwalk_any (15 - n) _ z y _ HZO.out (by omega) (by omega) HY0.out).mono ?_); rintro e w4 ⟨rfl, hD4⟩; have hC4 : Below w1.heap.size wr.drew w4 := hD4.mono hbw; have hO4 : w4.ownsRow w1.heap.size 24 4 u7 (mapR f k).length (dCells (mapR f k)) := hOd.on hD4; have hb4 := Nat.le_trans hbw hD4.size)
          | (refine step_append_lies _ (by rfl) _ _ _ (by rfl) w1.heap.size 24 i0 _ 4 16 Tryd.underlying35 hinf hz0 hz1 hz2 rfl (by omega) u7 (mapR f k).length (dCells (mapR f k)) (by rfl) (hO4.alloc _) ⟨w4.heap.size, 0, none⟩ 1 1 [.int .u32 y.d0, .int .u32 y.d1, .int .u32 y.d2, .int .u32 y.d3] (by rfl) (by rfl) (World.news_of_block (cs := #[.int .u32 y.d0, .int .u32 y.d1, .int .u32 y.d2, .int .u32 y.d3]) (t := 24) (fr := (0, 0)) (heap_alloc_new w4 _)) (by simp [Value.oneCell']) (by omega) (by unfold maxLen; omega) (by omega) (by simp; omega) (w4.heap.size + 1) (by simp) ?_; intro gg gcap w5 hown5 hgrow hat hlt5; have hC5 : Below w1.heap.size wr.drew w5 := (hC4.alloc hb4 _).grown hgrow (by simp; omega) (fun k hk => (World.ownsRow.lt hO4 k hk).1)))
      all_goals
        have hO5 := OwnsD.snoc (d := y) hown5
        rw [← HY.out, ← mapR_succ, hml] at hO5
        have hCf := hC.drew.trans hC5
        clear hown5 hgrow hat hO4 hC4 hD4 hOd hO hC hwrap
        go_wp2_with fail
        go_roundw
        case rel => exact ⟨k + 1, by omega, by go_num, hO5, hCf⟩
        case measure => simp [intOf]; omega
    · have hk35 : k = 35 := by omega
      subst hk35
      obtain ⟨p, c, rfl, hc, hm, hrd⟩ := hO.form
      have hml := mapR_len f 35
      rw [hml] at hc ⊢
      have hR := hR1.thr hC (by omega)
      have hB := hB1.trans (hC.mono hB1.size)
      have hok : allD4 (mapR f 35) := mapR_ok fun i _ => by rw [HF.out i]; exact walkD_ok (getD_ok HSo.out i) _
      have HOK := Lib.hid hok
      have HML := Lib.hid hml
      clear hO hC hok hml hR1 hB1
      go_wp2_with fail
      refine (rof_list (mapR f 35) v p 35 c wr HOK.out HML.out (by omega) hrd hc hm HV.out).mono ?_
      rintro e w2 ⟨rfl, hE⟩
      have hR2 := hR.on hE
      have hB2 := hB.trans (hE.mono hB.size)
      obtain ⟨b0, b1, b2, b3⟩ := Arr.c4 (d := zeroD) hR2
      obtain ⟨f0, f1, f2, f3⟩ := hR2.f4
      have hRf := put4 (d := v) hR2 rfl
      have hBf := below_put4 hB2 (show w.heap.size ≤ w.heap.size + 1 by omega) v
      clear hR hB hR2 hB2 hE hrd
      go_wp2_with fail
      generalize (((w2.setCell ⟨w.heap.size + 1, 0, none⟩ (.int .u32 v.d0)).setCell ⟨w.heap.size + 1, 1, none⟩ (.int .u32 v.d1)).setCell ⟨w.heap.size + 1, 2, none⟩ (.int .u32 v.d2)).setCell ⟨w.heap.size + 1, 3, none⟩ (.int .u32 v.d3) = wf at *
      obtain ⟨r0, r1, r2, r3⟩ := hRf.c4
      refine bodyPost_ret (v := .tuple #[v.val, .bool true]) (by simp [results, Tryd.results21, go_sem, D4.val, r0, r1, r2, r3]) rfl ⟨rfl, hBf⟩
set_option maxHeartbeats 2000000 in
set_option maxRecDepth 100000 in
theorem rreach_no (msg : D4) (p : Option Addr) (n scap : Nat) (w : World) (hn : n ≠ 35) :
    Calls Tryd.prog 21 #[.agg #[.int .u32 msg.d0, .int .u32 msg.d1, .int .u32 msg.d2, .int .u32 msg.d3], .slice p n scap] w fun e w' => e = .returned (.tuple #[zeroD.val, .bool false]) ∧ Below w.heap.size w w' := by
  have hne : ((n : Int) != 35) = true := by simp; omega
  have hne2 : ((n : Int) == 35) = false := by simp; omega
  obtain ⟨w0, hw0⟩ : ∃ w0, (w.alloc (.cells #[.int .u32 msg.d0, .int .u32 msg.d1, .int .u32 msg.d2, .int .u32 msg.d3] 24)).alloc (.cells #[.int .u32 0, .int .u32 0, .int .u32 0, .int .u32 0] 24) = w0 := ⟨_, rfl⟩
  obtain ⟨hM0, hR0, hB0⟩ := start46 msg w w0 hw0
  obtain ⟨b0, b1, b2, b3⟩ := Arr.c4 (d := zeroD) hR0
  obtain ⟨f0, f1, f2, f3⟩ := hR0.f4
  have hRf := put4 (d := zeroD) hR0 rfl
  have hBf := below_put4 hB0 (show w.heap.size ≤ w.heap.size + 1 by omega) zeroD
  simp only [zeroD] at b0 b1 b2 b3 hRf hBf
  go_enter Tryd.func21, Tryd.ntmps21
  go_wp2_with fail
  generalize (((w0.setCell ⟨w.heap.size + 1, 0, none⟩ (.int .u32 0)).setCell ⟨w.heap.size + 1, 1, none⟩ (.int .u32 0)).setCell ⟨w.heap.size + 1, 2, none⟩ (.int .u32 0)).setCell ⟨w.heap.size + 1, 3, none⟩ (.int .u32 0) = wf at *
  obtain ⟨r0, r1, r2, r3⟩ := hRf.c4
  simp only at r0 r1 r2 r3
  refine bodyPost_ret (v := .tuple #[zeroD.val, .bool false]) (by simp [results, Tryd.results21, go_sem, D4.val, zeroD, r0, r1, r2, r3]) rfl ⟨rfl, hBf⟩
theorem rreach_any (msg v : D4) (S : List D4) (g : Bool) (p : Option Addr) (n scap : Nat) (w : World) (hmo : msg.ok) (hSo : allD4 S) (hn : n = S.length) (hr : RdS w p S) (hsc : S.length ≤ scap) (hscm : scap ≤ maxLen) (hv : reachV msg S = v) (hg : is35 S = g) :
    Calls Tryd.prog 21 #[.agg #[.int .u32 msg.d0, .int .u32 msg.d1, .int .u32 msg.d2, .int .u32 msg.d3], .slice p n scap] w fun e w' => e = .returned (.tuple #[.agg #[.int .u32 v.d0, .int .u32 v.d1, .int .u32 v.d2, .int .u32 v.d3], .bool g]) ∧ Below w.heap.size w w' := by
  subst hn; subst hg
  by_cases h : S.length = 35
  · rw [reachV, if_pos h] at hv
    obtain ⟨b, o, rfl, hrd⟩ := hr (by intro e; subst e; simp at h)
    rw [is35, decide_eq_true h, h]
    exact rreach_yes msg v S b o scap w hmo hSo h hrd (by omega) hscm hv
  · rw [reachV, if_neg h] at hv
    subst hv
    rw [is35, decide_eq_false h]
    exact rreach_no msg p S.length scap w h
end

end Go.Proofs.YtdphhpmkcalahaaDoor
