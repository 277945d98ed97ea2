/-
  The code's appendDigits and Steps: the numbers of a message.
-/
import Derived.Test.YtkgkmpelclmllaaDoorOtA
import Derived.Laws.ShiftsVarLaws
namespace Go.Proofs.YtkgkmpelclmllaaDoor
open Go.RowKit

theorem digit_fact (x : Int) (m : Nat) (h : isW x) : wrap64 (bits .and .u32 (x / 2 ^ (4 * m)) 15) = ((nib x.toNat m : Nat) : Int) := by
  obtain ⟨a, rfl⟩ := Int.eq_ofNat_of_zero_le h.1
  have ha : a < 4294967296 := by have := h.2; omega
  have e : ((a : Int) / 2 ^ (4 * m)) = ((a / 16 ^ m : Nat) : Int) := by
    rw [show (16 : Nat) ^ m = 2 ^ (4 * m) by rw [Nat.pow_mul]]
    norm_cast
  have hq : a / 16 ^ m < 4294967296 := Nat.lt_of_le_of_lt (Nat.div_le_self _ _) ha
  rw [e, show (15 : Int) = ((15 : Nat) : Int) from rfl, u32_and_nat _ _ hq (by omega)]
  have hn : (a / 16 ^ m) &&& 15 = a / 16 ^ m % 16 := Nat.and_two_pow_sub_one_eq_mod _ 4
  rw [hn]
  have := Nat.mod_lt (a / 16 ^ m) (show 0 < 16 by decide)
  unfold wrap64 nib
  simp only [Int.toNat_natCast]
  omega
theorem nibs_shift (L : List Nat) (x m : Nat) : (L ++ [nib x m]) ++ nibs x m = L ++ nibs x (m + 1) := by simp [nibs]
theorem OwnsN.snoc {B : Nat} {v : Value} {l : List Nat} {y : Nat} {w : World} (h : w.ownsRow B 3 1 v (l.length + 1) (nCells l ++ [.int .i64 (y : Int)])) : OwnsN B v (l ++ [y]) w := by
  unfold OwnsN
  rw [nCells_append, List.length_append]
  exact h
set_option maxHeartbeats 2000000 in
set_option maxRecDepth 100000 in
theorem cdigits_any (B : Nat) (v : Value) (l : List Nat) (x : Int) (n : Nat) (w : World) (hx : isW x) (hn : n ≤ 8) (hl : l.length ≤ 1000) (hB : B ≤ w.heap.size) (ho : OwnsN B v l w) :
    Calls Tryd.prog 26 #[v, .int .u32 x, .int .i64 (n : Int)] w fun e w' => ∃ v', e = .returned v' ∧ OwnsN B v' (l ++ nibs x.toNat n) w' ∧ Below B w w' := by
  obtain ⟨i0, hinf, hz0, hz1, hz2⟩ := info_parts info_int
  have HX := Lib.hid hx
  obtain ⟨hx0, hx1⟩ := hx
  go_enter Tryd.func26, Tryd.ntmps26
  go_wp2
  go_loopw [0, 7] (fun u i wr => ∃ (j : Nat) (L : List Nat), j ≤ n ∧ i = .int .i64 ((j : Int) - 1) ∧ OwnsN B u L wr ∧ Hid (L ++ nibs x.toNat j = l ++ nibs x.toNat n) ∧ L.length + j ≤ 1008 ∧ Below B w wr ∧ B ≤ wr.heap.size) (fun _ i _ => (intOf i + 1).toNat)
  case atStart => exact ⟨n, l, Nat.le_refl _, by go_num, ho, rfl, by omega, Below.refl _ _, hB⟩
  case round =>
    obtain ⟨j, L, hj, rfl, hown, HL, hLl, hV, hbw⟩ := hrel
    rcases Nat.eq_zero_or_pos j with rfl | hpos
    · go_wp2
      go_ret
      have := HL.out
      simp only [nibs, List.append_nil] at this
      exact ⟨_, rfl, by rw [← this]; exact hown, hV⟩
    · obtain ⟨m, rfl⟩ : ∃ m, j = m + 1 := ⟨j - 1, by omega⟩
      have hown' : wr.ownsRow B 3 1 u0 L.length (nCells L) := hown
      obtain ⟨y, hy⟩ : ∃ y, nib x.toNat m = y := ⟨_, rfl⟩
      have hd := digit_fact x m HX.out
      rw [hy] at hd
      have HY := Lib.hid hy
      clear hy
      go_wp2_with (at_builtin; refine wpList_append_lies _ (by rfl) _ _ _ (by rfl) B 3 i0 _ 1 8 Tryd.underlying27 hinf hz0 hz1 hz2 rfl (by omega) u0 L.length (nCells L) (by rfl) (hown'.alloc _) ⟨wr.heap.size, 0, none⟩ 1 1 [.int .i64 (y : Int)] (by rfl) (by rfl) (World.news_of_block (cs := #[.int .i64 (y : Int)]) (t := 3) (fr := (0, 0)) (heap_alloc_new wr _)) (by simp [Value.oneCell']) (by omega) (by unfold maxLen; omega) (by omega) (by simp; omega) (wr.heap.size + 1) (by simp) ?_; intro gg gcap w3 hown3 hgrow hat hlt3)
      have hV3 : Below B w w3 := (hV.alloc hbw _).grown hgrow (by simp; omega) (fun k hk => (World.ownsRow.lt hown' k hk).1)
      have hO := OwnsN.snoc (y := y) hown3
      have hE : Hid ((L ++ [y]) ++ nibs x.toNat m = l ++ nibs x.toNat n) := by
        show _ = _
        rw [← HY.out, nibs_shift, HL.out]
      have hb3 : B ≤ w3.heap.size := by have := hV3.size; omega
      clear hown3 hgrow hat hown hown' hV HL hd HY
      go_wp2
      go_roundw
      case rel => exact ⟨m, L ++ [y], by omega, by go_num, hO, hE, by simp; omega, hV3, hb3⟩
      case measure => simp [intOf]
def digP (D : List Int) : Nat → List Nat
  | 0 => []
  | n + 1 => digP D n ++ nibs (D.getD n 0).toNat 8
theorem digP_len (D : List Int) (n : Nat) : (digP D n).length = 8 * n := by
  induction n with
  | zero => rfl
  | succ n ih => rw [digP, List.length_append, ih, nibs_len]; omega
theorem digP_list (d : D4) : digP d.toL 4 = digL d := by simp [digP, digL, D4.toL]
theorem lack_next (l : List Nat) (k : Nat) (h : k < l.length) (h15 : l.getD k 0 ≤ 15) : ((lackN (l.take (k + 1)) : Nat) : Int) = ((lackN (l.take k) : Nat) : Int) + (15 - ((l.getD k 0 : Nat) : Int)) := by
  rw [List.take_add_one, lackN_append, List.getD_eq_getElem?_getD] at *
  rw [List.getElem?_eq_getElem h] at *
  simp [lackN] at *
  omega
theorem cdigits_val (B : Nat) (v : Value) (l L : List Nat) (x : Int) (n : Nat) (w : World) (hx : isW x) (hn : n ≤ 8) (hl : l.length ≤ 1000) (hB : B ≤ w.heap.size) (ho : OwnsN B v l w) (hL : l ++ nibs x.toNat n = L) (m : Int) (hm : (n : Int) = m) :
    Calls Tryd.prog 26 #[v, .int .u32 x, .int .i64 m] w fun e w' => ∃ v', e = .returned v' ∧ OwnsN B v' L w' ∧ Below B w w' := by
  subst hm; subst hL; exact cdigits_any B v l x n w hx hn hl hB ho
set_option maxHeartbeats 2000000 in
set_option maxRecDepth 100000 in
theorem csteps_any (d : D4) (w : World) (hd : d.ok) :
    Calls Tryd.prog 12 #[d.val] w fun e w' => ∃ g cap, e = .returned (.slice (some ⟨g, 0, none⟩) 35 cap) ∧ w.heap.size ≤ g ∧ 35 ≤ cap ∧ cap ≤ maxLen ∧ RdN w' g (numL d) ∧ Below w.heap.size w w' := by
  obtain ⟨i0, hinf, hz0, hz1, hz2⟩ := info_parts info_int
  obtain ⟨w0, hw0⟩ : ∃ w0, w.alloc (.cells #[.int .u32 d.d0, .int .u32 d.d1, .int .u32 d.d2, .int .u32 d.d3] 24) = w0 := ⟨_, rfl⟩
  have hA0 : Arr .u32 24 w.heap.size d.toL w0 := by rw [← hw0]; exact heap_alloc_new w _
  have hB0 : Below w.heap.size w w0 := by rw [← hw0]; exact (Below.refl _ _).alloc (Nat.le_refl _) _
  go_enter Tryd.func12, Tryd.ntmps12
  simp only [D4.val]
  go_wp2_with (at_make; refine wpList_make_own _ rfl _ _ 27 rfl w.heap.size 3 i0 (.int .i64 0) 1 Tryd.underlying27 hinf hz0 hz1 .i64 .i64 _ 35 rfl rfl rfl (by rw [hz2]; omega) (by unfold maxLen; omega) hB0.size ?_; intro w1 hown1 hg1; have hS1 : Below w0.heap.size w0 w1 := (Below.refl _ _).grown hg1 (Nat.le_refl _) (fun k hk => by cases hk); have hA1 := hA0.on hS1; obtain ⟨l0, l1, l2, l3⟩ := Arr.c4 hA1)
  have hB1 := hB0.trans (hS1.mono hB0.size)
  have hO1 : OwnsN w.heap.size (.slice (some ⟨w0.heap.size, 0, none⟩) 0 35) [] w1 := hown1
  clear hown1 hg1 hS1 hA1 hA0 hB0 l0 l1 l2 l3
  go_loopw [3, 11] (fun v i wr => ∃ (k : Nat) (L : List Nat), k ≤ 4 ∧ i = .int .i64 (k : Int) ∧ OwnsN w.heap.size v L wr ∧ Hid (L = digP d.toL k) ∧ L.length = 8 * k ∧ Below w.heap.size w wr) (fun _ i _ => 4 - (intOf i).toNat)
  case atStart => exact ⟨0, [], by omega, rfl, hO1, rfl, rfl, hB1⟩
  case round =>
    clear hO1 hB1
    obtain ⟨k, L, hk, rfl, hown, HL, hLl, hB⟩ := hrel
    by_cases hlt : k < 4
    · have hkd : decide ((k : Int) < 4) = true := by simp; omega
      have hix := index_dig d hlt
      obtain ⟨x, hx⟩ : ∃ x, d.toL.getD k 0 = x := ⟨_, rfl⟩
      have hxw : isW x := by rw [← hx]; exact (D4.toL_ok hd).get k
      rw [hx] at hix
      obtain ⟨M, hM⟩ : ∃ M, L ++ nibs x.toNat 8 = M := ⟨_, rfl⟩
      have hMl : M.length = 8 * (k + 1) := by rw [← hM, List.length_append, nibs_len]; omega
      have HM : Hid (M = digP d.toL (k + 1)) := by show _ = _; rw [digP, hx, ← hM, HL.out]
      have HM0 := Lib.hid hM
      have HXW := Lib.hid hxw
      have HO := Lib.hid hown
      have hbw := hB.size
      clear hM hx hxw hown
      go_wp2_with fail
      refine (cdigits_val w.heap.size u3 L M x 8 _ HXW.out (by omega) (by omega) hbw HO.out HM0.out 8 rfl).mono ?_
      rintro e w2 ⟨v', rfl, hO2, hB2⟩
      have hB3 := hB.trans hB2
      go_wp2
      go_roundw
      case rel => exact ⟨k + 1, M, by omega, by go_num, hO2, HM, hMl, hB3⟩
      case measure => simp [intOf]; omega
    · have hk4 : k = 4 := by omega
      subst hk4
      have hE : L = digL d := by rw [HL.out, digP_list]
      clear HL hLl
      subst hE
      obtain ⟨g, cap, rfl, hc1, hc2, hg, hR⟩ := hown.form (by rw [digL_len]; omega)
      have hO := hown
      rw [digL_len] at hO hc1 ⊢
      obtain ⟨N, hN⟩ : ∃ N, digL d = N := ⟨_, rfl⟩
      have hNl : N.length = 32 := by rw [← hN, digL_len]
      have hNt : ∀ i, N.getD i 0 ≤ 15 := fun i => by
        rw [← hN, List.getD_eq_getElem?_getD]
        rcases Nat.lt_or_ge i (digL d).length with h | h
        · rw [List.getElem?_eq_getElem h]
          have := digL_lt d _ (List.getElem_mem h)
          simp; omega
        · rw [List.getElem?_eq_none h]; simp
      have hlk : lackN N ≤ 480 := by rw [← hN]; exact digL_lack d
      have HN := Lib.hid hN
      rw [hN] at hO hR
      have HNt := Lib.hid hNt
      clear hN hown hNt
      go_wp2
      go_loop [6, 20] (fun s i => ∃ k : Nat, k ≤ 32 ∧ s = .int .i64 ((lackN (N.take k) : Nat) : Int) ∧ i = .int .i64 (k : Int)) (fun _ i => 32 - (intOf i).toNat)
      case atStart => exact ⟨0, by omega, rfl, rfl⟩
      case round =>
        obtain ⟨k, hk, rfl, rfl⟩ := hrel
        by_cases hlt : k < 32
        · have hkd : decide ((k : Int) < 32) = true := by simp; omega
          have hk0 : (0 : Int) ≤ (k : Int) := by omega
          have hk1 : (k : Int) < 32 := by omega
          have hkl : k < N.length := by omega
          have hc := hR.2 k hkl
          have hnx := lack_next N k hkl (HNt.out k)
          have hup : lackN (N.take (k + 1)) ≤ 15 * (k + 1) := by have := lackN_le (N.take (k + 1)); rw [List.length_take] at this; omega
          have hup0 : lackN (N.take k) ≤ 15 * k := by have := lackN_le (N.take k); rw [List.length_take] at this; omega
          have h15 := HNt.out k
          obtain ⟨y, hy⟩ : ∃ y, N.getD k 0 = y := ⟨_, rfl⟩
          obtain ⟨s0, hs0⟩ : ∃ s, lackN (N.take k) = s := ⟨_, rfl⟩
          obtain ⟨s1, hs1⟩ : ∃ s, lackN (N.take (k + 1)) = s := ⟨_, rfl⟩
          rw [hy] at hc hnx h15
          rw [hs0] at hnx hup0
          rw [hs1] at hnx hup
          have HS1 := Lib.hid hs1
          rw [hs0]
          have hw1 : IntKind.i64.wrap (15 - (y : Int)) = 15 - (y : Int) := IntWalk.i64_in _ (by omega)
          have hw2 : IntKind.i64.wrap ((s0 : Int) + (15 - (y : Int))) = (s1 : Int) := by rw [IntWalk.i64_in _ (by omega)]; omega
          clear hy hs0 hs1
          go_wp2
          go_round
          case rel => exact ⟨k + 1, by omega, by rw [HS1.out]; congr 1 <;> omega, by go_num⟩
          case measure => simp [intOf]; omega
        · have hk32 : k = 32 := by omega
          subst hk32
          rw [List.take_of_length_le (by omega)]
          obtain ⟨S, hS⟩ : ∃ S, lackN N = S := ⟨_, rfl⟩
          rw [hS] at hlk ⊢
          have hSw : isW (S : Int) := by unfold isW; omega
          obtain ⟨M, hM⟩ : ∃ M, N ++ nibs ((S : Nat) : Int).toNat 3 = M := ⟨_, rfl⟩
          have HM : Hid (M = numL d) := by
            show _ = _
            rw [← hM, numL, HN.out, hS, Int.toNat_natCast]
          have HM0 := Lib.hid hM
          have HSW := Lib.hid hSw
          have HO := Lib.hid hO
          have hbw := hB.size
          clear hM hS hSw hR hO
          go_wp2_with fail
          refine (cdigits_val w.heap.size _ N M S 3 _ HSW.out (by omega) (by omega) hbw (by have := HO.out; exact this) HM0.out 3 rfl).mono ?_
          rintro e w2 ⟨v', rfl, hO2, hB2⟩
          go_wp2
          go_ret
          have hE := HM.out
          subst hE
          obtain ⟨g2, cap2, rfl, h1, h2, h3, h4⟩ := hO2.form (by rw [numL_len]; omega)
          rw [numL_len] at h1 ⊢
          exact ⟨g2, cap2, rfl, h3, h1, h2, h4, hB.trans hB2⟩
end Go.Proofs.YtkgkmpelclmllaaDoor
