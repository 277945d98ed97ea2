/-
  The document's Steps.
-/
import Derived.Test.YtkgkmpelclmllaaDoorOtB
import Derived.Test.YtkgkmpelclmllaaDoorDgE
namespace Go.Proofs.YtkgkmpelclmllaaDoor
open Go.RowKit

theorem textL_append (l m : List UInt8) : textL (l ++ m) = textL l ++ textL m := by
  induction l with
  | nil => rfl
  | cons a l ih => simp [textL, ih]
theorem text_hi4 (x : Int) : textL (hi4 x) = (nibs x.toNat 8).map sgn := by
  have e : ∀ j, (byteN x.toNat j).toNat = x.toNat / 256 ^ j % 256 := fun j => byteN_nat _ j
  obtain ⟨a, ha⟩ : ∃ a, x.toNat = a := ⟨_, rfl⟩
  rw [ha] at e
  simp only [hi4, textL, nibs, nib, List.map_cons, List.map_nil, ha, e]
  simp only [show (256 : Nat) ^ 3 = 16777216 from rfl, show (256 : Nat) ^ 2 = 65536 from rfl, show (256 : Nat) ^ 1 = 256 from rfl, show (256 : Nat) ^ 0 = 1 from rfl, show (16 : Nat) ^ 7 = 268435456 from rfl, show (16 : Nat) ^ 5 = 1048576 from rfl, show (16 : Nat) ^ 3 = 4096 from rfl, show (16 : Nat) ^ 1 = 16 from rfl]
  rw [show a / 16777216 % 256 / 16 = a / 268435456 % 16 by omega, show a / 16777216 % 256 % 16 = a / 16777216 % 16 by omega, show a / 65536 % 256 / 16 = a / 1048576 % 16 by omega, show a / 65536 % 256 % 16 = a / 65536 % 16 by omega, show a / 256 % 256 / 16 = a / 4096 % 16 by omega, show a / 256 % 256 % 16 = a / 256 % 16 by omega, show a / 1 % 256 / 16 = a / 16 % 16 by omega, show a / 1 % 256 % 16 = a / 1 % 16 by omega]
theorem text_digits (d : D4) : dTextL d = (digL d).map sgn := by
  simp only [dTextL, dB, textL_append, text_hi4, digL, List.map_append, List.append_assoc]
theorem textR_named (d : D4) (t : ByteArray) (w : World) (hd : d.ok) (ht : t.data.toList = dTextL d) : Calls Tryd.prog 27 #[.agg #[.int .u32 d.d0, .int .u32 d.d1, .int .u32 d.d2, .int .u32 d.d3]] w fun e w' => e = .returned (.string t) ∧ Below w.heap.size w w' := by
  rw [show t = ⟨(dTextL d).toArray⟩ by rw [← ht]]; exact rtext_any d w hd
theorem sign_at (N : List Nat) (t : ByteArray) (ht : t.data.toList = N.map sgn) (k : Nat) (h : k < t.size) (hk : k < N.length) (hlt : N.getD k 0 < 16) : (t[k].toNat : Int) = if N.getD k 0 < 10 then 48 + ((N.getD k 0 : Nat) : Int) else 87 + ((N.getD k 0 : Nat) : Int) := by
  have e : t[k] = sgn (N.getD k 0) := by
    have h1 : t.data.toList[k]? = some t[k] := by
      rw [List.getElem?_eq_getElem (by rw [Array.length_toList]; exact h)]; rfl
    rw [ht, List.getElem?_map, List.getElem?_eq_getElem hk] at h1
    rw [List.getD_eq_getElem?_getD, List.getElem?_eq_getElem hk]
    simpa using h1.symm
  rw [e, sgn_val _ hlt]
  split <;> simp
set_option maxHeartbeats 2000000 in
set_option maxRecDepth 100000 in
theorem rsteps_any (d : D4) (w : World) (hd : d.ok) :
    Calls Tryd.prog 13 #[.agg #[.int .u32 d.d0, .int .u32 d.d1, .int .u32 d.d2, .int .u32 d.d3]] w fun e w' => ∃ g cap, e = .returned (.slice (some ⟨g, 0, none⟩) 35 cap) ∧ w.heap.size ≤ g ∧ 35 ≤ cap ∧ cap ≤ maxLen ∧ RdN w' g (numL d) ∧ Below w.heap.size w w' := by
  obtain ⟨i0, hinf, hz0, hz1, hz2⟩ := info_parts info_int
  obtain ⟨N, hN⟩ : ∃ N, digL d = N := ⟨_, rfl⟩
  have hNl : N.length = 32 := by rw [← hN, digL_len]
  have hNt : ∀ i, N.getD i 0 < 16 := fun i => by
    rw [← hN, List.getD_eq_getElem?_getD]
    rcases Nat.lt_or_ge i (digL d).length with h | h
    · rw [List.getElem?_eq_getElem h]
      exact digL_lt d _ (List.getElem_mem h)
    · rw [List.getElem?_eq_none h]; simp
  have HNE := Lib.hid hN
  have HNt := Lib.hid hNt
  obtain ⟨t, ht⟩ : ∃ t : ByteArray, t.data.toList = dTextL d := ⟨⟨(dTextL d).toArray⟩, rfl⟩
  have hts : t.size = 32 := by
    have h1 : t.data.toList.length = t.size := by rw [Array.length_toList]; rfl
    rw [← h1, ht, text_digits, List.length_map, digL_len]
  have HT := Lib.hid ht
  have HTm : Hid (t.data.toList = N.map sgn) := by show _ = _; rw [ht, text_digits, hN]
  obtain ⟨w0, hw0⟩ : ∃ w0, w.alloc (.cells #[.int .u32 d.d0, .int .u32 d.d1, .int .u32 d.d2, .int .u32 d.d3] 24) = w0 := ⟨_, rfl⟩
  have hA0 : Arr .u32 24 w.heap.size d.toL w0 := by rw [← hw0]; exact heap_alloc_new w _
  have hB0 : Below w.heap.size w w0 := by rw [← hw0]; exact (Below.refl _ _).alloc (Nat.le_refl _) _
  obtain ⟨l0, l1, l2, l3⟩ := Arr.c4 hA0
  clear hN hNt ht
  go_enter Tryd.func13, Tryd.ntmps13
  go_wp2_with fail
  clear hw0
  refine (textR_named d t w0 hd HT.out).mono ?_
  rintro e w1 ⟨rfl, hD⟩
  have hB1 := hB0.trans (hD.mono hB0.size)
  clear hA0 hB0 l0 l1 l2 l3 hD
  go_wp2_with fail
  go_loopw [4, 5, 6] (fun v s i wr => ∃ (k : Nat) (L : List Nat), k ≤ 32 ∧ i = .int .i64 (k : Int) ∧ s = .int .i64 ((lackN L : Nat) : Int) ∧ OwnsN w.heap.size v L wr ∧ Hid (L = N.take k) ∧ Below w.heap.size w wr) (fun _ _ i _ => 32 - (intOf i).toNat)
  case atStart => exact ⟨0, [], by omega, rfl, rfl, OwnsN.nil _ _, rfl, hB1⟩
  case round =>
    clear hB1
    obtain ⟨k, L, hk, rfl, rfl, hown, HL, hB⟩ := hrel
    by_cases hlt : k < 32
    · have hk0 : (0 : Int) ≤ (k : Int) := by omega
      have hk1 : (k : Int) < (t.size : Int) := by omega
      have hks : k < t.size := by omega
      have hsg := sign_at N t HTm.out k hks (by omega) (HNt.out k)
      have h16 := HNt.out k
      have hnx := lack_next N k (by omega) (by omega)
      have hLk := lackN_le L
      have hLl : L.length = k := by rw [HL.out, List.length_take]; omega
      rw [← HL.out] at hnx
      obtain ⟨y, hy⟩ : ∃ y, N.getD k 0 = y := ⟨_, rfl⟩
      rw [hy] at hsg h16 hnx
      obtain ⟨M, hM⟩ : ∃ M, L ++ [y] = M := ⟨_, rfl⟩
      have HM : Hid (M = N.take (k + 1)) := by
        show _ = _
        rw [← hM, HL.out, List.take_add_one, ← hy, List.getD_eq_getElem?_getD, List.getElem?_eq_getElem (show k < N.length by omega)]; rfl
      rw [← HM.out] at hnx
      have HM0 := Lib.hid hM
      obtain ⟨s0, hs0⟩ : ∃ s, lackN L = s := ⟨_, rfl⟩
      obtain ⟨s1, hs1⟩ : ∃ s, lackN M = s := ⟨_, rfl⟩
      rw [hs0, hs1] at hnx
      rw [hs0] at hLk ⊢
      have HS1 := Lib.hid hs1
      have hown' : wr.ownsRow w.heap.size 3 1 u4 L.length (nCells L) := hown
      have hbw := hB.size
      clear hy hM hs0 hs1 hown
      have hw2 : IntKind.i64.wrap ((s0 : Int) + 15 - (y : Int)) = (s1 : Int) := by rw [IntWalk.i64_in _ (by omega)]; omega
      by_cases h10 : y < 10
      · rw [if_pos h10] at hsg
        have hq : decide ((97 : Int) ≤ 48 + (y : Int)) = false := by simp; omega
        have hv : (48 : Int) + (y : Int) - 48 = (y : Int) := by omega
        go_wp2_with (at_builtin; refine wpList_append_lies _ (by rfl) _ _ _ (by rfl) w.heap.size 3 i0 _ 1 8 Tryd.underlying27 hinf hz0 hz1 hz2 rfl (by omega) u4 L.length (nCells L) (by rfl) (hown'.alloc _) ⟨wr.heap.size, 0, none⟩ 1 1 [.int .i64 (y : Int)] (by rfl) (by rfl) (World.news_of_block (cs := #[.int .i64 (y : Int)]) (t := 3) (fr := (0, 0)) (heap_alloc_new wr _)) (by simp [Value.oneCell']) (by omega) (by unfold maxLen; omega) (by omega) (by simp; omega) (wr.heap.size + 1) (by simp) ?_; intro gg gcap w3 hown3 hgrow hat hlt3)
        have hB3 : Below w.heap.size w w3 := (hB.alloc hbw _).grown hgrow (by simp; omega) (fun k hk => (World.ownsRow.lt hown' k hk).1)
        have hO := OwnsN.snoc (y := y) hown3
        rw [HM0.out, hLl] at hO
        clear hown3 hgrow hat hown' hB hsg
        go_wp2
        go_roundw
        case rel => exact ⟨k + 1, M, by omega, by go_num, by rw [HS1.out]; congr 1 <;> omega, hO, HM, hB3⟩
        case measure => simp [intOf]; omega
      · rw [if_neg h10] at hsg
        have hq : decide ((97 : Int) ≤ 87 + (y : Int)) = true := by simp; omega
        have hv : (87 : Int) + (y : Int) - 97 + 10 = (y : Int) := by omega
        go_wp2_with (at_builtin; refine wpList_append_lies _ (by rfl) _ _ _ (by rfl) w.heap.size 3 i0 _ 1 8 Tryd.underlying27 hinf hz0 hz1 hz2 rfl (by omega) u4 L.length (nCells L) (by rfl) (hown'.alloc _) ⟨wr.heap.size, 0, none⟩ 1 1 [.int .i64 (y : Int)] (by rfl) (by rfl) (World.news_of_block (cs := #[.int .i64 (y : Int)]) (t := 3) (fr := (0, 0)) (heap_alloc_new wr _)) (by simp [Value.oneCell']) (by omega) (by unfold maxLen; omega) (by omega) (by simp; omega) (wr.heap.size + 1) (by simp) ?_; intro gg gcap w3 hown3 hgrow hat hlt3)
        have hB3 : Below w.heap.size w w3 := (hB.alloc hbw _).grown hgrow (by simp; omega) (fun k hk => (World.ownsRow.lt hown' k hk).1)
        have hO := OwnsN.snoc (y := y) hown3
        rw [HM0.out, hLl] at hO
        clear hown3 hgrow hat hown' hB hsg
        go_wp2
        go_roundw
        case rel => exact ⟨k + 1, M, by omega, by go_num, by rw [HS1.out]; congr 1 <;> omega, hO, HM, hB3⟩
        case measure => simp [intOf]; omega
    · have hk32 : k = 32 := by omega
      subst hk32
      have hLN : L = N := by rw [HL.out, List.take_of_length_le (by omega)]
      subst hLN
      have hlk : lackN L ≤ 480 := by have := lackN_le L; omega
      obtain ⟨S, hS⟩ : ∃ S, lackN L = S := ⟨_, rfl⟩
      rw [hS] at hlk ⊢
      have hown' : wr.ownsRow w.heap.size 3 1 u4 L.length (nCells L) := hown
      have hbw := hB.size
      obtain ⟨a, ha⟩ : ∃ a, nib S 2 = a := ⟨_, rfl⟩
      obtain ⟨b, hb⟩ : ∃ a, nib S 1 = a := ⟨_, rfl⟩
      obtain ⟨c, hc⟩ : ∃ a, nib S 0 = a := ⟨_, rfl⟩
      have ha16 : a < 16 := by rw [← ha]; exact nib_lt _ _
      have hb16 : b < 16 := by rw [← hb]; exact nib_lt _ _
      have hc16 : c < 16 := by rw [← hc]; exact nib_lt _ _
      have hq1 : ((S : Nat) : Int) / 256 = (a : Int) := by rw [← ha]; unfold nib; omega
      have hq2 : ((S : Nat) : Int) / 16 % 16 = (b : Int) := by rw [← hb]; unfold nib; omega
      have hq3 : ((S : Nat) : Int) % 16 = (c : Int) := by rw [← hc]; unfold nib; omega
      have HE : Hid (L ++ [a, b, c] = numL d) := by
        show _ = _
        rw [numL, HNE.out, hS, ← ha, ← hb, ← hc]; rfl
      clear ha hb hc hS
      go_wp2_with (at_builtin; refine wpList_append_lies _ (by rfl) _ _ _ (by rfl) w.heap.size 3 i0 _ 1 8 Tryd.underlying27 hinf hz0 hz1 hz2 rfl (by omega) u4 L.length (nCells L) (by rfl) (hown'.alloc _) ⟨wr.heap.size, 0, none⟩ 3 3 [.int .i64 (a : Int), .int .i64 (b : Int), .int .i64 (c : Int)] (by rfl) (by rfl) (World.news_of_block (cs := #[.int .i64 (a : Int), .int .i64 (b : Int), .int .i64 (c : Int)]) (t := 3) (fr := (0, 0)) (heap_alloc_new wr _)) (by simp [Value.oneCell']) (by omega) (by unfold maxLen; omega) (by omega) (by simp; omega) (wr.heap.size + 1) (by simp) ?_; intro gg gcap w3 hown3 hgrow hat hlt3)
      have hB3 : Below w.heap.size w w3 := (hB.alloc hbw _).grown hgrow (by simp; omega) (fun k hk => (World.ownsRow.lt hown' k hk).1)
      have hO : OwnsN w.heap.size (.slice (some ⟨gg, 0, none⟩) (L.length + 3) gcap) (L ++ [a, b, c]) w3 := by
        unfold OwnsN
        rw [nCells_append, List.length_append]
        exact hown3
      have hgg : w.heap.size ≤ gg := (World.ownsRow.lt hown3 gg rfl).1
      obtain ⟨g2, cap2, e2, h1, h2, h3, h4⟩ := hO.form (by simp)
      simp only [List.length_append, List.length_cons, List.length_nil, Value.slice.injEq, Option.some.injEq, Addr.mk.injEq, and_true, true_and] at e2
      obtain ⟨rfl, -, rfl⟩ := e2
      clear hown3 hgrow hat hown' hB hO
      go_wp2
      go_ret
      rw [HE.out] at h4
      exact ⟨gg, gcap, rfl, hgg, by simp [hNl] at h1; omega, h2, h4, hB3⟩
end Go.Proofs.YtkgkmpelclmllaaDoor
