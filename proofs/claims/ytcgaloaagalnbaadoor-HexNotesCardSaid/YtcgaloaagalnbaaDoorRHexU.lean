/-
  The contract of the document's own Dump.
-/
import Derived.Test.YtcgaloaagalnbaaDoorRHexD
import Derived.Lib.ConvBytes
import Derived.Lib.AtoiErrMem
import Derived.Lib.SmallJoins
namespace Go.Proofs.YtcgaloaagalnbaaDoor
open Go.RowKit

theorem OwnsC.below {B : Nat} {v : Value} {L : List UInt8} {w w' : World} (h : OwnsC B v L w) (hb : Below w.heap.size w w') : OwnsC B v L w' :=
  World.ownsRow.kept h (⟨hb.os, hb.tape, hb.output, hb.size, fun k hk _ => hb.block k hk⟩ : w.grownBy w' none) (by cases hv : v.ownBlock <;> simp)
theorem decimal_val (m : Int) (u : Nat) (t : ByteArray) (w : World) (hm : m = (u : Int)) (hu : u < 1000000000) (ht : t = ⟨(Lib.decDigits u).toArray⟩) :
    Calls Tryd.prog 33 #[.int .i64 m] w fun e w' => e = .returned (.string t) ∧ Below w.heap.size w w' := by
  rw [hm, ht]; exact decimal_any u w hu
theorem bytes_of8 (w : World) (S : ByteArray) : (convert 9 32 (.string S)).run Tryd.prog w = .ok (.slice (some ⟨w.heap.size, 0, none⟩) S.size (grownCap w S.size 0 5)) (Lib.bytesWorld w 5 S) :=
  Lib.run_convert_string_bytes w 9 32 5 S Tryd.underlying9 Tryd.underlying32 Tryd.underlying5
theorem bytes_cells8 (w : World) (S : ByteArray) : ∀ j u, (Lib.byteCells S.data.toList)[j]? = some u → (Lib.bytesWorld w 5 S).cell? ((⟨w.heap.size, 0, none⟩ : Addr).add j) = some u := by
  intro j u hu
  have hj : j < S.data.toList.length := by
    have := (List.getElem?_eq_some_iff.1 hu).1
    rw [Lib.byteCells_length] at this
    exact this
  have hj' : j < S.size := by rw [Array.length_toList] at hj; exact hj
  rw [Lib.add_plain, Nat.zero_add, Lib.bytesWorld_cell w 5 S j hj']
  simp only [Lib.byteCells, List.getElem?_map, List.getElem?_eq_getElem hj, Option.map_some, Option.some.injEq] at hu
  rw [← hu]
  simp [List.getD, List.getElem?_eq_getElem hj]
theorem ownsC_more {B : Nat} {v : Value} {L M : List UInt8} {n : Nat} {w : World} (hn : n = M.length) (h : w.ownsRow B 5 1 v (L.length + n) (Lib.byteCells L ++ Lib.byteCells M)) : OwnsC B v (L ++ M) w := by
  subst hn
  unfold OwnsC
  rw [List.length_append, show Lib.byteCells (L ++ M) = Lib.byteCells L ++ Lib.byteCells M by simp [Lib.byteCells]]
  exact h
/-- The end of a line, as a string. -/
theorem tail_size (t : ByteArray) : ((⟨#[32, 32, 35, 32]⟩ ++ t ++ ⟨#[10]⟩ : ByteArray)).data.toList = [32, 32, 35, 32] ++ t.data.toList ++ [10] := by
  rw [Joins.data_append, Joins.data_append]

theorem len_listS (s : ByteArray) : s.data.toList.length = s.size := by rw [Array.length_toList]; rfl
/-- Where the loop stands. -/
def DpAt (s : ByteArray) (k : Nat) (L : List UInt8) : Prop := L.length ≤ 40 * k ∧ dumpL s.data.toList = L ++ dpF k (s.data.toList.drop k)
/-- What one byte gives: ahead of its digits, and behind. -/
def headD (k : Nat) : List UInt8 := if k % 16 = 0 then [] else [32]
def tailD (s : ByteArray) (k : Nat) : List UInt8 := if k % 16 = 15 ∨ k + 1 = s.size then [32, 32, 35, 32] ++ Lib.decDigits (k - k % 16) ++ [10] else []
theorem dec_len (u : Nat) (h : u < 1000000) : (Lib.decDigits u).length ≤ 20 := by
  rw [Lib.decDigits_length]; exact Lib.nDigits_le20 u (by omega)
theorem dp_step {s : ByteArray} {k : Nat} {L : List UInt8} (hs : s.size ≤ 100000) (hk : k < s.size) (h : DpAt s k L) : DpAt s (k + 1) (L ++ headD k ++ [sgn (s[k].toNat / 16), sgn (s[k].toNat % 16)] ++ tailD s k) := by
  obtain ⟨h1, h2⟩ := h
  have e : (s.data.toList.drop (k + 1) = []) ↔ k + 1 = s.size := by
    rw [List.drop_eq_nil_iff, Array.length_toList]
    show s.size ≤ k + 1 ↔ _
    omega
  have hd := dec_len (k - k % 16) (by omega)
  have l1 : (headD k).length ≤ 1 := by unfold headD; split <;> simp
  have l2 : (tailD s k).length ≤ 25 := by
    unfold tailD
    split
    · simp only [List.length_append, List.length_cons, List.length_nil]; omega
    · simp
  refine ⟨?_, ?_⟩
  · simp only [List.length_append, List.length_cons, List.length_nil]; omega
  · rw [h2, drop_one s k hk, dpF]
    simp only [headD, tailD, e, List.append_assoc, List.cons_append, List.nil_append]

set_option maxHeartbeats 4000000 in
set_option maxRecDepth 100000 in
theorem refDump_any (s : ByteArray) (w : World) (hs : s.size ≤ 100000) :
    Calls Tryd.prog 19 #[.string s] w fun e w' => e = .returned (.string ⟨(dumpL s.data.toList).toArray⟩) ∧ Below w.heap.size w w' := by
  obtain ⟨i0, hi, hz0, hz1, hz2⟩ := info_parts info_u8h
  go_enter Tryd.func19, Tryd.ntmps19
  go_wp2
  go_loopw [3, 4] (fun v i wr => ∃ (k : Nat) (L : List UInt8), k ≤ s.size ∧ i = .int .i64 k ∧ OwnsC w.heap.size v L wr ∧ Hid (DpAt s k L) ∧ Below w.heap.size w wr) (fun _ i _ => s.size - (intOf i).toNat)
  case atStart => exact ⟨0, [], Nat.zero_le _, rfl, OwnsC.nil _ _, ⟨Nat.le_refl _, rfl⟩, Below.refl _ _⟩
  case round =>
    obtain ⟨k, L, hk, rfl, hown, HL, hB⟩ := hrel
    by_cases hlt : k < s.size
    · have HN := Lib.hid (dp_step hs hlt HL.out)
      have hlen : L.length ≤ 4000000 := by have := HL.out.1; omega
      have hc := (s[k]).toNat_lt
      have hk0 : (0 : Int) ≤ (k : Int) := by omega
      have hk1 : (k : Int) < (s.size : Int) := by omega
      have hlt' : decide ((k : Int) < (s.size : Int)) = true := by simp; omega
      obtain ⟨t, ht⟩ : ∃ t : ByteArray, t = ⟨(Lib.decDigits (k - k % 16)).toArray⟩ := ⟨_, rfl⟩
      obtain ⟨S, hS⟩ : ∃ S : ByteArray, (⟨#[32, 32, 35, 32]⟩ ++ t ++ ⟨#[10]⟩ : ByteArray) = S := ⟨_, rfl⟩
      have HT := Lib.hid ht
      have HS : Hid (S.data.toList = [32, 32, 35, 32] ++ Lib.decDigits (k - k % 16) ++ [10]) := by
        show S.data.toList = _
        rw [← hS, tail_size, ht]
      have hts : t.size ≤ 20 := by
        have h := dec_len (k - k % 16) (by omega)
        rw [ht]
        show (Lib.decDigits (k - k % 16)).toArray.size ≤ 20
        rw [List.size_toArray]; exact h
      have hSs : S.size ≤ 30 := by
        have h := congrArg List.length HS.out
        have h2 := dec_len (k - k % 16) (by omega)
        rw [len_listS] at h
        simp only [List.length_append, List.length_cons, List.length_nil] at h
        omega
      clear ht
      by_cases h16 : k % 16 = 0
      · have HH : Hid (L ++ headD k = L) := by show L ++ headD k = L; unfold headD; rw [if_pos h16, List.append_nil]
        have hz : (k : Int) % 16 ≤ 0 := by omega
        have t15 : ((k : Int) % 16 == 15) = false := by simp; omega
        by_cases hend : k + 1 = s.size
        · have tE : ((k : Int) == (s.size : Int) - 1) = true := by simp; omega
          have HTL : Hid (tailD s k = S.data.toList) := by show tailD s k = _; unfold tailD; rw [if_pos (Or.inr hend), HS.out]
          obtain ⟨wX, rfl⟩ : ∃ wX : World, wX = wr := ⟨_, rfl⟩
          have hownX : wX.ownsRow w.heap.size 5 1 u3 L.length (Lib.byteCells L) := hown
          have hBX := hB
          have hbw := hB.size
          clear hown hB
          obtain ⟨e1, e2, e3, e4, e5⟩ := byte_sums s[k]
          go_wp2
          go_region_held3 (fun _ => True) (first | trivial | go_keep)
            ((first
              | (refine step_append_lies _ (by rfl) _ _ _ (by rfl) w.heap.size 5 i0 _ 1 1 Tryd.underlying32 hi hz0 hz1 hz2 rfl (by omega) u3 L.length (Lib.byteCells L) (by rfl) ((hownX.alloc _).drew) ⟨wX.heap.size, 0, none⟩ 2 2 [.int .u8 ((sgn (s[k].toNat / 16)).toNat : Int), .int .u8 ((sgn (s[k].toNat % 16)).toNat : Int)] (by rfl) (by rfl) (World.news_of_block (cs := #[.int .u8 ((sgn (s[k].toNat / 16)).toNat : Int), .int .u8 ((sgn (s[k].toNat % 16)).toNat : Int)]) (t := 5) (fr := (0, 0)) (heap_alloc_new wX _)) (by simp [Value.oneCell']) (by omega) (by unfold maxLen; omega) (by omega) (by simp; omega) (wX.heap.size + 1) (by simp) ?_; intro gg cap w1 hown1 hgrow hat hlt1)
              | (go_at_call 26; (with_reducible refine (sign_up s[k] _).mono ?_); rintro e w' ⟨rfl, rfl⟩)
              | (go_at_call 26; (with_reducible refine (sign_low s[k] _).mono ?_); rintro e w' ⟨rfl, rfl⟩)))
          all_goals
            clear e1 e2 e3 e4 e5
            have hV1 : Below w.heap.size w w1 := ((hBX.alloc hBX.size _).drew).grown hgrow (by have := hBX.size; simp; omega) (fun k hk => (hownX.lt k hk).1)
            have hown2 : OwnsC w.heap.size (.slice (some ⟨gg, 0, none⟩) (L.length + 2) cap) (L ++ [sgn (s[k].toNat / 16), sgn (s[k].toNat % 16)]) w1 := ownsC_two hown1
            clear hown1 hgrow hat hownX hBX
            go_wp2_with fail
            refine (decimal_val _ (k - k % 16) t _ (by omega) (by omega) HT.out).mono ?_
            rintro e w4 ⟨rfl, hB4⟩
            have hown4 := hown2.below hB4
            have hV4 := hV1.trans (hB4.mono hV1.size)
            have hcv := bytes_of8 w4 S
            have hown5 := hown4.below (Lib.bytesWorld_below w4 5 S)
            have hV5 := hV4.trans ((Lib.bytesWorld_below w4 5 S).mono hV4.size)
            have hcells := bytes_cells8 w4 S
            have hbw5 := hV5.size
            have hown5' : (Lib.bytesWorld w4 5 S).ownsRow w.heap.size 5 1 (.slice (some ⟨gg, 0, none⟩) (L.length + 2) cap) (L ++ [sgn (s[k].toNat / 16), sgn (s[k].toNat % 16)]).length (Lib.byteCells (L ++ [sgn (s[k].toNat / 16), sgn (s[k].toNat % 16)])) := hown5
            have HC := Lib.hid hcells
            clear hown2 hown4 hV1 hV4 hB4 hcells hown5
            go_wp2_with (at_builtin; refine wpList_append_own _ rfl _ _ 32 rfl w.heap.size 5 i0 (.int .u8 0) 1 1 Tryd.underlying32 hi hz0 hz1 hz2 rfl (by decide) _ _ _ rfl hown5' ⟨w4.heap.size, 0, none⟩ S.size (grownCap w4 S.size 0 5) (Lib.byteCells S.data.toList) rfl (by rw [Lib.byteCells_length, len_listS]; omega) (by exact HC.out) (by exact cells_one8 _) (by unfold maxLen; simp; omega) (by simp; omega) (by omega) ?_; intro v6 w6 hown6 hgrow6 _)
            have hlS : S.data.toList.length = S.size := len_listS S
            have hown7 : OwnsC w.heap.size v6 (L ++ headD k ++ [sgn (s[k].toNat / 16), sgn (s[k].toNat % 16)] ++ tailD s k) w6 := by
              rw [HH.out, HTL.out]
              exact ownsC_more hlS.symm hown6
            have hV6 : Below w.heap.size w w6 := hV5.grown hgrow6 (by omega) (fun k hk => (hown5'.lt k hk).1)
            clear hown6 hgrow6 hown5' hV5 HC hcv HH HTL
            go_wp2
            go_roundw
            case rel => exact ⟨k + 1, _, by omega, by go_num, hown7, HN, hV6⟩
            case measure => simp [intOf]; omega
        · have tE : ((k : Int) == (s.size : Int) - 1) = false := by simp; omega
          have HTL : Hid (tailD s k = []) := by show tailD s k = _; unfold tailD; rw [if_neg (by omega)]
          obtain ⟨wX, rfl⟩ : ∃ wX : World, wX = wr := ⟨_, rfl⟩
          have hownX : wX.ownsRow w.heap.size 5 1 u3 L.length (Lib.byteCells L) := hown
          have hBX := hB
          have hbw := hB.size
          clear hown hB
          obtain ⟨e1, e2, e3, e4, e5⟩ := byte_sums s[k]
          go_wp2
          go_region_held3 (fun _ => True) (first | trivial | go_keep)
            ((first
              | (refine step_append_lies _ (by rfl) _ _ _ (by rfl) w.heap.size 5 i0 _ 1 1 Tryd.underlying32 hi hz0 hz1 hz2 rfl (by omega) u3 L.length (Lib.byteCells L) (by rfl) ((hownX.alloc _).drew) ⟨wX.heap.size, 0, none⟩ 2 2 [.int .u8 ((sgn (s[k].toNat / 16)).toNat : Int), .int .u8 ((sgn (s[k].toNat % 16)).toNat : Int)] (by rfl) (by rfl) (World.news_of_block (cs := #[.int .u8 ((sgn (s[k].toNat / 16)).toNat : Int), .int .u8 ((sgn (s[k].toNat % 16)).toNat : Int)]) (t := 5) (fr := (0, 0)) (heap_alloc_new wX _)) (by simp [Value.oneCell']) (by omega) (by unfold maxLen; omega) (by omega) (by simp; omega) (wX.heap.size + 1) (by simp) ?_; intro gg cap w1 hown1 hgrow hat hlt1)
              | (go_at_call 26; (with_reducible refine (sign_up s[k] _).mono ?_); rintro e w' ⟨rfl, rfl⟩)
              | (go_at_call 26; (with_reducible refine (sign_low s[k] _).mono ?_); rintro e w' ⟨rfl, rfl⟩)))
          all_goals
            clear e1 e2 e3 e4 e5
            have hV1 : Below w.heap.size w w1 := ((hBX.alloc hBX.size _).drew).grown hgrow (by have := hBX.size; simp; omega) (fun k hk => (hownX.lt k hk).1)
            have hown2 : OwnsC w.heap.size (.slice (some ⟨gg, 0, none⟩) (L.length + 2) cap) (L ++ [sgn (s[k].toNat / 16), sgn (s[k].toNat % 16)]) w1 := ownsC_two hown1
            clear hown1 hgrow hat hownX hBX
            have hown7 : OwnsC w.heap.size (.slice (some ⟨gg, 0, none⟩) (L.length + 2) cap) (L ++ headD k ++ [sgn (s[k].toNat / 16), sgn (s[k].toNat % 16)] ++ tailD s k) w1 := by
              rw [HH.out, HTL.out, List.append_nil]
              exact hown2
            clear hown2 HH HTL
            go_wp2
            go_roundw
            case rel => exact ⟨k + 1, _, by omega, by go_num, hown7, HN, hV1⟩
            case measure => simp [intOf]; omega
      · have HH : Hid (L ++ headD k = L ++ [32]) := by show L ++ headD k = L ++ [32]; unfold headD; rw [if_neg h16]
        have hz : 0 < (k : Int) % 16 := by omega
        have hown' : wr.ownsRow w.heap.size 5 1 u3 L.length (Lib.byteCells L) := hown
        go_wp2_with (at_builtin; refine wpList_append_own _ rfl _ _ 32 rfl w.heap.size 5 i0 (.int .u8 0) 1 1 Tryd.underlying32 hi hz0 hz1 hz2 rfl (by decide) _ _ _ rfl (hown'.alloc _) ⟨wr.heap.size, 0, none⟩ 1 1 [.int .u8 32] rfl rfl ?c1 ?c2 ?c3 ?c4 ?c5 ?_)
        case c1 =>
          intro t u hu
          match t, hu with
          | 0, hu => simp at hu; subst hu; simp [Addr.add]
        case c2 => intro u hu; simp at hu; subst hu; rfl
        case c3 => unfold maxLen; omega
        case c4 => omega
        case c5 => have := hB.size; simp; omega
        intro v2 w2 hown2 hgrow2 _
        have hB2 : Below w.heap.size w w2 := (hB.alloc hB.size _).grown hgrow2 (by have := hB.size; simp; omega) (fun k hk => (hown'.lt k hk).1)
        have hown3c := ownsC_one (x := 32) rfl hown2
        have hlen2 : (L ++ [32]).length ≤ 4000001 := by rw [List.length_append]; simp; omega
        have hbw := hB2.size
        clear hgrow2 hown2 hown hown' hB hlen
        obtain ⟨L2, hL2⟩ : ∃ L2, L ++ [32] = L2 := ⟨_, rfl⟩
        rw [hL2] at hown3c hlen2 HH
        clear hL2
        have hown3 : w2.ownsRow w.heap.size 5 1 v2 L2.length (Lib.byteCells L2) := hown3c
        clear hown3c
        by_cases h15 : k % 16 = 15
        · have t15 : ((k : Int) % 16 == 15) = true := by simp; omega
          have HTL : Hid (tailD s k = S.data.toList) := by show tailD s k = _; unfold tailD; rw [if_pos (Or.inl h15), HS.out]
          obtain ⟨e1, e2, e3, e4, e5⟩ := byte_sums s[k]
          go_wp2
          go_region_held3 (fun _ => True) (first | trivial | go_keep)
            ((first
              | (refine step_append_lies _ (by rfl) _ _ _ (by rfl) w.heap.size 5 i0 _ 1 1 Tryd.underlying32 hi hz0 hz1 hz2 rfl (by omega) v2 L2.length (Lib.byteCells L2) (by rfl) ((hown3.alloc _).drew) ⟨w2.heap.size, 0, none⟩ 2 2 [.int .u8 ((sgn (s[k].toNat / 16)).toNat : Int), .int .u8 ((sgn (s[k].toNat % 16)).toNat : Int)] (by rfl) (by rfl) (World.news_of_block (cs := #[.int .u8 ((sgn (s[k].toNat / 16)).toNat : Int), .int .u8 ((sgn (s[k].toNat % 16)).toNat : Int)]) (t := 5) (fr := (0, 0)) (heap_alloc_new w2 _)) (by simp [Value.oneCell']) (by omega) (by unfold maxLen; omega) (by omega) (by simp; omega) (w2.heap.size + 1) (by simp) ?_; intro gg cap w1 hown1 hgrow hat hlt1)
              | (go_at_call 26; (with_reducible refine (sign_up s[k] _).mono ?_); rintro e w' ⟨rfl, rfl⟩)
              | (go_at_call 26; (with_reducible refine (sign_low s[k] _).mono ?_); rintro e w' ⟨rfl, rfl⟩)))
          all_goals
            clear e1 e2 e3 e4 e5
            have hV1 : Below w.heap.size w w1 := ((hB2.alloc hB2.size _).drew).grown hgrow (by have := hB2.size; simp; omega) (fun k hk => (hown3.lt k hk).1)
            have hown2 : OwnsC w.heap.size (.slice (some ⟨gg, 0, none⟩) (L2.length + 2) cap) (L2 ++ [sgn (s[k].toNat / 16), sgn (s[k].toNat % 16)]) w1 := ownsC_two hown1
            clear hown1 hgrow hat hown3 hB2
            go_wp2_with fail
            refine (decimal_val _ (k - k % 16) t _ (by omega) (by omega) HT.out).mono ?_
            rintro e w4 ⟨rfl, hB4⟩
            have hown4 := hown2.below hB4
            have hV4 := hV1.trans (hB4.mono hV1.size)
            have hcv := bytes_of8 w4 S
            have hown5 := hown4.below (Lib.bytesWorld_below w4 5 S)
            have hV5 := hV4.trans ((Lib.bytesWorld_below w4 5 S).mono hV4.size)
            have hcells := bytes_cells8 w4 S
            have hbw5 := hV5.size
            have hown5' : (Lib.bytesWorld w4 5 S).ownsRow w.heap.size 5 1 (.slice (some ⟨gg, 0, none⟩) (L2.length + 2) cap) (L2 ++ [sgn (s[k].toNat / 16), sgn (s[k].toNat % 16)]).length (Lib.byteCells (L2 ++ [sgn (s[k].toNat / 16), sgn (s[k].toNat % 16)])) := hown5
            have HC := Lib.hid hcells
            clear hown2 hown4 hV1 hV4 hB4 hcells hown5
            go_wp2_with (at_builtin; refine wpList_append_own _ rfl _ _ 32 rfl w.heap.size 5 i0 (.int .u8 0) 1 1 Tryd.underlying32 hi hz0 hz1 hz2 rfl (by decide) _ _ _ rfl hown5' ⟨w4.heap.size, 0, none⟩ S.size (grownCap w4 S.size 0 5) (Lib.byteCells S.data.toList) rfl (by rw [Lib.byteCells_length, len_listS]; omega) (by exact HC.out) (by exact cells_one8 _) (by unfold maxLen; simp; omega) (by simp; omega) (by omega) ?_; intro v6 w6 hown6 hgrow6 _)
            have hlS : S.data.toList.length = S.size := len_listS S
            have hown7 : OwnsC w.heap.size v6 (L ++ headD k ++ [sgn (s[k].toNat / 16), sgn (s[k].toNat % 16)] ++ tailD s k) w6 := by
              rw [HH.out, HTL.out]
              exact ownsC_more hlS.symm hown6
            have hV6 : Below w.heap.size w w6 := hV5.grown hgrow6 (by omega) (fun k hk => (hown5'.lt k hk).1)
            clear hown6 hgrow6 hown5' hV5 HC hcv HH HTL
            go_wp2
            go_roundw
            case rel => exact ⟨k + 1, _, by omega, by go_num, hown7, HN, hV6⟩
            case measure => simp [intOf]; omega
        · have t15 : ((k : Int) % 16 == 15) = false := by simp; omega
          by_cases hend : k + 1 = s.size
          · have tE : ((k : Int) == (s.size : Int) - 1) = true := by simp; omega
            have HTL : Hid (tailD s k = S.data.toList) := by show tailD s k = _; unfold tailD; rw [if_pos (Or.inr hend), HS.out]
            obtain ⟨e1, e2, e3, e4, e5⟩ := byte_sums s[k]
            go_wp2
            go_region_held3 (fun _ => True) (first | trivial | go_keep)
              ((first
                | (refine step_append_lies _ (by rfl) _ _ _ (by rfl) w.heap.size 5 i0 _ 1 1 Tryd.underlying32 hi hz0 hz1 hz2 rfl (by omega) v2 L2.length (Lib.byteCells L2) (by rfl) ((hown3.alloc _).drew) ⟨w2.heap.size, 0, none⟩ 2 2 [.int .u8 ((sgn (s[k].toNat / 16)).toNat : Int), .int .u8 ((sgn (s[k].toNat % 16)).toNat : Int)] (by rfl) (by rfl) (World.news_of_block (cs := #[.int .u8 ((sgn (s[k].toNat / 16)).toNat : Int), .int .u8 ((sgn (s[k].toNat % 16)).toNat : Int)]) (t := 5) (fr := (0, 0)) (heap_alloc_new w2 _)) (by simp [Value.oneCell']) (by omega) (by unfold maxLen; omega) (by omega) (by simp; omega) (w2.heap.size + 1) (by simp) ?_; intro gg cap w1 hown1 hgrow hat hlt1)
                | (go_at_call 26; (with_reducible refine (sign_up s[k] _).mono ?_); rintro e w' ⟨rfl, rfl⟩)
                | (go_at_call 26; (with_reducible refine (sign_low s[k] _).mono ?_); rintro e w' ⟨rfl, rfl⟩)))
            all_goals
              clear e1 e2 e3 e4 e5
              have hV1 : Below w.heap.size w w1 := ((hB2.alloc hB2.size _).drew).grown hgrow (by have := hB2.size; simp; omega) (fun k hk => (hown3.lt k hk).1)
              have hown2 : OwnsC w.heap.size (.slice (some ⟨gg, 0, none⟩) (L2.length + 2) cap) (L2 ++ [sgn (s[k].toNat / 16), sgn (s[k].toNat % 16)]) w1 := ownsC_two hown1
              clear hown1 hgrow hat hown3 hB2
              go_wp2_with fail
              refine (decimal_val _ (k - k % 16) t _ (by omega) (by omega) HT.out).mono ?_
              rintro e w4 ⟨rfl, hB4⟩
              have hown4 := hown2.below hB4
              have hV4 := hV1.trans (hB4.mono hV1.size)
              have hcv := bytes_of8 w4 S
              have hown5 := hown4.below (Lib.bytesWorld_below w4 5 S)
              have hV5 := hV4.trans ((Lib.bytesWorld_below w4 5 S).mono hV4.size)
              have hcells := bytes_cells8 w4 S
              have hbw5 := hV5.size
              have hown5' : (Lib.bytesWorld w4 5 S).ownsRow w.heap.size 5 1 (.slice (some ⟨gg, 0, none⟩) (L2.length + 2) cap) (L2 ++ [sgn (s[k].toNat / 16), sgn (s[k].toNat % 16)]).length (Lib.byteCells (L2 ++ [sgn (s[k].toNat / 16), sgn (s[k].toNat % 16)])) := hown5
              have HC := Lib.hid hcells
              clear hown2 hown4 hV1 hV4 hB4 hcells hown5
              go_wp2_with (at_builtin; refine wpList_append_own _ rfl _ _ 32 rfl w.heap.size 5 i0 (.int .u8 0) 1 1 Tryd.underlying32 hi hz0 hz1 hz2 rfl (by decide) _ _ _ rfl hown5' ⟨w4.heap.size, 0, none⟩ S.size (grownCap w4 S.size 0 5) (Lib.byteCells S.data.toList) rfl (by rw [Lib.byteCells_length, len_listS]; omega) (by exact HC.out) (by exact cells_one8 _) (by unfold maxLen; simp; omega) (by simp; omega) (by omega) ?_; intro v6 w6 hown6 hgrow6 _)
              have hlS : S.data.toList.length = S.size := len_listS S
              have hown7 : OwnsC w.heap.size v6 (L ++ headD k ++ [sgn (s[k].toNat / 16), sgn (s[k].toNat % 16)] ++ tailD s k) w6 := by
                rw [HH.out, HTL.out]
                exact ownsC_more hlS.symm hown6
              have hV6 : Below w.heap.size w w6 := hV5.grown hgrow6 (by omega) (fun k hk => (hown5'.lt k hk).1)
              clear hown6 hgrow6 hown5' hV5 HC hcv HH HTL
              go_wp2
              go_roundw
              case rel => exact ⟨k + 1, _, by omega, by go_num, hown7, HN, hV6⟩
              case measure => simp [intOf]; omega
          · have tE : ((k : Int) == (s.size : Int) - 1) = false := by simp; omega
            have HTL : Hid (tailD s k = []) := by show tailD s k = _; unfold tailD; rw [if_neg (by omega)]
            obtain ⟨e1, e2, e3, e4, e5⟩ := byte_sums s[k]
            go_wp2
            go_region_held3 (fun _ => True) (first | trivial | go_keep)
              ((first
                | (refine step_append_lies _ (by rfl) _ _ _ (by rfl) w.heap.size 5 i0 _ 1 1 Tryd.underlying32 hi hz0 hz1 hz2 rfl (by omega) v2 L2.length (Lib.byteCells L2) (by rfl) ((hown3.alloc _).drew) ⟨w2.heap.size, 0, none⟩ 2 2 [.int .u8 ((sgn (s[k].toNat / 16)).toNat : Int), .int .u8 ((sgn (s[k].toNat % 16)).toNat : Int)] (by rfl) (by rfl) (World.news_of_block (cs := #[.int .u8 ((sgn (s[k].toNat / 16)).toNat : Int), .int .u8 ((sgn (s[k].toNat % 16)).toNat : Int)]) (t := 5) (fr := (0, 0)) (heap_alloc_new w2 _)) (by simp [Value.oneCell']) (by omega) (by unfold maxLen; omega) (by omega) (by simp; omega) (w2.heap.size + 1) (by simp) ?_; intro gg cap w1 hown1 hgrow hat hlt1)
                | (go_at_call 26; (with_reducible refine (sign_up s[k] _).mono ?_); rintro e w' ⟨rfl, rfl⟩)
                | (go_at_call 26; (with_reducible refine (sign_low s[k] _).mono ?_); rintro e w' ⟨rfl, rfl⟩)))
            all_goals
              clear e1 e2 e3 e4 e5
              have hV1 : Below w.heap.size w w1 := ((hB2.alloc hB2.size _).drew).grown hgrow (by have := hB2.size; simp; omega) (fun k hk => (hown3.lt k hk).1)
              have hown2 : OwnsC w.heap.size (.slice (some ⟨gg, 0, none⟩) (L2.length + 2) cap) (L2 ++ [sgn (s[k].toNat / 16), sgn (s[k].toNat % 16)]) w1 := ownsC_two hown1
              clear hown1 hgrow hat hown3 hB2
              have hown7 : OwnsC w.heap.size (.slice (some ⟨gg, 0, none⟩) (L2.length + 2) cap) (L ++ headD k ++ [sgn (s[k].toNat / 16), sgn (s[k].toNat % 16)] ++ tailD s k) w1 := by
                rw [HH.out, HTL.out, List.append_nil]
                exact hown2
              clear hown2 HH HTL
              go_wp2
              go_roundw
              case rel => exact ⟨k + 1, _, by omega, by go_num, hown7, HN, hV1⟩
              case measure => simp [intOf]; omega
    · have : k = s.size := by omega
      subst this
      have HL' : Hid (dumpL s.data.toList = L) := by
        have h := HL.out.2
        rw [List.drop_eq_nil_of_le (by rw [Array.length_toList]; exact Nat.le_refl _)] at h
        show dumpL s.data.toList = L
        rw [h]; simp [dpF]
      have hcv := ownsC_string hown
      go_wp2
      go_ret
      exact ⟨ret_strH (by rw [HL'.out]), hB⟩
end Go.Proofs.YtcgaloaagalnbaaDoor
