/-
  The walks of the laws DigestTexts and DigestReads.
-/
import Derived.Test.YtepcpjppogcjbaaDoorDgF
namespace Go.Proofs.YtepcpjppogcjbaaDoor
open Go.RowKit

/-- A digit, small; great ones made small. -/
theorem textL_small (s : List UInt8) : ∀ c ∈ textL s, (48 ≤ c.toNat ∧ c.toNat ≤ 57) ∨ (97 ≤ c.toNat ∧ c.toNat ≤ 102) := by
  have one : ∀ n : Nat, n < 16 → (48 ≤ (sgn n).toNat ∧ (sgn n).toNat ≤ 57) ∨ (97 ≤ (sgn n).toNat ∧ (sgn n).toNat ≤ 102) := fun n hn => by
    rw [sgn_val n hn]; split <;> omega
  induction s with
  | nil => intro c hc; cases hc
  | cons x r ih =>
    intro c hc
    have := x.toNat_lt
    rw [textL, List.mem_cons, List.mem_cons] at hc
    rcases hc with rfl | rfl | hc
    · exact one _ (by omega)
    · exact one _ (by omega)
    · exact ih c hc
def lowC (c : UInt8) : UInt8 := if 65 ≤ c.toNat ∧ c.toNat ≤ 70 then UInt8.ofNat (c.toNat + 32) else c
theorem sgn_dgt : ∀ n < 256, dgt (UInt8.ofNat n) ≠ 16 → sgn (dgt (UInt8.ofNat n)) = lowC (UInt8.ofNat n) := by decide +kernel
theorem sgn_low {c : UInt8} (h : dgt c ≠ 16) : sgn (dgt c) = lowC c := by
  have := sgn_dgt c.toNat c.toNat_lt
  rw [UInt8.ofNat_toNat] at this
  exact this h
theorem text_join (l : List UInt8) (hl : ∀ c ∈ l, dgt c ≠ 16) (he : l.length % 2 = 0) : textL (joinL l) = l.map lowC := by
  induction l using joinL.induct with
  | case1 a b r ih =>
    have ha := hl a (by simp)
    have hb := hl b (by simp)
    have ha' := dgt_val ha
    have hb' := dgt_val hb
    have e : (UInt8.ofNat (16 * dgt a + dgt b)).toNat = 16 * dgt a + dgt b := by
      rw [UInt8.toNat_ofNat']; exact Nat.mod_eq_of_lt (by omega)
    rw [joinL, textL, e, show (16 * dgt a + dgt b) / 16 = dgt a by omega, show (16 * dgt a + dgt b) % 16 = dgt b by omega, ih (fun c hc => hl c (by simp [hc])) (by simp at he ⊢; omega), sgn_low ha, sgn_low hb]
    rfl
  | case2 l h =>
    match l, h, he with
    | [], _, _ => rfl
    | [a], _, he => simp at he
    | a :: b :: r, h, _ => exact absurd rfl (h a b r)
theorem read_text {l : List UInt8} (h : goodD l = true) : dTextL (dRead l) = l.map lowC := by
  obtain ⟨h1, _, h3, h4, h5⟩ := good_len h
  unfold dRead dTextL
  rw [if_pos h, dB_bD h5, h4, loadL, join_load l h3, text_join l h3 (by omega)]
theorem dRead_ok (l : List UInt8) : (dRead l).ok := by
  unfold dRead
  split
  · exact bD_ok _
  · simp [D4.ok, zeroD, isW]
theorem getD_low (l : List UInt8) (k : Nat) (h : k < l.length) : (l.map lowC).getD k 0 = lowC (l.getD k 0) := by
  simp [List.getD, List.getElem?_eq_getElem h]
theorem low_int (c : UInt8) : ((lowC c).toNat : Int) = if 65 ≤ (c.toNat : Int) ∧ (c.toNat : Int) ≤ 70 then (c.toNat : Int) + 32 else (c.toNat : Int) := by
  have := c.toNat_lt
  unfold lowC
  by_cases h : 65 ≤ c.toNat ∧ c.toNat ≤ 70
  · rw [if_pos h, if_pos (by omega), UInt8.toNat_ofNat', Nat.mod_eq_of_lt (by omega)]; omega
  · rw [if_neg h, if_neg (by omega)]

set_option maxHeartbeats 4000000 in
theorem texts3_any (d : D4) (w : World) (hd : d.ok) (hL : DgOk w) : Calls Tryd.prog 7 #[.agg #[.int .u32 d.d0, .int .u32 d.d1, .int .u32 d.d2, .int .u32 d.d3]] w fun e w' => e = .returned (.bool true) ∧ Below w.heap.size w w' := by
  obtain ⟨t, ht⟩ : ∃ t : ByteArray, t.data.toList = dTextL d := ⟨⟨(dTextL d).toArray⟩, List.toList_toArray⟩
  have hts : t.size = 32 := by rw [← len_listH, ht, dTextL_len]
  have HT := Lib.hid ht
  have HSM : Hid (∀ c ∈ t.data.toList, (48 ≤ c.toNat ∧ c.toNat ≤ 57) ∨ (97 ≤ c.toNat ∧ c.toNat ≤ 102)) := by show ∀ c ∈ _, _; rw [ht]; exact textL_small _
  have HR : Hid (dRead t.data.toList = d ∧ dErr t.data.toList = 0) := by show _ ∧ _; rw [ht]; exact dRead_text hd
  have HTS := Lib.hid hts
  have q1 : ((t.size : Int) != 32) = false := by simp; omega
  have q2 : (t.size : Int) ≤ 32 := by omega
  clear ht hts
  obtain ⟨w0, hw0⟩ : ∃ w0, w.alloc (.cells #[.int .u32 d.d0, .int .u32 d.d1, .int .u32 d.d2, .int .u32 d.d3] 29) = w0 := ⟨_, rfl⟩
  have hA : Arr .u32 29 w.heap.size d.toL w0 := by rw [← hw0]; exact heap_alloc_new w _
  have hB : Below w.heap.size w w0 := by rw [← hw0]; exact (Below.refl _ _).alloc (Nat.le_refl _) _
  have HL := Lib.hid (hL.below hB)
  obtain ⟨c0, c1, c2, c3⟩ := hA.c4
  clear hL
  go_enter Tryd.func7, Tryd.ntmps7
  go_wp2_with fail
  clear hw0 c0 c1 c2 c3
  refine (textC d t w0 hd HL.out HT.out).mono ?_
  rintro e w1 ⟨rfl, hC⟩
  have HL1 := Lib.hid (HL.out.below hC)
  have hA1 := hA.on hC
  have hB1 := hB.trans (hC.mono hB.size)
  clear hA hB hC HL
  go_wp2_with fail
  clear q1
  go_loop [4] (fun i => ∃ k : Nat, k ≤ t.size ∧ i = .int .i64 k) (fun i => t.size - (intOf i).toNat)
  case atStart => exact ⟨0, by omega, rfl⟩
  case round =>
    obtain ⟨k, hk, rfl⟩ := hrel
    by_cases hlt : k < t.size
    · have hb := (t[k]).toNat_lt
      have hm := HSM.out t[k] (by
        have : t[k] ∈ t.data.toList.drop k := by rw [drop_one t k hlt]; simp
        exact List.mem_of_mem_drop this)
      by_cases hdg : t[k].toNat ≤ 57
      · have g1 : 48 ≤ (t[k].toNat : Int) := by omega
        have g2 : (t[k].toNat : Int) ≤ 57 := by omega
        clear hm hdg
        go_wp2_with fail
        go_round
        case rel => exact ⟨k + 1, by omega, by go_num⟩
        case measure => simp [intOf]; omega
      · have g1 : 97 ≤ (t[k].toNat : Int) := by omega
        have g2 : (t[k].toNat : Int) ≤ 102 := by omega
        have g3 : 57 < (t[k].toNat : Int) := by omega
        have g4 : 48 ≤ (t[k].toNat : Int) := by omega
        clear hm hdg
        go_wp2_with fail
        go_round
        case rel => exact ⟨k + 1, by omega, by go_num⟩
        case measure => simp [intOf]; omega
    · have : k = t.size := by omega
      subst this
      go_wp2_with fail
      refine (parseC t d 0 _ HL1.out HR.out).mono ?_
      rintro e w2 ⟨rfl, hC⟩
      have HL2 := Lib.hid (HL1.out.below hC)
      have hA2 := hA1.on hC
      have hB2 := hB1.trans (hC.mono hB1.size)
      clear hA1 hB1 hC HL1
      obtain ⟨w3, hw3⟩ : ∃ w3, w2.alloc (.cells #[.int .u32 d.d0, .int .u32 d.d1, .int .u32 d.d2, .int .u32 d.d3] 29) = w3 := ⟨_, rfl⟩
      have hA3 : Arr .u32 29 w.heap.size d.toL w3 := by rw [← hw3]; exact hA2.al _
      have hX3 : Arr .u32 29 w2.heap.size d.toL w3 := by rw [← hw3]; exact heap_alloc_new w2 _
      have hB3 : Below w.heap.size w w3 := by rw [← hw3]; exact hB2.alloc hB2.size _
      have HL3 := Lib.hid (show DgOk w3 by rw [← hw3]; exact HL2.out.al _)
      clear hA2 hB2 HL2
      go_wp2_with fail
      clear hw3
      generalize w2.heap.size = G at *
      refine (awakeD_any w3 HL3.out).mono ?_
      rintro e w4 ⟨rfl, hC⟩
      have HL4 := Lib.hid (HL3.out.below hC)
      have hA4 := hA3.on hC
      have hX4 := hX3.on hC
      have hB4 := hB3.trans (hC.mono hB3.size)
      clear hA3 hB3 hC HL3 hX3
      obtain ⟨c0, c1, c2, c3⟩ := hA4.c4
      obtain ⟨x0, x1, x2, x3⟩ := hX4.c4
      have hE := eqD_yes d
      go_wp2_with fail
      clear c0 c1 c2 c3 x0 x1 x2 x3 hE
      refine (textR d t w4 hd HT.out).mono ?_
      rintro e w5 ⟨rfl, hC⟩
      go_wp2_with fail
      go_ret
      exact ⟨rfl, hB4.trans (hC.mono hB4.size)⟩

theorem reads3_long (t : ByteArray) (w : World) (hL : DgOk w) (hl : 80 < t.size) : Calls Tryd.prog 8 #[.string t] w fun e w' => e = .returned (.bool true) ∧ Below w.heap.size w w' := by
  have HL := Lib.hid hL
  have h1 : (80 : Int) < t.size := by omega
  clear hL
  go_enter Tryd.func8, Tryd.ntmps8
  go_wp2_with fail
  refine (awakeD_any w HL.out).mono ?_
  rintro e w1 ⟨rfl, hB⟩
  go_wp2_with fail
  go_ret
  exact ⟨rfl, hB⟩
set_option maxHeartbeats 4000000 in
theorem reads3_walk (t s : ByteArray) (d : D4) (f : Int) (w : World) (hL : DgOk w) (hl : t.size ≤ 80) (hd : d.ok) (HR : Hid (dRead t.data.toList = d ∧ dErr t.data.toList = f)) (HS : Hid (s.data.toList = dTextL d))
    (hf : f = 3 ∨ f = 0 ∧ s.size = t.size ∧ Hid (s.data.toList = t.data.toList.map lowC)) :
    Calls Tryd.prog 8 #[.string t] w fun e w' => e = .returned (.bool true) ∧ Below w.heap.size w w' := by
  have HL := Lib.hid hL
  clear hL
  have HTS := Lib.hid (show t.size ≤ 1000000 by omega)
  have h1 : (t.size : Int) ≤ 80 := by omega
  go_enter Tryd.func8, Tryd.ntmps8
  go_wp2_with fail
  refine (parseC t d f w HL.out HR.out).mono ?_
  rintro e w1 ⟨rfl, hB⟩
  have HL1 := Lib.hid (HL.out.below hB)
  clear HL
  obtain ⟨w2, hw2⟩ : ∃ w2, w1.alloc (.cells #[.int .u32 d.d0, .int .u32 d.d1, .int .u32 d.d2, .int .u32 d.d3] 29) = w2 := ⟨_, rfl⟩
  have hA2 : Arr .u32 29 w1.heap.size d.toL w2 := by rw [← hw2]; exact heap_alloc_new w1 _
  have hB2 : Below w.heap.size w w2 := by rw [← hw2]; exact hB.alloc hB.size _
  have HL2 := Lib.hid (show DgOk w2 by rw [← hw2]; exact HL1.out.al _)
  clear hB HL1
  go_wp2_with fail
  clear hw2
  generalize w1.heap.size = G at *
  refine (parseR t d f w2 HTS.out HR.out).mono ?_
  rintro e w3 ⟨rfl, hC⟩
  have HL3 := Lib.hid (HL2.out.below hC)
  have hA3 := hA2.on hC
  have hB3 := hB2.trans (hC.mono hB2.size)
  clear hA2 hB2 hC HL2
  obtain ⟨w4, hw4⟩ : ∃ w4, w3.alloc (.cells #[.int .u32 d.d0, .int .u32 d.d1, .int .u32 d.d2, .int .u32 d.d3] 29) = w4 := ⟨_, rfl⟩
  have hA4 : Arr .u32 29 G d.toL w4 := by rw [← hw4]; exact hA3.al _
  have hX4 : Arr .u32 29 w3.heap.size d.toL w4 := by rw [← hw4]; exact heap_alloc_new w3 _
  have hB4 : Below w.heap.size w w4 := by rw [← hw4]; exact hB3.alloc hB3.size _
  have HL4 := Lib.hid (show DgOk w4 by rw [← hw4]; exact HL3.out.al _)
  clear hA3 hB3 HL3
  obtain ⟨c0, c1, c2, c3⟩ := hA4.c4
  obtain ⟨x0, x1, x2, x3⟩ := hX4.c4
  have hE := eqD_yes d
  rcases hf with rfl | ⟨rfl, hss, HM⟩
  · go_wp2_with fail
    clear hw4 c0 c1 c2 c3 x0 x1 x2 x3 hE
    refine (awakeD_any w4 HL4.out).mono ?_
    rintro e w5 ⟨rfl, hC⟩
    go_wp2_with fail
    go_ret
    exact ⟨rfl, hB4.trans (hC.mono hB4.size)⟩
  · have HSS := Lib.hid hss
    clear hss
    go_wp2_with fail
    clear hw4 c0 c1 c2 c3 x0 x1 x2 x3 hE
    refine (textC d s w4 hd HL4.out HS.out).mono ?_
    rintro e w5 ⟨rfl, hC⟩
    have HL5 := Lib.hid (HL4.out.below hC)
    have hB5 := hB4.trans (hC.mono hB4.size)
    clear hA4 hX4 hB4 hC HL4
    go_wp2_with fail
    go_loop [8] (fun i => ∃ k : Nat, k ≤ t.size ∧ i = .int .i64 k) (fun i => t.size - (intOf i).toNat)
    case atStart => exact ⟨0, by omega, rfl⟩
    case round =>
      obtain ⟨k, hk, rfl⟩ := hrel
      by_cases hlt : k < t.size
      · have hb := (t[k]).toNat_lt
        have hks : k < s.size := by rw [HSS.out]; exact hlt
        have HC : Hid ((s[k].toNat : Int) = ((lowC t[k]).toNat : Int)) := by
          show _ = _
          rw [← getD_at s k hks, HM.out, getD_low _ _ (by rw [len_listH]; exact hlt), getD_at t k hlt]
        by_cases hgr : 65 ≤ (t[k].toNat : Int) ∧ (t[k].toNat : Int) ≤ 70
        · have e1 : (s[k].toNat : Int) = (t[k].toNat : Int) + 32 := by rw [HC.out, low_int, if_pos hgr]
          obtain ⟨g1, g2⟩ := hgr
          have hki : (k : Int) < s.size := by omega
          go_wp2_with fail
          go_round
          case rel => exact ⟨k + 1, by omega, by go_num⟩
          case measure => simp [intOf]; omega
        · have e1 : (s[k].toNat : Int) = (t[k].toNat : Int) := by rw [HC.out, low_int, if_neg hgr]
          have hki : (k : Int) < s.size := by omega
          by_cases g1 : 65 ≤ (t[k].toNat : Int)
          · have g2 : 70 < (t[k].toNat : Int) := by omega
            clear hgr
            go_wp2_with fail
            go_round
            case rel => exact ⟨k + 1, by omega, by go_num⟩
            case measure => simp [intOf]; omega
          · have g2 : (t[k].toNat : Int) < 65 := by omega
            clear hgr g1
            go_wp2_with fail
            go_round
            case rel => exact ⟨k + 1, by omega, by go_num⟩
            case measure => simp [intOf]; omega
      · have : k = t.size := by omega
        subst this
        go_wp2_with fail
        refine (awakeD_any w5 HL5.out).mono ?_
        rintro e w6 ⟨rfl, hC⟩
        go_wp2_with fail
        go_ret
        exact ⟨rfl, hB5.trans (hC.mono hB5.size)⟩
theorem reads3_any (t : ByteArray) (w : World) (hL : DgOk w) : Calls Tryd.prog 8 #[.string t] w fun e w' => e = .returned (.bool true) ∧ Below w.heap.size w w' := by
  by_cases hl : 80 < t.size
  · exact reads3_long t w hL hl
  · obtain ⟨s, hs⟩ : ∃ s : ByteArray, s.data.toList = dTextL (dRead t.data.toList) := ⟨⟨(dTextL (dRead t.data.toList)).toArray⟩, List.toList_toArray⟩
    refine reads3_walk t s _ _ w hL (by omega) (dRead_ok _) ⟨rfl, rfl⟩ hs ?_
    by_cases h : goodD t.data.toList = true
    · refine Or.inr ⟨by unfold dErr; rw [if_pos h], ?_, ?_⟩
      · rw [← len_listH s, ← len_listH t, hs, read_text h, List.length_map]
      · show _ = _
        rw [hs, read_text h]
    · exact Or.inl (by unfold dErr; rw [if_neg h])

end Go.Proofs.YtepcpjppogcjbaaDoor
