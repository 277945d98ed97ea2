/-
  KeysRow, of a tree of height 1: the walk (written by gen_law67.py).
-/
import Derived.Test.YtdphhpmkcalahaaDoorKyW
import Derived.Deep.CutRange
import Derived.Deep.LoopGhost
import Derived.Deep.RegionHeld3
namespace Go.Proofs.YtdphhpmkcalahaaDoor
open Go.RowKit
set_option maxHeartbeats 8000000 in
set_option maxRecDepth 100000 in
theorem row_high (s : D4) (l : List D4) (hs : s.ok) (hlo : allD4 l) (p : Option Addr) (n c : Nat) (hn : n = l.length) (hc : n ≤ c) (_hcm : c ≤ maxLen) (h4 : n ≤ 4) (w : World) (hrl : RdS w p l) (hT : TurnsOk w) :
    Calls Tryd.prog 7 #[.agg #[.int .u32 s.d0, .int .u32 s.d1, .int .u32 s.d2, .int .u32 s.d3], .bool true, .slice p n c] w fun e w' => e = .returned (.bool true) ∧ Below w.heap.size w w' := by
  have hl4 : decide ((4 : Int) < (n : Int)) = false := by simp; omega
  obtain ⟨v, hv⟩ : ∃ v, pubK s 1 = v := ⟨_, rfl⟩
  have HV := Lib.hid hv
  have HLO := Lib.hid hlo
  have HN := Lib.hid hn
  have HRL := Lib.hid hrl
  have HT0 := Lib.hid hT
  clear hrl
  have HH : Hid (((1 : Nat) : Int) = 1) := rfl
  clear hv hlo hn
  obtain ⟨w1, hw1⟩ : ∃ w', w.alloc (.cells #[.int .u32 s.d0, .int .u32 s.d1, .int .u32 s.d2, .int .u32 s.d3] 24) = w' := ⟨_, rfl⟩
  have hS : Box 24 w.heap.size [.int .u32 s.d0, .int .u32 s.d1, .int .u32 s.d2, .int .u32 s.d3] w1 := by rw [← hw1]; exact Box.new 24 [.int .u32 s.d0, .int .u32 s.d1, .int .u32 s.d2, .int .u32 s.d3] w
  have hD : Below w.heap.size w w1 := by rw [← hw1]; exact (Below.refl _ _).alloc (Nat.le_refl _) _
  have hB := hD
  replace hT := hT.below hD
  clear hD
  go_enter Tryd.func7, Tryd.ntmps7
  have chS0 := hS.cell (j := 0) (v := .int .u32 s.d0) rfl
  have chS1 := hS.cell (j := 1) (v := .int .u32 s.d1) rfl
  have chS2 := hS.cell (j := 2) (v := .int .u32 s.d2) rfl
  have chS3 := hS.cell (j := 3) (v := .int .u32 s.d3) rfl
  go_wp2_with fail
  clear hw1 chS0 chS1 chS2 chS3
  refine (awake6_any w1 hT).mono ?_
  rintro e w2 ⟨rfl, hD⟩
  replace hS := hS.on hD
  replace hB := hB.trans (hD.mono hB.size)
  replace hT := hT.below hD
  clear hD
  have chS0 := hS.cell (j := 0) (v := .int .u32 s.d0) rfl
  have chS1 := hS.cell (j := 1) (v := .int .u32 s.d1) rfl
  have chS2 := hS.cell (j := 2) (v := .int .u32 s.d2) rfl
  have chS3 := hS.cell (j := 3) (v := .int .u32 s.d3) rfl
  go_wp2_with fail
  clear chS0 chS1 chS2 chS3
  refine (cnew_lit s 1 1 w2 (by decide) HH.out).mono ?_
  rintro e w3 ⟨rfl, hD⟩
  replace hS := hS.on hD
  replace hB := hB.trans (hD.mono hB.size)
  replace hT := hT.below hD
  clear hD
  have hwN := hB.size
  obtain ⟨w4, hw4⟩ : ∃ w', w3.alloc (.cells #[.int .u32 s.d0, .int .u32 s.d1, .int .u32 s.d2, .int .u32 s.d3, .int .i64 1, .int .i64 0] 30) = w' := ⟨_, rfl⟩
  have hN : Box 30 w3.heap.size [.int .u32 s.d0, .int .u32 s.d1, .int .u32 s.d2, .int .u32 s.d3, .int .i64 1, .int .i64 0] w4 := by rw [← hw4]; exact Box.new 30 [.int .u32 s.d0, .int .u32 s.d1, .int .u32 s.d2, .int .u32 s.d3, .int .i64 1, .int .i64 0] w3
  have hD : Below w3.heap.size w3 w4 := by rw [← hw4]; exact (Below.refl _ _).alloc (Nat.le_refl _) _
  have zhN5 := hN.cell (j := 5) (v := .int .i64 0) rfl
  have yhN5 := hN.fz 5
  obtain ⟨w5, hw5⟩ : ∃ w', (w4.setCell ⟨w3.heap.size, 5, none⟩ (.int .i64 0)) = w' := ⟨_, rfl⟩
  replace hN : Box 30 w3.heap.size [.int .u32 s.d0, .int .u32 s.d1, .int .u32 s.d2, .int .u32 s.d3, .int .i64 1, .int .i64 0] w5 := by rw [← hw5]; exact (hN.set 5 (.int .i64 0))
  replace hD : Below w3.heap.size w3 w5 := by rw [← hw5]; exact (hD.setCell (p := ⟨w3.heap.size, 5, none⟩) (Nat.le_refl _) (.int .i64 0))
  replace hS := hS.on hD
  replace hB := hB.trans (hD.mono hB.size)
  replace hT := hT.below hD
  clear hD
  have chS0 := hS.cell (j := 0) (v := .int .u32 s.d0) rfl
  have chS1 := hS.cell (j := 1) (v := .int .u32 s.d1) rfl
  have chS2 := hS.cell (j := 2) (v := .int .u32 s.d2) rfl
  have chS3 := hS.cell (j := 3) (v := .int .u32 s.d3) rfl
  go_wp2_with fail
  clear hw4 zhN5 yhN5 hw5 chS0 chS1 chS2 chS3
  refine (cpub_lit s v 1 1 w5 hs (by decide) hT HV.out HH.out).mono ?_
  rintro e w6 ⟨rfl, hD⟩
  replace hS := hS.on hD
  replace hN := hN.on hD
  replace hB := hB.trans (hD.mono hB.size)
  replace hT := hT.below hD
  clear hD
  have hnp := Nat.ne_of_lt hN.lt
  obtain ⟨w7, hw7⟩ : ∃ w', w6.alloc (.cells #[.int .u32 v.d0, .int .u32 v.d1, .int .u32 v.d2, .int .u32 v.d3] 24) = w' := ⟨_, rfl⟩
  have hP : Box 24 w6.heap.size [.int .u32 v.d0, .int .u32 v.d1, .int .u32 v.d2, .int .u32 v.d3] w7 := by rw [← hw7]; exact Box.new 24 [.int .u32 v.d0, .int .u32 v.d1, .int .u32 v.d2, .int .u32 v.d3] w6
  have hD : Below w6.heap.size w6 w7 := by rw [← hw7]; exact (Below.refl _ _).alloc (Nat.le_refl _) _
  replace hS := hS.on hD
  replace hN := hN.on hD
  replace hB := hB.trans (hD.mono hB.size)
  replace hT := hT.below hD
  clear hD
  go_wp2_with fail
  clear hw7
  go_loopg [13] n (fun k i wr => ∃ j : Nat, k = n - j ∧ j ≤ n ∧ i = .int .i64 (j : Int) ∧ Box 30 (w3.heap.size) [.int .u32 s.d0, .int .u32 s.d1, .int .u32 s.d2, .int .u32 s.d3, .int .i64 1, .int .i64 ((min j 2 : Nat) : Int)] wr ∧ Box 24 (w6.heap.size) [.int .u32 v.d0, .int .u32 v.d1, .int .u32 v.d2, .int .u32 v.d3] wr ∧ Below w.heap.size w wr)
  case atStart => exact ⟨0, rfl, Nat.zero_le _, rfl, hN, hP, hB⟩
  case round =>
    clear hN hP hB hT hS
    obtain ⟨j, hgk, hj, rfl, hN, hP, hB⟩ := hrel
    have hrl := HRL.out.on hB
    have hT := HT0.out.below hB
    by_cases hlt : j < n
    · have hjd : decide ((j : Int) < (n : Int)) = true := by simp; omega
      have hj0 : (0 : Int) ≤ (j : Int) := by omega
      have hjn : (j : Int) < (n : Int) := by omega
      obtain ⟨bl, ol, rfl, hr0⟩ := hrl (by intro e; have := HN.out; rw [e] at this; simp at this; omega)
      obtain ⟨m, hm⟩ : ∃ m, l.getD j zeroD = m := ⟨_, rfl⟩
      have hmo : m.ok := by
        have hjl : j < l.length := by have := HN.out; omega
        rw [← hm, List.getD_eq_getElem?_getD, List.getElem?_eq_getElem hjl]
        exact HLO.out _ (List.getElem_mem hjl)
      have hc4 := hr0.2 j (by have := HN.out; omega)
      rw [hm] at hc4
      have hbl := hr0.1
      have hNl := hN.lt
      clear hm
      by_cases hlo : j < 2
      · rw [show min j 2 = j by omega] at hN
        obtain ⟨L, hL⟩ : ∃ l, signL (seedK s j) m = l := ⟨_, rfl⟩
        obtain ⟨Q, hQ⟩ : ∃ l, pathK s 1 j = l := ⟨_, rfl⟩
        obtain ⟨N, hN0⟩ : ∃ N, Q.length = N := ⟨_, rfl⟩
        have hj2 : j < 2 ^ 1 := Nat.lt_of_lt_of_le hlo (by decide)
        have HLO2 := Lib.hid (show allD4 L by rw [← hL]; exact signL_ok m (seedK_ok _ _))
        have HLN := Lib.hid (show 35 = L.length by rw [← hL]; exact (signL_len _ _).symm)
        have HQO := Lib.hid (show allD4 Q by rw [← hQ]; exact pathK_ok s 1 j hj2)
        have HQ0 := Lib.hid (show Q ≠ [] by intro e; have := pathK_len_eq s 1 j; rw [hQ, e] at this; simp at this)
        have HC := Lib.hid (show check6 v m (j : Int) L Q = true by rw [← HV.out, ← hL, ← hQ]; exact check6_sign s m 1 j (by decide) hj2)
        have HL := Lib.hid hL
        have HQ := Lib.hid hQ
        have HN0 := Lib.hid hN0
        have HJ2 := Lib.hid hj2
        clear hL hQ hN0 hj2
        have hmd : decide ((2 : Int) ≤ (j : Int)) = false := by simp; omega
        go_upto_region 17 with fail
        go_cut [14, 15, 16] from 41 to 85 (fun sa sb se wx => ∃ ba bb g p1 c1, sa = .pointer (some ⟨ba, 0, none⟩) ∧ sb = .pointer (some ⟨bb, 0, none⟩) ∧ se = .int .i64 0 ∧ wr.heap.size ≤ ba ∧ Box 30 ba [.int .u32 s.d0, .int .u32 s.d1, .int .u32 s.d2, .int .u32 s.d3, .int .i64 1, .int .i64 ((j : Int) + 1)] wx ∧ Box 38 bb [.int .i64 (j : Int), .slice (some ⟨g, 0, none⟩) 35 35, .slice p1 N c1] wx ∧ RdS wx (some ⟨g, 0, none⟩) L ∧ RdS wx p1 Q ∧ N ≤ c1 ∧ c1 ≤ maxLen ∧ Below wr.heap.size wr wx)
        case first =>
          have hkS : ∀ W : World, Below wr.heap.size wr W → (W.cell? ⟨w3.heap.size, 0, none⟩ = some (.int .u32 s.d0) ∧ W.cell? ⟨w3.heap.size, 1, none⟩ = some (.int .u32 s.d1) ∧ W.cell? ⟨w3.heap.size, 2, none⟩ = some (.int .u32 s.d2) ∧ W.cell? ⟨w3.heap.size, 3, none⟩ = some (.int .u32 s.d3) ∧ W.cell? ⟨w3.heap.size, 4, none⟩ = some (.int .i64 1) ∧ W.cell? ⟨w3.heap.size, 5, none⟩ = some (.int .i64 (j : Int)) ∧ W.cell? ⟨bl, ol + j * 4, none⟩ = some (.int .u32 m.d0) ∧ W.cell? ⟨bl, ol + j * 4 + 1, none⟩ = some (.int .u32 m.d1) ∧ W.cell? ⟨bl, ol + j * 4 + 2, none⟩ = some (.int .u32 m.d2) ∧ W.cell? ⟨bl, ol + j * 4 + 3, none⟩ = some (.int .u32 m.d3)) := fun W h => by
            have hn := hN.on h
            have hc := hc4.on h hbl
            exact ⟨hn.cell rfl, hn.cell rfl, hn.cell rfl, hn.cell rfl, hn.cell rfl, hn.cell rfl, hc.1, hc.2.1, hc.2.2.1, hc.2.2.2⟩
          have hB0 : Below wr.heap.size wr wr.drew := (Below.refl _ _).drew
          have hT0 := hT
          refine wp_region_held_drew (S := fun w' => w'.cell? ⟨w3.heap.size, 0, none⟩ = some (.int .u32 s.d0) ∧ w'.cell? ⟨w3.heap.size, 1, none⟩ = some (.int .u32 s.d1) ∧ w'.cell? ⟨w3.heap.size, 2, none⟩ = some (.int .u32 s.d2) ∧ w'.cell? ⟨w3.heap.size, 3, none⟩ = some (.int .u32 s.d3) ∧ w'.cell? ⟨w3.heap.size, 4, none⟩ = some (.int .i64 1) ∧ w'.cell? ⟨w3.heap.size, 5, none⟩ = some (.int .i64 (j : Int)) ∧ w'.cell? ⟨bl, ol + j * 4, none⟩ = some (.int .u32 m.d0) ∧ w'.cell? ⟨bl, ol + j * 4 + 1, none⟩ = some (.int .u32 m.d1) ∧ w'.cell? ⟨bl, ol + j * 4 + 2, none⟩ = some (.int .u32 m.d2) ∧ w'.cell? ⟨bl, ol + j * 4 + 3, none⟩ = some (.int .u32 m.d3)) (by kernel_rfl) (hkS _ hB0) (fun hHeld => ?_)
          clear hP hB hrl
          generalize wr.drew = W0 at *
          refine wpAnyH_take (i := 0) (oi := _) (v := ?vvq1) rfl (by kernel_rfl) (by kernel_rfl) (by kernel_rfl) (fun _ _ _ h => h) (Or.inl ⟨by kernel_rfl, ?hyq1⟩) hHeld ?restq1
          case hyq1 => intro w hSw; (try dsimp only at hSw); (try go_split_ands); go_simp; try with_reducible rfl
          try simp only [List.getElem_toArray, List.getElem_cons_zero, Act.put, List.setIfInBounds_toArray, List.set_cons_zero, List.set_cons_succ]
          refine wpAnyH_take (i := 1) (oi := _) (v := ?vvq2) rfl (by kernel_rfl) (by kernel_rfl) (by kernel_rfl) (fun _ _ _ h => h) (Or.inl ⟨by kernel_rfl, ?hyq2⟩) hHeld ?restq2
          case hyq2 => intro w hSw; (try dsimp only at hSw); (try go_split_ands); go_simp; try with_reducible rfl
          try simp only [List.getElem_toArray, List.getElem_cons_succ, List.getElem_cons_zero, Act.put, List.setIfInBounds_toArray, List.set_cons_zero, List.set_cons_succ]
          refine wpAnyH_take (i := 2) (oi := _) (v := ?vvq3) rfl (by kernel_rfl) (by kernel_rfl) (by kernel_rfl) (fun _ _ _ h => h) (Or.inl ⟨by kernel_rfl, ?hyq3⟩) hHeld ?restq3
          case hyq3 => intro w hSw; (try dsimp only at hSw); (try go_split_ands); go_simp; try with_reducible rfl
          try simp only [List.getElem_toArray, List.getElem_cons_succ, List.getElem_cons_zero, Act.put, List.setIfInBounds_toArray, List.set_cons_zero, List.set_cons_succ]
          refine wpAnyH_take (i := 3) (oi := _) (v := ?vvq4) rfl (by kernel_rfl) (by kernel_rfl) (by kernel_rfl) (fun _ _ _ h => h) (Or.inl ⟨by kernel_rfl, ?hyq4⟩) hHeld ?restq4
          case hyq4 => intro w hSw; (try dsimp only at hSw); (try go_split_ands); go_simp; try with_reducible rfl
          try simp only [List.getElem_toArray, List.getElem_cons_succ, List.getElem_cons_zero, Act.put, List.setIfInBounds_toArray, List.set_cons_zero, List.set_cons_succ]
          refine wpAnyH_take (i := 4) (oi := _) (v := ?vvq5) rfl (by kernel_rfl) (by kernel_rfl) (by kernel_rfl) (fun _ _ _ h => h) (Or.inl ⟨by kernel_rfl, ?hyq5⟩) hHeld ?restq5
          case hyq5 => intro w hSw; (try dsimp only at hSw); (try go_split_ands); go_simp; try with_reducible rfl
          try simp only [List.getElem_toArray, List.getElem_cons_succ, List.getElem_cons_zero, Act.put, List.setIfInBounds_toArray, List.set_cons_zero, List.set_cons_succ]
          refine wpAnyH_ready (rs := [5, 10, 11]) (by kernel_rfl) (by simp) ?_
          refine AllReadyH.cons (o := _) rfl (fun K hK => ?_) ?_
          · go_simp
            refine (cuse_yes s m 1 j 1 L Q W0 hs (hT0.below hB0) hmo (by decide) HJ2.out HL.out HQ.out N HN0.out HH.out).mono ?_
            rintro e W6 ⟨g6, p6, c6, rfl, hgB6, hl6, hO6, hD6⟩
            go_wp2_with fail
            have hB6' := hB0.trans (hD6.mono hB0.size)
            have hu6 := hO6.use
            obtain ⟨b6q, o6q, e6q, hq6⟩ := hu6.2.1 HQ0.out
            subst e6q
            have hqB6 : W0.heap.size ≤ b6q := (World.ownsRow.lt hO6 b6q rfl).1
            have hcc6 := hu6.2.2.1
            have hcm6 := hu6.2.2.2
            clear hu6 hO6
            refine hK.out _ _ (hkS _ hB6') (fun hHeld => ?_)
            clear hK K
            try simp only [List.getElem_toArray, List.getElem_cons_succ, List.getElem_cons_zero, Act.put, List.setIfInBounds_toArray, List.set_cons_zero, List.set_cons_succ]
            refine wpAnyH_take (i := 6) (oi := _) (v := ?vvq7) rfl (by kernel_rfl) (by kernel_rfl) (by kernel_rfl) (fun _ _ _ h => h) (Or.inl ⟨by kernel_rfl, ?hyq7⟩) hHeld ?restq7
            case hyq7 => intro w hSw; (try dsimp only at hSw); (try go_split_ands); go_simp; try with_reducible rfl
            try simp only [List.getElem_toArray, List.getElem_cons_succ, List.getElem_cons_zero, Act.put, List.setIfInBounds_toArray, List.set_cons_zero, List.set_cons_succ]
            refine wpAnyH_take (i := 7) (oi := _) (v := ?vvq8) rfl (by kernel_rfl) (by kernel_rfl) (by kernel_rfl) (fun _ _ _ h => h) (Or.inl ⟨by kernel_rfl, ?hyq8⟩) hHeld ?restq8
            case hyq8 => intro w hSw; (try dsimp only at hSw); (try go_split_ands); go_simp; try with_reducible rfl
            try simp only [List.getElem_toArray, List.getElem_cons_succ, List.getElem_cons_zero, Act.put, List.setIfInBounds_toArray, List.set_cons_zero, List.set_cons_succ]
            refine wpAnyH_take (i := 8) (oi := _) (v := ?vvq9) rfl (by kernel_rfl) (by kernel_rfl) (by kernel_rfl) (fun _ _ _ h => h) (Or.inl ⟨by kernel_rfl, ?hyq9⟩) hHeld ?restq9
            case hyq9 => intro w hSw; (try dsimp only at hSw); (try go_split_ands); go_simp; try with_reducible rfl
            try simp only [List.getElem_toArray, List.getElem_cons_succ, List.getElem_cons_zero, Act.put, List.setIfInBounds_toArray, List.set_cons_zero, List.set_cons_succ]
            refine wpAnyH_take (i := 9) (oi := _) (v := ?vvq10) rfl (by kernel_rfl) (by kernel_rfl) (by kernel_rfl) (fun _ _ _ h => h) (Or.inl ⟨by kernel_rfl, ?hyq10⟩) hHeld ?restq10
            case hyq10 => intro w hSw; (try dsimp only at hSw); (try go_split_ands); go_simp; try with_reducible rfl
            try simp only [List.getElem_toArray, List.getElem_cons_succ, List.getElem_cons_zero, Act.put, List.setIfInBounds_toArray, List.set_cons_zero, List.set_cons_succ]
            refine wpAnyH_ready (rs := [10, 11]) (by kernel_rfl) (by simp) ?_
            refine AllReadyH.cons (o := _) rfl (fun K hK => ?_) ?_
            · go_simp
              have hF11 := Box.new 30 [.int .u32 0, .int .u32 0, .int .u32 0, .int .u32 0, .int .i64 0, .int .i64 0] W6
              have hB11' := hB6'.alloc hB6'.size (.cells #[.int .u32 0, .int .u32 0, .int .u32 0, .int .u32 0, .int .i64 0, .int .i64 0] 30)
              have hge11 := hB6'.size
              have hl11 := rdl_al6 hl6 (.cells #[.int .u32 0, .int .u32 0, .int .u32 0, .int .u32 0, .int .i64 0, .int .i64 0] 30)
              have hgn11 : g6 ≠ W6.heap.size := Nat.ne_of_lt hl6.1
              have hq11 := rdl_al6 hq6 (.cells #[.int .u32 0, .int .u32 0, .int .u32 0, .int .u32 0, .int .i64 0, .int .i64 0] 30)
              have hqn11 : b6q ≠ W6.heap.size := Nat.ne_of_lt hq6.1
              generalize W6.alloc (.cells #[.int .u32 0, .int .u32 0, .int .u32 0, .int .u32 0, .int .i64 0, .int .i64 0] 30) = W11 at *
              generalize W6.heap.size = b11 at *
              refine hK.out _ _ (hkS _ hB11') (fun hHeld => ?_)
              clear hK K
              try simp only [List.getElem_toArray, List.getElem_cons_succ, List.getElem_cons_zero, Act.put, List.setIfInBounds_toArray, List.set_cons_zero, List.set_cons_succ]
              refine wpAnyH_ready (rs := [11]) (by kernel_rfl) (by simp) ?_
              refine AllReadyH.cons (o := _) rfl (fun K hK => ?_) AllReadyH.nil
              go_simp
              have hF12 := Box.new 38 [.int .i64 0, .slice none 0 0, .slice none 0 0] W11
              have hB12' := hB11'.alloc hB11'.size (.cells #[.int .i64 0, .slice none 0 0, .slice none 0 0] 38)
              have hge12 := hB11'.size
              have hO12 := hF11.al (.cells #[.int .i64 0, .slice none 0 0, .slice none 0 0] 38)
              have hne12 : b11 ≠ W11.heap.size := Nat.ne_of_lt hF11.lt
              have hl12 := rdl_al6 hl11 (.cells #[.int .i64 0, .slice none 0 0, .slice none 0 0] 38)
              have hgn12 : g6 ≠ W11.heap.size := Nat.ne_of_lt hl11.1
              have hq12 := rdl_al6 hq11 (.cells #[.int .i64 0, .slice none 0 0, .slice none 0 0] 38)
              have hqn12 : b6q ≠ W11.heap.size := Nat.ne_of_lt hq11.1
              generalize W11.alloc (.cells #[.int .i64 0, .slice none 0 0, .slice none 0 0] 38) = W12 at *
              generalize W11.heap.size = b12 at *
              refine hK.out _ _ (hkS _ hB12') (fun hHeld => ?_)
              clear hK K
              try simp only [List.getElem_toArray, List.getElem_cons_succ, List.getElem_cons_zero, Act.put, List.setIfInBounds_toArray, List.set_cons_zero, List.set_cons_succ]
              refine wpAnyH_ready (rs := [12]) (by kernel_rfl) (by simp) ?_
              refine AllReadyH.cons (o := _) rfl (fun K hK => ?_) AllReadyH.nil
              have z13_0 := hO12.cell (j := 0) (v := .int .u32 0) rfl
              have y13_0 := hO12.fz 0
              have z13_1 := hO12.cell (j := 1) (v := .int .u32 0) rfl
              have y13_1 := hO12.fz 1
              have z13_2 := hO12.cell (j := 2) (v := .int .u32 0) rfl
              have y13_2 := hO12.fz 2
              have z13_3 := hO12.cell (j := 3) (v := .int .u32 0) rfl
              have y13_3 := hO12.fz 3
              have z13_4 := hO12.cell (j := 4) (v := .int .i64 0) rfl
              have y13_4 := hO12.fz 4
              have z13_5 := hO12.cell (j := 5) (v := .int .i64 0) rfl
              have y13_5 := hO12.fz 5
              go_simp
              clear z13_0 y13_0 z13_1 y13_1 z13_2 y13_2 z13_3 y13_3 z13_4 y13_4 z13_5 y13_5
              have hA13 : Box 30 b11 [.int .u32 s.d0, .int .u32 s.d1, .int .u32 s.d2, .int .u32 s.d3, .int .i64 1, .int .i64 ((j : Int) + 1)] ((((((W12.setCell ⟨b11, 0, none⟩ (.int .u32 s.d0)).setCell ⟨b11, 1, none⟩ (.int .u32 s.d1)).setCell ⟨b11, 2, none⟩ (.int .u32 s.d2)).setCell ⟨b11, 3, none⟩ (.int .u32 s.d3)).setCell ⟨b11, 4, none⟩ (.int .i64 1)).setCell ⟨b11, 5, none⟩ (.int .i64 ((j : Int) + 1))) := ((((((hO12.set 0 (.int .u32 s.d0)).set 1 (.int .u32 s.d1)).set 2 (.int .u32 s.d2)).set 3 (.int .u32 s.d3)).set 4 (.int .i64 1)).set 5 (.int .i64 ((j : Int) + 1)))
              have hX13 := ((((((hF12.far (a := ⟨b11, 0, none⟩) (Ne.symm hne12) (.int .u32 s.d0)).far (a := ⟨b11, 1, none⟩) (Ne.symm hne12) (.int .u32 s.d1)).far (a := ⟨b11, 2, none⟩) (Ne.symm hne12) (.int .u32 s.d2)).far (a := ⟨b11, 3, none⟩) (Ne.symm hne12) (.int .u32 s.d3)).far (a := ⟨b11, 4, none⟩) (Ne.symm hne12) (.int .i64 1)).far (a := ⟨b11, 5, none⟩) (Ne.symm hne12) (.int .i64 ((j : Int) + 1)))
              have hl13 := ((((((hl12.far (a := ⟨b11, 0, none⟩) hgn11 (.int .u32 s.d0)).far (a := ⟨b11, 1, none⟩) hgn11 (.int .u32 s.d1)).far (a := ⟨b11, 2, none⟩) hgn11 (.int .u32 s.d2)).far (a := ⟨b11, 3, none⟩) hgn11 (.int .u32 s.d3)).far (a := ⟨b11, 4, none⟩) hgn11 (.int .i64 1)).far (a := ⟨b11, 5, none⟩) hgn11 (.int .i64 ((j : Int) + 1)))
              have hq13 := ((((((hq12.far (a := ⟨b11, 0, none⟩) hqn11 (.int .u32 s.d0)).far (a := ⟨b11, 1, none⟩) hqn11 (.int .u32 s.d1)).far (a := ⟨b11, 2, none⟩) hqn11 (.int .u32 s.d2)).far (a := ⟨b11, 3, none⟩) hqn11 (.int .u32 s.d3)).far (a := ⟨b11, 4, none⟩) hqn11 (.int .i64 1)).far (a := ⟨b11, 5, none⟩) hqn11 (.int .i64 ((j : Int) + 1)))
              have hB13' := ((((((hB12'.setCell (p := ⟨b11, 0, none⟩) hge11 (.int .u32 s.d0)).setCell (p := ⟨b11, 1, none⟩) hge11 (.int .u32 s.d1)).setCell (p := ⟨b11, 2, none⟩) hge11 (.int .u32 s.d2)).setCell (p := ⟨b11, 3, none⟩) hge11 (.int .u32 s.d3)).setCell (p := ⟨b11, 4, none⟩) hge11 (.int .i64 1)).setCell (p := ⟨b11, 5, none⟩) hge11 (.int .i64 ((j : Int) + 1)))
              generalize ((((((W12.setCell ⟨b11, 0, none⟩ (.int .u32 s.d0)).setCell ⟨b11, 1, none⟩ (.int .u32 s.d1)).setCell ⟨b11, 2, none⟩ (.int .u32 s.d2)).setCell ⟨b11, 3, none⟩ (.int .u32 s.d3)).setCell ⟨b11, 4, none⟩ (.int .i64 1)).setCell ⟨b11, 5, none⟩ (.int .i64 ((j : Int) + 1))) = W13 at *
              refine hK.out _ _ (hkS _ hB13') (fun hHeld => ?_)
              clear hK K
              try simp only [List.getElem_toArray, List.getElem_cons_succ, List.getElem_cons_zero, Act.put, List.setIfInBounds_toArray, List.set_cons_zero, List.set_cons_succ]
              refine wpAnyH_ready (rs := [13]) (by kernel_rfl) (by simp) ?_
              refine AllReadyH.cons (o := _) rfl (fun K hK => ?_) AllReadyH.nil
              have z14_0 := hX13.cell (j := 0) (v := .int .i64 0) rfl
              have y14_0 := hX13.fz 0
              have z14_1 := hX13.cell (j := 1) (v := .slice none 0 0) rfl
              have y14_1 := hX13.fz 1
              have z14_2 := hX13.cell (j := 2) (v := .slice none 0 0) rfl
              have y14_2 := hX13.fz 2
              go_simp
              clear z14_0 y14_0 z14_1 y14_1 z14_2 y14_2
              have hX14 : Box 38 b12 [.int .i64 (j : Int), .slice (some ⟨g6, 0, none⟩) 35 35, .slice (some ⟨b6q, o6q, none⟩) N c6] (((W13.setCell ⟨b12, 0, none⟩ (.int .i64 (j : Int))).setCell ⟨b12, 1, none⟩ (.slice (some ⟨g6, 0, none⟩) 35 35)).setCell ⟨b12, 2, none⟩ (.slice (some ⟨b6q, o6q, none⟩) N c6)) := (((hX13.set 0 (.int .i64 (j : Int))).set 1 (.slice (some ⟨g6, 0, none⟩) 35 35)).set 2 (.slice (some ⟨b6q, o6q, none⟩) N c6))
              have hA14 := (((hA13.far (a := ⟨b12, 0, none⟩) hne12 (.int .i64 (j : Int))).far (a := ⟨b12, 1, none⟩) hne12 (.slice (some ⟨g6, 0, none⟩) 35 35)).far (a := ⟨b12, 2, none⟩) hne12 (.slice (some ⟨b6q, o6q, none⟩) N c6))
              have hl14 := (((hl13.far (a := ⟨b12, 0, none⟩) hgn12 (.int .i64 (j : Int))).far (a := ⟨b12, 1, none⟩) hgn12 (.slice (some ⟨g6, 0, none⟩) 35 35)).far (a := ⟨b12, 2, none⟩) hgn12 (.slice (some ⟨b6q, o6q, none⟩) N c6))
              have hq14 := (((hq13.far (a := ⟨b12, 0, none⟩) hqn12 (.int .i64 (j : Int))).far (a := ⟨b12, 1, none⟩) hqn12 (.slice (some ⟨g6, 0, none⟩) 35 35)).far (a := ⟨b12, 2, none⟩) hqn12 (.slice (some ⟨b6q, o6q, none⟩) N c6))
              have hB14' := (((hB13'.setCell (p := ⟨b12, 0, none⟩) hge12 (.int .i64 (j : Int))).setCell (p := ⟨b12, 1, none⟩) hge12 (.slice (some ⟨g6, 0, none⟩) 35 35)).setCell (p := ⟨b12, 2, none⟩) hge12 (.slice (some ⟨b6q, o6q, none⟩) N c6))
              generalize (((W13.setCell ⟨b12, 0, none⟩ (.int .i64 (j : Int))).setCell ⟨b12, 1, none⟩ (.slice (some ⟨g6, 0, none⟩) 35 35)).setCell ⟨b12, 2, none⟩ (.slice (some ⟨b6q, o6q, none⟩) N c6)) = W14 at *
              refine hK.out _ _ (hkS _ hB14') (fun hHeld => ?_)
              clear hK K
              try simp only [List.getElem_toArray, List.getElem_cons_succ, List.getElem_cons_zero, Act.put, List.setIfInBounds_toArray, List.set_cons_zero, List.set_cons_succ]
              refine wpAnyH_take (i := 14) (oi := _) (v := ?vvq15) rfl (by kernel_rfl) (by kernel_rfl) (by kernel_rfl) (fun _ _ _ h => h) (Or.inl ⟨by kernel_rfl, ?hyq15⟩) hHeld ?restq15
              case hyq15 => intro w hSw; (try dsimp only at hSw); (try go_split_ands); go_simp; try with_reducible rfl
              try simp only [List.getElem_toArray, List.getElem_cons_succ, List.getElem_cons_zero, Act.put, List.setIfInBounds_toArray, List.set_cons_zero, List.set_cons_succ]
              refine wpAnyH_done (by kernel_rfl) ?_ _
              go_wp2_with fail
              go_meet
              exact ⟨b11, b12, g6, (some ⟨b6q, o6q, none⟩), c6, rfl, rfl, rfl, hge11, hA14, hX14, rdS_some hl14, rdS_some hq14, hcc6, hcm6, hB14'⟩
            refine AllReadyH.cons (o := _) rfl (fun K hK => ?_) AllReadyH.nil
            · go_simp
              have hF16 := Box.new 38 [.int .i64 0, .slice none 0 0, .slice none 0 0] W6
              have hB16' := hB6'.alloc hB6'.size (.cells #[.int .i64 0, .slice none 0 0, .slice none 0 0] 38)
              have hge16 := hB6'.size
              have hl16 := rdl_al6 hl6 (.cells #[.int .i64 0, .slice none 0 0, .slice none 0 0] 38)
              have hgn16 : g6 ≠ W6.heap.size := Nat.ne_of_lt hl6.1
              have hq16 := rdl_al6 hq6 (.cells #[.int .i64 0, .slice none 0 0, .slice none 0 0] 38)
              have hqn16 : b6q ≠ W6.heap.size := Nat.ne_of_lt hq6.1
              generalize W6.alloc (.cells #[.int .i64 0, .slice none 0 0, .slice none 0 0] 38) = W16 at *
              generalize W6.heap.size = b16 at *
              refine hK.out _ _ (hkS _ hB16') (fun hHeld => ?_)
              clear hK K
              try simp only [List.getElem_toArray, List.getElem_cons_succ, List.getElem_cons_zero, Act.put, List.setIfInBounds_toArray, List.set_cons_zero, List.set_cons_succ]
              refine wpAnyH_ready (rs := [10]) (by kernel_rfl) (by simp) ?_
              refine AllReadyH.cons (o := _) rfl (fun K hK => ?_) AllReadyH.nil
              go_simp
              have hF17 := Box.new 30 [.int .u32 0, .int .u32 0, .int .u32 0, .int .u32 0, .int .i64 0, .int .i64 0] W16
              have hB17' := hB16'.alloc hB16'.size (.cells #[.int .u32 0, .int .u32 0, .int .u32 0, .int .u32 0, .int .i64 0, .int .i64 0] 30)
              have hge17 := hB16'.size
              have hO17 := hF16.al (.cells #[.int .u32 0, .int .u32 0, .int .u32 0, .int .u32 0, .int .i64 0, .int .i64 0] 30)
              have hne17 : b16 ≠ W16.heap.size := Nat.ne_of_lt hF16.lt
              have hl17 := rdl_al6 hl16 (.cells #[.int .u32 0, .int .u32 0, .int .u32 0, .int .u32 0, .int .i64 0, .int .i64 0] 30)
              have hgn17 : g6 ≠ W16.heap.size := Nat.ne_of_lt hl16.1
              have hq17 := rdl_al6 hq16 (.cells #[.int .u32 0, .int .u32 0, .int .u32 0, .int .u32 0, .int .i64 0, .int .i64 0] 30)
              have hqn17 : b6q ≠ W16.heap.size := Nat.ne_of_lt hq16.1
              generalize W16.alloc (.cells #[.int .u32 0, .int .u32 0, .int .u32 0, .int .u32 0, .int .i64 0, .int .i64 0] 30) = W17 at *
              generalize W16.heap.size = b17 at *
              refine hK.out _ _ (hkS _ hB17') (fun hHeld => ?_)
              clear hK K
              try simp only [List.getElem_toArray, List.getElem_cons_succ, List.getElem_cons_zero, Act.put, List.setIfInBounds_toArray, List.set_cons_zero, List.set_cons_succ]
              refine wpAnyH_ready (rs := [12]) (by kernel_rfl) (by simp) ?_
              refine AllReadyH.cons (o := _) rfl (fun K hK => ?_) AllReadyH.nil
              have z18_0 := hF17.cell (j := 0) (v := .int .u32 0) rfl
              have y18_0 := hF17.fz 0
              have z18_1 := hF17.cell (j := 1) (v := .int .u32 0) rfl
              have y18_1 := hF17.fz 1
              have z18_2 := hF17.cell (j := 2) (v := .int .u32 0) rfl
              have y18_2 := hF17.fz 2
              have z18_3 := hF17.cell (j := 3) (v := .int .u32 0) rfl
              have y18_3 := hF17.fz 3
              have z18_4 := hF17.cell (j := 4) (v := .int .i64 0) rfl
              have y18_4 := hF17.fz 4
              have z18_5 := hF17.cell (j := 5) (v := .int .i64 0) rfl
              have y18_5 := hF17.fz 5
              go_simp
              clear z18_0 y18_0 z18_1 y18_1 z18_2 y18_2 z18_3 y18_3 z18_4 y18_4 z18_5 y18_5
              have hA18 : Box 30 b17 [.int .u32 s.d0, .int .u32 s.d1, .int .u32 s.d2, .int .u32 s.d3, .int .i64 1, .int .i64 ((j : Int) + 1)] ((((((W17.setCell ⟨b17, 0, none⟩ (.int .u32 s.d0)).setCell ⟨b17, 1, none⟩ (.int .u32 s.d1)).setCell ⟨b17, 2, none⟩ (.int .u32 s.d2)).setCell ⟨b17, 3, none⟩ (.int .u32 s.d3)).setCell ⟨b17, 4, none⟩ (.int .i64 1)).setCell ⟨b17, 5, none⟩ (.int .i64 ((j : Int) + 1))) := ((((((hF17.set 0 (.int .u32 s.d0)).set 1 (.int .u32 s.d1)).set 2 (.int .u32 s.d2)).set 3 (.int .u32 s.d3)).set 4 (.int .i64 1)).set 5 (.int .i64 ((j : Int) + 1)))
              have hX18 := ((((((hO17.far (a := ⟨b17, 0, none⟩) hne17 (.int .u32 s.d0)).far (a := ⟨b17, 1, none⟩) hne17 (.int .u32 s.d1)).far (a := ⟨b17, 2, none⟩) hne17 (.int .u32 s.d2)).far (a := ⟨b17, 3, none⟩) hne17 (.int .u32 s.d3)).far (a := ⟨b17, 4, none⟩) hne17 (.int .i64 1)).far (a := ⟨b17, 5, none⟩) hne17 (.int .i64 ((j : Int) + 1)))
              have hl18 := ((((((hl17.far (a := ⟨b17, 0, none⟩) hgn17 (.int .u32 s.d0)).far (a := ⟨b17, 1, none⟩) hgn17 (.int .u32 s.d1)).far (a := ⟨b17, 2, none⟩) hgn17 (.int .u32 s.d2)).far (a := ⟨b17, 3, none⟩) hgn17 (.int .u32 s.d3)).far (a := ⟨b17, 4, none⟩) hgn17 (.int .i64 1)).far (a := ⟨b17, 5, none⟩) hgn17 (.int .i64 ((j : Int) + 1)))
              have hq18 := ((((((hq17.far (a := ⟨b17, 0, none⟩) hqn17 (.int .u32 s.d0)).far (a := ⟨b17, 1, none⟩) hqn17 (.int .u32 s.d1)).far (a := ⟨b17, 2, none⟩) hqn17 (.int .u32 s.d2)).far (a := ⟨b17, 3, none⟩) hqn17 (.int .u32 s.d3)).far (a := ⟨b17, 4, none⟩) hqn17 (.int .i64 1)).far (a := ⟨b17, 5, none⟩) hqn17 (.int .i64 ((j : Int) + 1)))
              have hB18' := ((((((hB17'.setCell (p := ⟨b17, 0, none⟩) hge17 (.int .u32 s.d0)).setCell (p := ⟨b17, 1, none⟩) hge17 (.int .u32 s.d1)).setCell (p := ⟨b17, 2, none⟩) hge17 (.int .u32 s.d2)).setCell (p := ⟨b17, 3, none⟩) hge17 (.int .u32 s.d3)).setCell (p := ⟨b17, 4, none⟩) hge17 (.int .i64 1)).setCell (p := ⟨b17, 5, none⟩) hge17 (.int .i64 ((j : Int) + 1)))
              generalize ((((((W17.setCell ⟨b17, 0, none⟩ (.int .u32 s.d0)).setCell ⟨b17, 1, none⟩ (.int .u32 s.d1)).setCell ⟨b17, 2, none⟩ (.int .u32 s.d2)).setCell ⟨b17, 3, none⟩ (.int .u32 s.d3)).setCell ⟨b17, 4, none⟩ (.int .i64 1)).setCell ⟨b17, 5, none⟩ (.int .i64 ((j : Int) + 1))) = W18 at *
              refine hK.out _ _ (hkS _ hB18') (fun hHeld => ?_)
              clear hK K
              try simp only [List.getElem_toArray, List.getElem_cons_succ, List.getElem_cons_zero, Act.put, List.setIfInBounds_toArray, List.set_cons_zero, List.set_cons_succ]
              refine wpAnyH_ready (rs := [13]) (by kernel_rfl) (by simp) ?_
              refine AllReadyH.cons (o := _) rfl (fun K hK => ?_) AllReadyH.nil
              have z19_0 := hX18.cell (j := 0) (v := .int .i64 0) rfl
              have y19_0 := hX18.fz 0
              have z19_1 := hX18.cell (j := 1) (v := .slice none 0 0) rfl
              have y19_1 := hX18.fz 1
              have z19_2 := hX18.cell (j := 2) (v := .slice none 0 0) rfl
              have y19_2 := hX18.fz 2
              go_simp
              clear z19_0 y19_0 z19_1 y19_1 z19_2 y19_2
              have hX19 : Box 38 b16 [.int .i64 (j : Int), .slice (some ⟨g6, 0, none⟩) 35 35, .slice (some ⟨b6q, o6q, none⟩) N c6] (((W18.setCell ⟨b16, 0, none⟩ (.int .i64 (j : Int))).setCell ⟨b16, 1, none⟩ (.slice (some ⟨g6, 0, none⟩) 35 35)).setCell ⟨b16, 2, none⟩ (.slice (some ⟨b6q, o6q, none⟩) N c6)) := (((hX18.set 0 (.int .i64 (j : Int))).set 1 (.slice (some ⟨g6, 0, none⟩) 35 35)).set 2 (.slice (some ⟨b6q, o6q, none⟩) N c6))
              have hA19 := (((hA18.far (a := ⟨b16, 0, none⟩) (Ne.symm hne17) (.int .i64 (j : Int))).far (a := ⟨b16, 1, none⟩) (Ne.symm hne17) (.slice (some ⟨g6, 0, none⟩) 35 35)).far (a := ⟨b16, 2, none⟩) (Ne.symm hne17) (.slice (some ⟨b6q, o6q, none⟩) N c6))
              have hl19 := (((hl18.far (a := ⟨b16, 0, none⟩) hgn16 (.int .i64 (j : Int))).far (a := ⟨b16, 1, none⟩) hgn16 (.slice (some ⟨g6, 0, none⟩) 35 35)).far (a := ⟨b16, 2, none⟩) hgn16 (.slice (some ⟨b6q, o6q, none⟩) N c6))
              have hq19 := (((hq18.far (a := ⟨b16, 0, none⟩) hqn16 (.int .i64 (j : Int))).far (a := ⟨b16, 1, none⟩) hqn16 (.slice (some ⟨g6, 0, none⟩) 35 35)).far (a := ⟨b16, 2, none⟩) hqn16 (.slice (some ⟨b6q, o6q, none⟩) N c6))
              have hB19' := (((hB18'.setCell (p := ⟨b16, 0, none⟩) hge16 (.int .i64 (j : Int))).setCell (p := ⟨b16, 1, none⟩) hge16 (.slice (some ⟨g6, 0, none⟩) 35 35)).setCell (p := ⟨b16, 2, none⟩) hge16 (.slice (some ⟨b6q, o6q, none⟩) N c6))
              generalize (((W18.setCell ⟨b16, 0, none⟩ (.int .i64 (j : Int))).setCell ⟨b16, 1, none⟩ (.slice (some ⟨g6, 0, none⟩) 35 35)).setCell ⟨b16, 2, none⟩ (.slice (some ⟨b6q, o6q, none⟩) N c6)) = W19 at *
              refine hK.out _ _ (hkS _ hB19') (fun hHeld => ?_)
              clear hK K
              try simp only [List.getElem_toArray, List.getElem_cons_succ, List.getElem_cons_zero, Act.put, List.setIfInBounds_toArray, List.set_cons_zero, List.set_cons_succ]
              refine wpAnyH_take (i := 14) (oi := _) (v := ?vvq20) rfl (by kernel_rfl) (by kernel_rfl) (by kernel_rfl) (fun _ _ _ h => h) (Or.inl ⟨by kernel_rfl, ?hyq20⟩) hHeld ?restq20
              case hyq20 => intro w hSw; (try dsimp only at hSw); (try go_split_ands); go_simp; try with_reducible rfl
              try simp only [List.getElem_toArray, List.getElem_cons_succ, List.getElem_cons_zero, Act.put, List.setIfInBounds_toArray, List.set_cons_zero, List.set_cons_succ]
              refine wpAnyH_done (by kernel_rfl) ?_ _
              go_wp2_with fail
              go_meet
              exact ⟨b17, b16, g6, (some ⟨b6q, o6q, none⟩), c6, rfl, rfl, rfl, hge17, hA19, hX19, rdS_some hl19, rdS_some hq19, hcc6, hcm6, hB19'⟩
          refine AllReadyH.cons (o := _) rfl (fun K hK => ?_) ?_
          · go_simp
            have hF21 := Box.new 30 [.int .u32 0, .int .u32 0, .int .u32 0, .int .u32 0, .int .i64 0, .int .i64 0] W0
            have hB21' := hB0.alloc hB0.size (.cells #[.int .u32 0, .int .u32 0, .int .u32 0, .int .u32 0, .int .i64 0, .int .i64 0] 30)
            have hge21 := hB0.size
            generalize W0.alloc (.cells #[.int .u32 0, .int .u32 0, .int .u32 0, .int .u32 0, .int .i64 0, .int .i64 0] 30) = W21 at *
            generalize W0.heap.size = b21 at *
            refine hK.out _ _ (hkS _ hB21') (fun hHeld => ?_)
            clear hK K
            try simp only [List.getElem_toArray, List.getElem_cons_succ, List.getElem_cons_zero, Act.put, List.setIfInBounds_toArray, List.set_cons_zero, List.set_cons_succ]
            refine wpAnyH_ready (rs := [5, 11]) (by kernel_rfl) (by simp) ?_
            refine AllReadyH.cons (o := _) rfl (fun K hK => ?_) ?_
            · go_simp
              refine (cuse_yes s m 1 j 1 L Q W21 hs (hT0.below hB21') hmo (by decide) HJ2.out HL.out HQ.out N HN0.out HH.out).mono ?_
              rintro e W22 ⟨g22, p22, c22, rfl, hgB22, hl22, hO22, hD22⟩
              go_wp2_with fail
              have hB22' := hB21'.trans (hD22.mono hB21'.size)
              have hA22 := hF21.on hD22
              have hgn22A : g22 ≠ b21 := Nat.ne_of_gt (Nat.lt_of_lt_of_le hF21.lt hgB22)
              have hu22 := hO22.use
              obtain ⟨b22q, o22q, e22q, hq22⟩ := hu22.2.1 HQ0.out
              subst e22q
              have hqB22 : W21.heap.size ≤ b22q := (World.ownsRow.lt hO22 b22q rfl).1
              have hqn22A : b22q ≠ b21 := Nat.ne_of_gt (Nat.lt_of_lt_of_le hF21.lt hqB22)
              have hcc22 := hu22.2.2.1
              have hcm22 := hu22.2.2.2
              clear hu22 hO22
              refine hK.out _ _ (hkS _ hB22') (fun hHeld => ?_)
              clear hK K
              try simp only [List.getElem_toArray, List.getElem_cons_succ, List.getElem_cons_zero, Act.put, List.setIfInBounds_toArray, List.set_cons_zero, List.set_cons_succ]
              refine wpAnyH_take (i := 6) (oi := _) (v := ?vvq23) rfl (by kernel_rfl) (by kernel_rfl) (by kernel_rfl) (fun _ _ _ h => h) (Or.inl ⟨by kernel_rfl, ?hyq23⟩) hHeld ?restq23
              case hyq23 => intro w hSw; (try dsimp only at hSw); (try go_split_ands); go_simp; try with_reducible rfl
              try simp only [List.getElem_toArray, List.getElem_cons_succ, List.getElem_cons_zero, Act.put, List.setIfInBounds_toArray, List.set_cons_zero, List.set_cons_succ]
              refine wpAnyH_take (i := 7) (oi := _) (v := ?vvq24) rfl (by kernel_rfl) (by kernel_rfl) (by kernel_rfl) (fun _ _ _ h => h) (Or.inl ⟨by kernel_rfl, ?hyq24⟩) hHeld ?restq24
              case hyq24 => intro w hSw; (try dsimp only at hSw); (try go_split_ands); go_simp; try with_reducible rfl
              try simp only [List.getElem_toArray, List.getElem_cons_succ, List.getElem_cons_zero, Act.put, List.setIfInBounds_toArray, List.set_cons_zero, List.set_cons_succ]
              refine wpAnyH_take (i := 8) (oi := _) (v := ?vvq25) rfl (by kernel_rfl) (by kernel_rfl) (by kernel_rfl) (fun _ _ _ h => h) (Or.inl ⟨by kernel_rfl, ?hyq25⟩) hHeld ?restq25
              case hyq25 => intro w hSw; (try dsimp only at hSw); (try go_split_ands); go_simp; try with_reducible rfl
              try simp only [List.getElem_toArray, List.getElem_cons_succ, List.getElem_cons_zero, Act.put, List.setIfInBounds_toArray, List.set_cons_zero, List.set_cons_succ]
              refine wpAnyH_take (i := 9) (oi := _) (v := ?vvq26) rfl (by kernel_rfl) (by kernel_rfl) (by kernel_rfl) (fun _ _ _ h => h) (Or.inl ⟨by kernel_rfl, ?hyq26⟩) hHeld ?restq26
              case hyq26 => intro w hSw; (try dsimp only at hSw); (try go_split_ands); go_simp; try with_reducible rfl
              try simp only [List.getElem_toArray, List.getElem_cons_succ, List.getElem_cons_zero, Act.put, List.setIfInBounds_toArray, List.set_cons_zero, List.set_cons_succ]
              refine wpAnyH_ready (rs := [11]) (by kernel_rfl) (by simp) ?_
              refine AllReadyH.cons (o := _) rfl (fun K hK => ?_) AllReadyH.nil
              go_simp
              have hF27 := Box.new 38 [.int .i64 0, .slice none 0 0, .slice none 0 0] W22
              have hB27' := hB22'.alloc hB22'.size (.cells #[.int .i64 0, .slice none 0 0, .slice none 0 0] 38)
              have hge27 := hB22'.size
              have hO27 := hA22.al (.cells #[.int .i64 0, .slice none 0 0, .slice none 0 0] 38)
              have hne27 : b21 ≠ W22.heap.size := Nat.ne_of_lt hA22.lt
              have hl27 := rdl_al6 hl22 (.cells #[.int .i64 0, .slice none 0 0, .slice none 0 0] 38)
              have hgn27 : g22 ≠ W22.heap.size := Nat.ne_of_lt hl22.1
              have hq27 := rdl_al6 hq22 (.cells #[.int .i64 0, .slice none 0 0, .slice none 0 0] 38)
              have hqn27 : b22q ≠ W22.heap.size := Nat.ne_of_lt hq22.1
              generalize W22.alloc (.cells #[.int .i64 0, .slice none 0 0, .slice none 0 0] 38) = W27 at *
              generalize W22.heap.size = b27 at *
              refine hK.out _ _ (hkS _ hB27') (fun hHeld => ?_)
              clear hK K
              try simp only [List.getElem_toArray, List.getElem_cons_succ, List.getElem_cons_zero, Act.put, List.setIfInBounds_toArray, List.set_cons_zero, List.set_cons_succ]
              refine wpAnyH_ready (rs := [12]) (by kernel_rfl) (by simp) ?_
              refine AllReadyH.cons (o := _) rfl (fun K hK => ?_) AllReadyH.nil
              have z28_0 := hO27.cell (j := 0) (v := .int .u32 0) rfl
              have y28_0 := hO27.fz 0
              have z28_1 := hO27.cell (j := 1) (v := .int .u32 0) rfl
              have y28_1 := hO27.fz 1
              have z28_2 := hO27.cell (j := 2) (v := .int .u32 0) rfl
              have y28_2 := hO27.fz 2
              have z28_3 := hO27.cell (j := 3) (v := .int .u32 0) rfl
              have y28_3 := hO27.fz 3
              have z28_4 := hO27.cell (j := 4) (v := .int .i64 0) rfl
              have y28_4 := hO27.fz 4
              have z28_5 := hO27.cell (j := 5) (v := .int .i64 0) rfl
              have y28_5 := hO27.fz 5
              go_simp
              clear z28_0 y28_0 z28_1 y28_1 z28_2 y28_2 z28_3 y28_3 z28_4 y28_4 z28_5 y28_5
              have hA28 : Box 30 b21 [.int .u32 s.d0, .int .u32 s.d1, .int .u32 s.d2, .int .u32 s.d3, .int .i64 1, .int .i64 ((j : Int) + 1)] ((((((W27.setCell ⟨b21, 0, none⟩ (.int .u32 s.d0)).setCell ⟨b21, 1, none⟩ (.int .u32 s.d1)).setCell ⟨b21, 2, none⟩ (.int .u32 s.d2)).setCell ⟨b21, 3, none⟩ (.int .u32 s.d3)).setCell ⟨b21, 4, none⟩ (.int .i64 1)).setCell ⟨b21, 5, none⟩ (.int .i64 ((j : Int) + 1))) := ((((((hO27.set 0 (.int .u32 s.d0)).set 1 (.int .u32 s.d1)).set 2 (.int .u32 s.d2)).set 3 (.int .u32 s.d3)).set 4 (.int .i64 1)).set 5 (.int .i64 ((j : Int) + 1)))
              have hX28 := ((((((hF27.far (a := ⟨b21, 0, none⟩) (Ne.symm hne27) (.int .u32 s.d0)).far (a := ⟨b21, 1, none⟩) (Ne.symm hne27) (.int .u32 s.d1)).far (a := ⟨b21, 2, none⟩) (Ne.symm hne27) (.int .u32 s.d2)).far (a := ⟨b21, 3, none⟩) (Ne.symm hne27) (.int .u32 s.d3)).far (a := ⟨b21, 4, none⟩) (Ne.symm hne27) (.int .i64 1)).far (a := ⟨b21, 5, none⟩) (Ne.symm hne27) (.int .i64 ((j : Int) + 1)))
              have hl28 := ((((((hl27.far (a := ⟨b21, 0, none⟩) hgn22A (.int .u32 s.d0)).far (a := ⟨b21, 1, none⟩) hgn22A (.int .u32 s.d1)).far (a := ⟨b21, 2, none⟩) hgn22A (.int .u32 s.d2)).far (a := ⟨b21, 3, none⟩) hgn22A (.int .u32 s.d3)).far (a := ⟨b21, 4, none⟩) hgn22A (.int .i64 1)).far (a := ⟨b21, 5, none⟩) hgn22A (.int .i64 ((j : Int) + 1)))
              have hq28 := ((((((hq27.far (a := ⟨b21, 0, none⟩) hqn22A (.int .u32 s.d0)).far (a := ⟨b21, 1, none⟩) hqn22A (.int .u32 s.d1)).far (a := ⟨b21, 2, none⟩) hqn22A (.int .u32 s.d2)).far (a := ⟨b21, 3, none⟩) hqn22A (.int .u32 s.d3)).far (a := ⟨b21, 4, none⟩) hqn22A (.int .i64 1)).far (a := ⟨b21, 5, none⟩) hqn22A (.int .i64 ((j : Int) + 1)))
              have hB28' := ((((((hB27'.setCell (p := ⟨b21, 0, none⟩) hge21 (.int .u32 s.d0)).setCell (p := ⟨b21, 1, none⟩) hge21 (.int .u32 s.d1)).setCell (p := ⟨b21, 2, none⟩) hge21 (.int .u32 s.d2)).setCell (p := ⟨b21, 3, none⟩) hge21 (.int .u32 s.d3)).setCell (p := ⟨b21, 4, none⟩) hge21 (.int .i64 1)).setCell (p := ⟨b21, 5, none⟩) hge21 (.int .i64 ((j : Int) + 1)))
              generalize ((((((W27.setCell ⟨b21, 0, none⟩ (.int .u32 s.d0)).setCell ⟨b21, 1, none⟩ (.int .u32 s.d1)).setCell ⟨b21, 2, none⟩ (.int .u32 s.d2)).setCell ⟨b21, 3, none⟩ (.int .u32 s.d3)).setCell ⟨b21, 4, none⟩ (.int .i64 1)).setCell ⟨b21, 5, none⟩ (.int .i64 ((j : Int) + 1))) = W28 at *
              refine hK.out _ _ (hkS _ hB28') (fun hHeld => ?_)
              clear hK K
              try simp only [List.getElem_toArray, List.getElem_cons_succ, List.getElem_cons_zero, Act.put, List.setIfInBounds_toArray, List.set_cons_zero, List.set_cons_succ]
              refine wpAnyH_ready (rs := [13]) (by kernel_rfl) (by simp) ?_
              refine AllReadyH.cons (o := _) rfl (fun K hK => ?_) AllReadyH.nil
              have z29_0 := hX28.cell (j := 0) (v := .int .i64 0) rfl
              have y29_0 := hX28.fz 0
              have z29_1 := hX28.cell (j := 1) (v := .slice none 0 0) rfl
              have y29_1 := hX28.fz 1
              have z29_2 := hX28.cell (j := 2) (v := .slice none 0 0) rfl
              have y29_2 := hX28.fz 2
              go_simp
              clear z29_0 y29_0 z29_1 y29_1 z29_2 y29_2
              have hX29 : Box 38 b27 [.int .i64 (j : Int), .slice (some ⟨g22, 0, none⟩) 35 35, .slice (some ⟨b22q, o22q, none⟩) N c22] (((W28.setCell ⟨b27, 0, none⟩ (.int .i64 (j : Int))).setCell ⟨b27, 1, none⟩ (.slice (some ⟨g22, 0, none⟩) 35 35)).setCell ⟨b27, 2, none⟩ (.slice (some ⟨b22q, o22q, none⟩) N c22)) := (((hX28.set 0 (.int .i64 (j : Int))).set 1 (.slice (some ⟨g22, 0, none⟩) 35 35)).set 2 (.slice (some ⟨b22q, o22q, none⟩) N c22))
              have hA29 := (((hA28.far (a := ⟨b27, 0, none⟩) hne27 (.int .i64 (j : Int))).far (a := ⟨b27, 1, none⟩) hne27 (.slice (some ⟨g22, 0, none⟩) 35 35)).far (a := ⟨b27, 2, none⟩) hne27 (.slice (some ⟨b22q, o22q, none⟩) N c22))
              have hl29 := (((hl28.far (a := ⟨b27, 0, none⟩) hgn27 (.int .i64 (j : Int))).far (a := ⟨b27, 1, none⟩) hgn27 (.slice (some ⟨g22, 0, none⟩) 35 35)).far (a := ⟨b27, 2, none⟩) hgn27 (.slice (some ⟨b22q, o22q, none⟩) N c22))
              have hq29 := (((hq28.far (a := ⟨b27, 0, none⟩) hqn27 (.int .i64 (j : Int))).far (a := ⟨b27, 1, none⟩) hqn27 (.slice (some ⟨g22, 0, none⟩) 35 35)).far (a := ⟨b27, 2, none⟩) hqn27 (.slice (some ⟨b22q, o22q, none⟩) N c22))
              have hB29' := (((hB28'.setCell (p := ⟨b27, 0, none⟩) hge27 (.int .i64 (j : Int))).setCell (p := ⟨b27, 1, none⟩) hge27 (.slice (some ⟨g22, 0, none⟩) 35 35)).setCell (p := ⟨b27, 2, none⟩) hge27 (.slice (some ⟨b22q, o22q, none⟩) N c22))
              generalize (((W28.setCell ⟨b27, 0, none⟩ (.int .i64 (j : Int))).setCell ⟨b27, 1, none⟩ (.slice (some ⟨g22, 0, none⟩) 35 35)).setCell ⟨b27, 2, none⟩ (.slice (some ⟨b22q, o22q, none⟩) N c22)) = W29 at *
              refine hK.out _ _ (hkS _ hB29') (fun hHeld => ?_)
              clear hK K
              try simp only [List.getElem_toArray, List.getElem_cons_succ, List.getElem_cons_zero, Act.put, List.setIfInBounds_toArray, List.set_cons_zero, List.set_cons_succ]
              refine wpAnyH_take (i := 14) (oi := _) (v := ?vvq30) rfl (by kernel_rfl) (by kernel_rfl) (by kernel_rfl) (fun _ _ _ h => h) (Or.inl ⟨by kernel_rfl, ?hyq30⟩) hHeld ?restq30
              case hyq30 => intro w hSw; (try dsimp only at hSw); (try go_split_ands); go_simp; try with_reducible rfl
              try simp only [List.getElem_toArray, List.getElem_cons_succ, List.getElem_cons_zero, Act.put, List.setIfInBounds_toArray, List.set_cons_zero, List.set_cons_succ]
              refine wpAnyH_done (by kernel_rfl) ?_ _
              go_wp2_with fail
              go_meet
              exact ⟨b21, b27, g22, (some ⟨b22q, o22q, none⟩), c22, rfl, rfl, rfl, hge21, hA29, hX29, rdS_some hl29, rdS_some hq29, hcc22, hcm22, hB29'⟩
            refine AllReadyH.cons (o := _) rfl (fun K hK => ?_) AllReadyH.nil
            · go_simp
              have hF31 := Box.new 38 [.int .i64 0, .slice none 0 0, .slice none 0 0] W21
              have hB31' := hB21'.alloc hB21'.size (.cells #[.int .i64 0, .slice none 0 0, .slice none 0 0] 38)
              have hge31 := hB21'.size
              have hO31 := hF21.al (.cells #[.int .i64 0, .slice none 0 0, .slice none 0 0] 38)
              have hne31 : b21 ≠ W21.heap.size := Nat.ne_of_lt hF21.lt
              generalize W21.alloc (.cells #[.int .i64 0, .slice none 0 0, .slice none 0 0] 38) = W31 at *
              generalize W21.heap.size = b31 at *
              refine hK.out _ _ (hkS _ hB31') (fun hHeld => ?_)
              clear hK K
              try simp only [List.getElem_toArray, List.getElem_cons_succ, List.getElem_cons_zero, Act.put, List.setIfInBounds_toArray, List.set_cons_zero, List.set_cons_succ]
              refine wpAnyH_ready (rs := [5]) (by kernel_rfl) (by simp) ?_
              refine AllReadyH.cons (o := _) rfl (fun K hK => ?_) AllReadyH.nil
              go_simp
              refine (cuse_yes s m 1 j 1 L Q W31 hs (hT0.below hB31') hmo (by decide) HJ2.out HL.out HQ.out N HN0.out HH.out).mono ?_
              rintro e W32 ⟨g32, p32, c32, rfl, hgB32, hl32, hO32, hD32⟩
              go_wp2_with fail
              have hB32' := hB31'.trans (hD32.mono hB31'.size)
              have hA32 := hO31.on hD32
              have hX32 := hF31.on hD32
              have hgn32A : g32 ≠ b21 := Nat.ne_of_gt (Nat.lt_of_lt_of_le hO31.lt hgB32)
              have hgn32X : g32 ≠ b31 := Nat.ne_of_gt (Nat.lt_of_lt_of_le hF31.lt hgB32)
              have hu32 := hO32.use
              obtain ⟨b32q, o32q, e32q, hq32⟩ := hu32.2.1 HQ0.out
              subst e32q
              have hqB32 : W31.heap.size ≤ b32q := (World.ownsRow.lt hO32 b32q rfl).1
              have hqn32A : b32q ≠ b21 := Nat.ne_of_gt (Nat.lt_of_lt_of_le hO31.lt hqB32)
              have hqn32X : b32q ≠ b31 := Nat.ne_of_gt (Nat.lt_of_lt_of_le hF31.lt hqB32)
              have hcc32 := hu32.2.2.1
              have hcm32 := hu32.2.2.2
              clear hu32 hO32
              refine hK.out _ _ (hkS _ hB32') (fun hHeld => ?_)
              clear hK K
              try simp only [List.getElem_toArray, List.getElem_cons_succ, List.getElem_cons_zero, Act.put, List.setIfInBounds_toArray, List.set_cons_zero, List.set_cons_succ]
              refine wpAnyH_take (i := 6) (oi := _) (v := ?vvq33) rfl (by kernel_rfl) (by kernel_rfl) (by kernel_rfl) (fun _ _ _ h => h) (Or.inl ⟨by kernel_rfl, ?hyq33⟩) hHeld ?restq33
              case hyq33 => intro w hSw; (try dsimp only at hSw); (try go_split_ands); go_simp; try with_reducible rfl
              try simp only [List.getElem_toArray, List.getElem_cons_succ, List.getElem_cons_zero, Act.put, List.setIfInBounds_toArray, List.set_cons_zero, List.set_cons_succ]
              refine wpAnyH_take (i := 7) (oi := _) (v := ?vvq34) rfl (by kernel_rfl) (by kernel_rfl) (by kernel_rfl) (fun _ _ _ h => h) (Or.inl ⟨by kernel_rfl, ?hyq34⟩) hHeld ?restq34
              case hyq34 => intro w hSw; (try dsimp only at hSw); (try go_split_ands); go_simp; try with_reducible rfl
              try simp only [List.getElem_toArray, List.getElem_cons_succ, List.getElem_cons_zero, Act.put, List.setIfInBounds_toArray, List.set_cons_zero, List.set_cons_succ]
              refine wpAnyH_take (i := 8) (oi := _) (v := ?vvq35) rfl (by kernel_rfl) (by kernel_rfl) (by kernel_rfl) (fun _ _ _ h => h) (Or.inl ⟨by kernel_rfl, ?hyq35⟩) hHeld ?restq35
              case hyq35 => intro w hSw; (try dsimp only at hSw); (try go_split_ands); go_simp; try with_reducible rfl
              try simp only [List.getElem_toArray, List.getElem_cons_succ, List.getElem_cons_zero, Act.put, List.setIfInBounds_toArray, List.set_cons_zero, List.set_cons_succ]
              refine wpAnyH_take (i := 9) (oi := _) (v := ?vvq36) rfl (by kernel_rfl) (by kernel_rfl) (by kernel_rfl) (fun _ _ _ h => h) (Or.inl ⟨by kernel_rfl, ?hyq36⟩) hHeld ?restq36
              case hyq36 => intro w hSw; (try dsimp only at hSw); (try go_split_ands); go_simp; try with_reducible rfl
              try simp only [List.getElem_toArray, List.getElem_cons_succ, List.getElem_cons_zero, Act.put, List.setIfInBounds_toArray, List.set_cons_zero, List.set_cons_succ]
              refine wpAnyH_ready (rs := [12]) (by kernel_rfl) (by simp) ?_
              refine AllReadyH.cons (o := _) rfl (fun K hK => ?_) AllReadyH.nil
              have z37_0 := hA32.cell (j := 0) (v := .int .u32 0) rfl
              have y37_0 := hA32.fz 0
              have z37_1 := hA32.cell (j := 1) (v := .int .u32 0) rfl
              have y37_1 := hA32.fz 1
              have z37_2 := hA32.cell (j := 2) (v := .int .u32 0) rfl
              have y37_2 := hA32.fz 2
              have z37_3 := hA32.cell (j := 3) (v := .int .u32 0) rfl
              have y37_3 := hA32.fz 3
              have z37_4 := hA32.cell (j := 4) (v := .int .i64 0) rfl
              have y37_4 := hA32.fz 4
              have z37_5 := hA32.cell (j := 5) (v := .int .i64 0) rfl
              have y37_5 := hA32.fz 5
              go_simp
              clear z37_0 y37_0 z37_1 y37_1 z37_2 y37_2 z37_3 y37_3 z37_4 y37_4 z37_5 y37_5
              have hA37 : Box 30 b21 [.int .u32 s.d0, .int .u32 s.d1, .int .u32 s.d2, .int .u32 s.d3, .int .i64 1, .int .i64 ((j : Int) + 1)] ((((((W32.setCell ⟨b21, 0, none⟩ (.int .u32 s.d0)).setCell ⟨b21, 1, none⟩ (.int .u32 s.d1)).setCell ⟨b21, 2, none⟩ (.int .u32 s.d2)).setCell ⟨b21, 3, none⟩ (.int .u32 s.d3)).setCell ⟨b21, 4, none⟩ (.int .i64 1)).setCell ⟨b21, 5, none⟩ (.int .i64 ((j : Int) + 1))) := ((((((hA32.set 0 (.int .u32 s.d0)).set 1 (.int .u32 s.d1)).set 2 (.int .u32 s.d2)).set 3 (.int .u32 s.d3)).set 4 (.int .i64 1)).set 5 (.int .i64 ((j : Int) + 1)))
              have hX37 := ((((((hX32.far (a := ⟨b21, 0, none⟩) (Ne.symm hne31) (.int .u32 s.d0)).far (a := ⟨b21, 1, none⟩) (Ne.symm hne31) (.int .u32 s.d1)).far (a := ⟨b21, 2, none⟩) (Ne.symm hne31) (.int .u32 s.d2)).far (a := ⟨b21, 3, none⟩) (Ne.symm hne31) (.int .u32 s.d3)).far (a := ⟨b21, 4, none⟩) (Ne.symm hne31) (.int .i64 1)).far (a := ⟨b21, 5, none⟩) (Ne.symm hne31) (.int .i64 ((j : Int) + 1)))
              have hl37 := ((((((hl32.far (a := ⟨b21, 0, none⟩) hgn32A (.int .u32 s.d0)).far (a := ⟨b21, 1, none⟩) hgn32A (.int .u32 s.d1)).far (a := ⟨b21, 2, none⟩) hgn32A (.int .u32 s.d2)).far (a := ⟨b21, 3, none⟩) hgn32A (.int .u32 s.d3)).far (a := ⟨b21, 4, none⟩) hgn32A (.int .i64 1)).far (a := ⟨b21, 5, none⟩) hgn32A (.int .i64 ((j : Int) + 1)))
              have hq37 := ((((((hq32.far (a := ⟨b21, 0, none⟩) hqn32A (.int .u32 s.d0)).far (a := ⟨b21, 1, none⟩) hqn32A (.int .u32 s.d1)).far (a := ⟨b21, 2, none⟩) hqn32A (.int .u32 s.d2)).far (a := ⟨b21, 3, none⟩) hqn32A (.int .u32 s.d3)).far (a := ⟨b21, 4, none⟩) hqn32A (.int .i64 1)).far (a := ⟨b21, 5, none⟩) hqn32A (.int .i64 ((j : Int) + 1)))
              have hB37' := ((((((hB32'.setCell (p := ⟨b21, 0, none⟩) hge21 (.int .u32 s.d0)).setCell (p := ⟨b21, 1, none⟩) hge21 (.int .u32 s.d1)).setCell (p := ⟨b21, 2, none⟩) hge21 (.int .u32 s.d2)).setCell (p := ⟨b21, 3, none⟩) hge21 (.int .u32 s.d3)).setCell (p := ⟨b21, 4, none⟩) hge21 (.int .i64 1)).setCell (p := ⟨b21, 5, none⟩) hge21 (.int .i64 ((j : Int) + 1)))
              generalize ((((((W32.setCell ⟨b21, 0, none⟩ (.int .u32 s.d0)).setCell ⟨b21, 1, none⟩ (.int .u32 s.d1)).setCell ⟨b21, 2, none⟩ (.int .u32 s.d2)).setCell ⟨b21, 3, none⟩ (.int .u32 s.d3)).setCell ⟨b21, 4, none⟩ (.int .i64 1)).setCell ⟨b21, 5, none⟩ (.int .i64 ((j : Int) + 1))) = W37 at *
              refine hK.out _ _ (hkS _ hB37') (fun hHeld => ?_)
              clear hK K
              try simp only [List.getElem_toArray, List.getElem_cons_succ, List.getElem_cons_zero, Act.put, List.setIfInBounds_toArray, List.set_cons_zero, List.set_cons_succ]
              refine wpAnyH_ready (rs := [13]) (by kernel_rfl) (by simp) ?_
              refine AllReadyH.cons (o := _) rfl (fun K hK => ?_) AllReadyH.nil
              have z38_0 := hX37.cell (j := 0) (v := .int .i64 0) rfl
              have y38_0 := hX37.fz 0
              have z38_1 := hX37.cell (j := 1) (v := .slice none 0 0) rfl
              have y38_1 := hX37.fz 1
              have z38_2 := hX37.cell (j := 2) (v := .slice none 0 0) rfl
              have y38_2 := hX37.fz 2
              go_simp
              clear z38_0 y38_0 z38_1 y38_1 z38_2 y38_2
              have hX38 : Box 38 b31 [.int .i64 (j : Int), .slice (some ⟨g32, 0, none⟩) 35 35, .slice (some ⟨b32q, o32q, none⟩) N c32] (((W37.setCell ⟨b31, 0, none⟩ (.int .i64 (j : Int))).setCell ⟨b31, 1, none⟩ (.slice (some ⟨g32, 0, none⟩) 35 35)).setCell ⟨b31, 2, none⟩ (.slice (some ⟨b32q, o32q, none⟩) N c32)) := (((hX37.set 0 (.int .i64 (j : Int))).set 1 (.slice (some ⟨g32, 0, none⟩) 35 35)).set 2 (.slice (some ⟨b32q, o32q, none⟩) N c32))
              have hA38 := (((hA37.far (a := ⟨b31, 0, none⟩) hne31 (.int .i64 (j : Int))).far (a := ⟨b31, 1, none⟩) hne31 (.slice (some ⟨g32, 0, none⟩) 35 35)).far (a := ⟨b31, 2, none⟩) hne31 (.slice (some ⟨b32q, o32q, none⟩) N c32))
              have hl38 := (((hl37.far (a := ⟨b31, 0, none⟩) hgn32X (.int .i64 (j : Int))).far (a := ⟨b31, 1, none⟩) hgn32X (.slice (some ⟨g32, 0, none⟩) 35 35)).far (a := ⟨b31, 2, none⟩) hgn32X (.slice (some ⟨b32q, o32q, none⟩) N c32))
              have hq38 := (((hq37.far (a := ⟨b31, 0, none⟩) hqn32X (.int .i64 (j : Int))).far (a := ⟨b31, 1, none⟩) hqn32X (.slice (some ⟨g32, 0, none⟩) 35 35)).far (a := ⟨b31, 2, none⟩) hqn32X (.slice (some ⟨b32q, o32q, none⟩) N c32))
              have hB38' := (((hB37'.setCell (p := ⟨b31, 0, none⟩) hge31 (.int .i64 (j : Int))).setCell (p := ⟨b31, 1, none⟩) hge31 (.slice (some ⟨g32, 0, none⟩) 35 35)).setCell (p := ⟨b31, 2, none⟩) hge31 (.slice (some ⟨b32q, o32q, none⟩) N c32))
              generalize (((W37.setCell ⟨b31, 0, none⟩ (.int .i64 (j : Int))).setCell ⟨b31, 1, none⟩ (.slice (some ⟨g32, 0, none⟩) 35 35)).setCell ⟨b31, 2, none⟩ (.slice (some ⟨b32q, o32q, none⟩) N c32)) = W38 at *
              refine hK.out _ _ (hkS _ hB38') (fun hHeld => ?_)
              clear hK K
              try simp only [List.getElem_toArray, List.getElem_cons_succ, List.getElem_cons_zero, Act.put, List.setIfInBounds_toArray, List.set_cons_zero, List.set_cons_succ]
              refine wpAnyH_take (i := 14) (oi := _) (v := ?vvq39) rfl (by kernel_rfl) (by kernel_rfl) (by kernel_rfl) (fun _ _ _ h => h) (Or.inl ⟨by kernel_rfl, ?hyq39⟩) hHeld ?restq39
              case hyq39 => intro w hSw; (try dsimp only at hSw); (try go_split_ands); go_simp; try with_reducible rfl
              try simp only [List.getElem_toArray, List.getElem_cons_succ, List.getElem_cons_zero, Act.put, List.setIfInBounds_toArray, List.set_cons_zero, List.set_cons_succ]
              refine wpAnyH_done (by kernel_rfl) ?_ _
              go_wp2_with fail
              go_meet
              exact ⟨b21, b31, g32, (some ⟨b32q, o32q, none⟩), c32, rfl, rfl, rfl, hge21, hA38, hX38, rdS_some hl38, rdS_some hq38, hcc32, hcm32, hB38'⟩
          refine AllReadyH.cons (o := _) rfl (fun K hK => ?_) AllReadyH.nil
          · go_simp
            have hF40 := Box.new 38 [.int .i64 0, .slice none 0 0, .slice none 0 0] W0
            have hB40' := hB0.alloc hB0.size (.cells #[.int .i64 0, .slice none 0 0, .slice none 0 0] 38)
            have hge40 := hB0.size
            generalize W0.alloc (.cells #[.int .i64 0, .slice none 0 0, .slice none 0 0] 38) = W40 at *
            generalize W0.heap.size = b40 at *
            refine hK.out _ _ (hkS _ hB40') (fun hHeld => ?_)
            clear hK K
            try simp only [List.getElem_toArray, List.getElem_cons_succ, List.getElem_cons_zero, Act.put, List.setIfInBounds_toArray, List.set_cons_zero, List.set_cons_succ]
            refine wpAnyH_ready (rs := [5, 10]) (by kernel_rfl) (by simp) ?_
            refine AllReadyH.cons (o := _) rfl (fun K hK => ?_) ?_
            · go_simp
              refine (cuse_yes s m 1 j 1 L Q W40 hs (hT0.below hB40') hmo (by decide) HJ2.out HL.out HQ.out N HN0.out HH.out).mono ?_
              rintro e W41 ⟨g41, p41, c41, rfl, hgB41, hl41, hO41, hD41⟩
              go_wp2_with fail
              have hB41' := hB40'.trans (hD41.mono hB40'.size)
              have hX41 := hF40.on hD41
              have hgn41X : g41 ≠ b40 := Nat.ne_of_gt (Nat.lt_of_lt_of_le hF40.lt hgB41)
              have hu41 := hO41.use
              obtain ⟨b41q, o41q, e41q, hq41⟩ := hu41.2.1 HQ0.out
              subst e41q
              have hqB41 : W40.heap.size ≤ b41q := (World.ownsRow.lt hO41 b41q rfl).1
              have hqn41X : b41q ≠ b40 := Nat.ne_of_gt (Nat.lt_of_lt_of_le hF40.lt hqB41)
              have hcc41 := hu41.2.2.1
              have hcm41 := hu41.2.2.2
              clear hu41 hO41
              refine hK.out _ _ (hkS _ hB41') (fun hHeld => ?_)
              clear hK K
              try simp only [List.getElem_toArray, List.getElem_cons_succ, List.getElem_cons_zero, Act.put, List.setIfInBounds_toArray, List.set_cons_zero, List.set_cons_succ]
              refine wpAnyH_take (i := 6) (oi := _) (v := ?vvq42) rfl (by kernel_rfl) (by kernel_rfl) (by kernel_rfl) (fun _ _ _ h => h) (Or.inl ⟨by kernel_rfl, ?hyq42⟩) hHeld ?restq42
              case hyq42 => intro w hSw; (try dsimp only at hSw); (try go_split_ands); go_simp; try with_reducible rfl
              try simp only [List.getElem_toArray, List.getElem_cons_succ, List.getElem_cons_zero, Act.put, List.setIfInBounds_toArray, List.set_cons_zero, List.set_cons_succ]
              refine wpAnyH_take (i := 7) (oi := _) (v := ?vvq43) rfl (by kernel_rfl) (by kernel_rfl) (by kernel_rfl) (fun _ _ _ h => h) (Or.inl ⟨by kernel_rfl, ?hyq43⟩) hHeld ?restq43
              case hyq43 => intro w hSw; (try dsimp only at hSw); (try go_split_ands); go_simp; try with_reducible rfl
              try simp only [List.getElem_toArray, List.getElem_cons_succ, List.getElem_cons_zero, Act.put, List.setIfInBounds_toArray, List.set_cons_zero, List.set_cons_succ]
              refine wpAnyH_take (i := 8) (oi := _) (v := ?vvq44) rfl (by kernel_rfl) (by kernel_rfl) (by kernel_rfl) (fun _ _ _ h => h) (Or.inl ⟨by kernel_rfl, ?hyq44⟩) hHeld ?restq44
              case hyq44 => intro w hSw; (try dsimp only at hSw); (try go_split_ands); go_simp; try with_reducible rfl
              try simp only [List.getElem_toArray, List.getElem_cons_succ, List.getElem_cons_zero, Act.put, List.setIfInBounds_toArray, List.set_cons_zero, List.set_cons_succ]
              refine wpAnyH_take (i := 9) (oi := _) (v := ?vvq45) rfl (by kernel_rfl) (by kernel_rfl) (by kernel_rfl) (fun _ _ _ h => h) (Or.inl ⟨by kernel_rfl, ?hyq45⟩) hHeld ?restq45
              case hyq45 => intro w hSw; (try dsimp only at hSw); (try go_split_ands); go_simp; try with_reducible rfl
              try simp only [List.getElem_toArray, List.getElem_cons_succ, List.getElem_cons_zero, Act.put, List.setIfInBounds_toArray, List.set_cons_zero, List.set_cons_succ]
              refine wpAnyH_ready (rs := [10]) (by kernel_rfl) (by simp) ?_
              refine AllReadyH.cons (o := _) rfl (fun K hK => ?_) AllReadyH.nil
              go_simp
              have hF46 := Box.new 30 [.int .u32 0, .int .u32 0, .int .u32 0, .int .u32 0, .int .i64 0, .int .i64 0] W41
              have hB46' := hB41'.alloc hB41'.size (.cells #[.int .u32 0, .int .u32 0, .int .u32 0, .int .u32 0, .int .i64 0, .int .i64 0] 30)
              have hge46 := hB41'.size
              have hO46 := hX41.al (.cells #[.int .u32 0, .int .u32 0, .int .u32 0, .int .u32 0, .int .i64 0, .int .i64 0] 30)
              have hne46 : b40 ≠ W41.heap.size := Nat.ne_of_lt hX41.lt
              have hl46 := rdl_al6 hl41 (.cells #[.int .u32 0, .int .u32 0, .int .u32 0, .int .u32 0, .int .i64 0, .int .i64 0] 30)
              have hgn46 : g41 ≠ W41.heap.size := Nat.ne_of_lt hl41.1
              have hq46 := rdl_al6 hq41 (.cells #[.int .u32 0, .int .u32 0, .int .u32 0, .int .u32 0, .int .i64 0, .int .i64 0] 30)
              have hqn46 : b41q ≠ W41.heap.size := Nat.ne_of_lt hq41.1
              generalize W41.alloc (.cells #[.int .u32 0, .int .u32 0, .int .u32 0, .int .u32 0, .int .i64 0, .int .i64 0] 30) = W46 at *
              generalize W41.heap.size = b46 at *
              refine hK.out _ _ (hkS _ hB46') (fun hHeld => ?_)
              clear hK K
              try simp only [List.getElem_toArray, List.getElem_cons_succ, List.getElem_cons_zero, Act.put, List.setIfInBounds_toArray, List.set_cons_zero, List.set_cons_succ]
              refine wpAnyH_ready (rs := [12]) (by kernel_rfl) (by simp) ?_
              refine AllReadyH.cons (o := _) rfl (fun K hK => ?_) AllReadyH.nil
              have z47_0 := hF46.cell (j := 0) (v := .int .u32 0) rfl
              have y47_0 := hF46.fz 0
              have z47_1 := hF46.cell (j := 1) (v := .int .u32 0) rfl
              have y47_1 := hF46.fz 1
              have z47_2 := hF46.cell (j := 2) (v := .int .u32 0) rfl
              have y47_2 := hF46.fz 2
              have z47_3 := hF46.cell (j := 3) (v := .int .u32 0) rfl
              have y47_3 := hF46.fz 3
              have z47_4 := hF46.cell (j := 4) (v := .int .i64 0) rfl
              have y47_4 := hF46.fz 4
              have z47_5 := hF46.cell (j := 5) (v := .int .i64 0) rfl
              have y47_5 := hF46.fz 5
              go_simp
              clear z47_0 y47_0 z47_1 y47_1 z47_2 y47_2 z47_3 y47_3 z47_4 y47_4 z47_5 y47_5
              have hA47 : Box 30 b46 [.int .u32 s.d0, .int .u32 s.d1, .int .u32 s.d2, .int .u32 s.d3, .int .i64 1, .int .i64 ((j : Int) + 1)] ((((((W46.setCell ⟨b46, 0, none⟩ (.int .u32 s.d0)).setCell ⟨b46, 1, none⟩ (.int .u32 s.d1)).setCell ⟨b46, 2, none⟩ (.int .u32 s.d2)).setCell ⟨b46, 3, none⟩ (.int .u32 s.d3)).setCell ⟨b46, 4, none⟩ (.int .i64 1)).setCell ⟨b46, 5, none⟩ (.int .i64 ((j : Int) + 1))) := ((((((hF46.set 0 (.int .u32 s.d0)).set 1 (.int .u32 s.d1)).set 2 (.int .u32 s.d2)).set 3 (.int .u32 s.d3)).set 4 (.int .i64 1)).set 5 (.int .i64 ((j : Int) + 1)))
              have hX47 := ((((((hO46.far (a := ⟨b46, 0, none⟩) hne46 (.int .u32 s.d0)).far (a := ⟨b46, 1, none⟩) hne46 (.int .u32 s.d1)).far (a := ⟨b46, 2, none⟩) hne46 (.int .u32 s.d2)).far (a := ⟨b46, 3, none⟩) hne46 (.int .u32 s.d3)).far (a := ⟨b46, 4, none⟩) hne46 (.int .i64 1)).far (a := ⟨b46, 5, none⟩) hne46 (.int .i64 ((j : Int) + 1)))
              have hl47 := ((((((hl46.far (a := ⟨b46, 0, none⟩) hgn46 (.int .u32 s.d0)).far (a := ⟨b46, 1, none⟩) hgn46 (.int .u32 s.d1)).far (a := ⟨b46, 2, none⟩) hgn46 (.int .u32 s.d2)).far (a := ⟨b46, 3, none⟩) hgn46 (.int .u32 s.d3)).far (a := ⟨b46, 4, none⟩) hgn46 (.int .i64 1)).far (a := ⟨b46, 5, none⟩) hgn46 (.int .i64 ((j : Int) + 1)))
              have hq47 := ((((((hq46.far (a := ⟨b46, 0, none⟩) hqn46 (.int .u32 s.d0)).far (a := ⟨b46, 1, none⟩) hqn46 (.int .u32 s.d1)).far (a := ⟨b46, 2, none⟩) hqn46 (.int .u32 s.d2)).far (a := ⟨b46, 3, none⟩) hqn46 (.int .u32 s.d3)).far (a := ⟨b46, 4, none⟩) hqn46 (.int .i64 1)).far (a := ⟨b46, 5, none⟩) hqn46 (.int .i64 ((j : Int) + 1)))
              have hB47' := ((((((hB46'.setCell (p := ⟨b46, 0, none⟩) hge46 (.int .u32 s.d0)).setCell (p := ⟨b46, 1, none⟩) hge46 (.int .u32 s.d1)).setCell (p := ⟨b46, 2, none⟩) hge46 (.int .u32 s.d2)).setCell (p := ⟨b46, 3, none⟩) hge46 (.int .u32 s.d3)).setCell (p := ⟨b46, 4, none⟩) hge46 (.int .i64 1)).setCell (p := ⟨b46, 5, none⟩) hge46 (.int .i64 ((j : Int) + 1)))
              generalize ((((((W46.setCell ⟨b46, 0, none⟩ (.int .u32 s.d0)).setCell ⟨b46, 1, none⟩ (.int .u32 s.d1)).setCell ⟨b46, 2, none⟩ (.int .u32 s.d2)).setCell ⟨b46, 3, none⟩ (.int .u32 s.d3)).setCell ⟨b46, 4, none⟩ (.int .i64 1)).setCell ⟨b46, 5, none⟩ (.int .i64 ((j : Int) + 1))) = W47 at *
              refine hK.out _ _ (hkS _ hB47') (fun hHeld => ?_)
              clear hK K
              try simp only [List.getElem_toArray, List.getElem_cons_succ, List.getElem_cons_zero, Act.put, List.setIfInBounds_toArray, List.set_cons_zero, List.set_cons_succ]
              refine wpAnyH_ready (rs := [13]) (by kernel_rfl) (by simp) ?_
              refine AllReadyH.cons (o := _) rfl (fun K hK => ?_) AllReadyH.nil
              have z48_0 := hX47.cell (j := 0) (v := .int .i64 0) rfl
              have y48_0 := hX47.fz 0
              have z48_1 := hX47.cell (j := 1) (v := .slice none 0 0) rfl
              have y48_1 := hX47.fz 1
              have z48_2 := hX47.cell (j := 2) (v := .slice none 0 0) rfl
              have y48_2 := hX47.fz 2
              go_simp
              clear z48_0 y48_0 z48_1 y48_1 z48_2 y48_2
              have hX48 : Box 38 b40 [.int .i64 (j : Int), .slice (some ⟨g41, 0, none⟩) 35 35, .slice (some ⟨b41q, o41q, none⟩) N c41] (((W47.setCell ⟨b40, 0, none⟩ (.int .i64 (j : Int))).setCell ⟨b40, 1, none⟩ (.slice (some ⟨g41, 0, none⟩) 35 35)).setCell ⟨b40, 2, none⟩ (.slice (some ⟨b41q, o41q, none⟩) N c41)) := (((hX47.set 0 (.int .i64 (j : Int))).set 1 (.slice (some ⟨g41, 0, none⟩) 35 35)).set 2 (.slice (some ⟨b41q, o41q, none⟩) N c41))
              have hA48 := (((hA47.far (a := ⟨b40, 0, none⟩) (Ne.symm hne46) (.int .i64 (j : Int))).far (a := ⟨b40, 1, none⟩) (Ne.symm hne46) (.slice (some ⟨g41, 0, none⟩) 35 35)).far (a := ⟨b40, 2, none⟩) (Ne.symm hne46) (.slice (some ⟨b41q, o41q, none⟩) N c41))
              have hl48 := (((hl47.far (a := ⟨b40, 0, none⟩) hgn41X (.int .i64 (j : Int))).far (a := ⟨b40, 1, none⟩) hgn41X (.slice (some ⟨g41, 0, none⟩) 35 35)).far (a := ⟨b40, 2, none⟩) hgn41X (.slice (some ⟨b41q, o41q, none⟩) N c41))
              have hq48 := (((hq47.far (a := ⟨b40, 0, none⟩) hqn41X (.int .i64 (j : Int))).far (a := ⟨b40, 1, none⟩) hqn41X (.slice (some ⟨g41, 0, none⟩) 35 35)).far (a := ⟨b40, 2, none⟩) hqn41X (.slice (some ⟨b41q, o41q, none⟩) N c41))
              have hB48' := (((hB47'.setCell (p := ⟨b40, 0, none⟩) hge40 (.int .i64 (j : Int))).setCell (p := ⟨b40, 1, none⟩) hge40 (.slice (some ⟨g41, 0, none⟩) 35 35)).setCell (p := ⟨b40, 2, none⟩) hge40 (.slice (some ⟨b41q, o41q, none⟩) N c41))
              generalize (((W47.setCell ⟨b40, 0, none⟩ (.int .i64 (j : Int))).setCell ⟨b40, 1, none⟩ (.slice (some ⟨g41, 0, none⟩) 35 35)).setCell ⟨b40, 2, none⟩ (.slice (some ⟨b41q, o41q, none⟩) N c41)) = W48 at *
              refine hK.out _ _ (hkS _ hB48') (fun hHeld => ?_)
              clear hK K
              try simp only [List.getElem_toArray, List.getElem_cons_succ, List.getElem_cons_zero, Act.put, List.setIfInBounds_toArray, List.set_cons_zero, List.set_cons_succ]
              refine wpAnyH_take (i := 14) (oi := _) (v := ?vvq49) rfl (by kernel_rfl) (by kernel_rfl) (by kernel_rfl) (fun _ _ _ h => h) (Or.inl ⟨by kernel_rfl, ?hyq49⟩) hHeld ?restq49
              case hyq49 => intro w hSw; (try dsimp only at hSw); (try go_split_ands); go_simp; try with_reducible rfl
              try simp only [List.getElem_toArray, List.getElem_cons_succ, List.getElem_cons_zero, Act.put, List.setIfInBounds_toArray, List.set_cons_zero, List.set_cons_succ]
              refine wpAnyH_done (by kernel_rfl) ?_ _
              go_wp2_with fail
              go_meet
              exact ⟨b46, b40, g41, (some ⟨b41q, o41q, none⟩), c41, rfl, rfl, rfl, hge46, hA48, hX48, rdS_some hl48, rdS_some hq48, hcc41, hcm41, hB48'⟩
            refine AllReadyH.cons (o := _) rfl (fun K hK => ?_) AllReadyH.nil
            · go_simp
              have hF50 := Box.new 30 [.int .u32 0, .int .u32 0, .int .u32 0, .int .u32 0, .int .i64 0, .int .i64 0] W40
              have hB50' := hB40'.alloc hB40'.size (.cells #[.int .u32 0, .int .u32 0, .int .u32 0, .int .u32 0, .int .i64 0, .int .i64 0] 30)
              have hge50 := hB40'.size
              have hO50 := hF40.al (.cells #[.int .u32 0, .int .u32 0, .int .u32 0, .int .u32 0, .int .i64 0, .int .i64 0] 30)
              have hne50 : b40 ≠ W40.heap.size := Nat.ne_of_lt hF40.lt
              generalize W40.alloc (.cells #[.int .u32 0, .int .u32 0, .int .u32 0, .int .u32 0, .int .i64 0, .int .i64 0] 30) = W50 at *
              generalize W40.heap.size = b50 at *
              refine hK.out _ _ (hkS _ hB50') (fun hHeld => ?_)
              clear hK K
              try simp only [List.getElem_toArray, List.getElem_cons_succ, List.getElem_cons_zero, Act.put, List.setIfInBounds_toArray, List.set_cons_zero, List.set_cons_succ]
              refine wpAnyH_ready (rs := [5]) (by kernel_rfl) (by simp) ?_
              refine AllReadyH.cons (o := _) rfl (fun K hK => ?_) AllReadyH.nil
              go_simp
              refine (cuse_yes s m 1 j 1 L Q W50 hs (hT0.below hB50') hmo (by decide) HJ2.out HL.out HQ.out N HN0.out HH.out).mono ?_
              rintro e W51 ⟨g51, p51, c51, rfl, hgB51, hl51, hO51, hD51⟩
              go_wp2_with fail
              have hB51' := hB50'.trans (hD51.mono hB50'.size)
              have hA51 := hF50.on hD51
              have hX51 := hO50.on hD51
              have hgn51A : g51 ≠ b50 := Nat.ne_of_gt (Nat.lt_of_lt_of_le hF50.lt hgB51)
              have hgn51X : g51 ≠ b40 := Nat.ne_of_gt (Nat.lt_of_lt_of_le hO50.lt hgB51)
              have hu51 := hO51.use
              obtain ⟨b51q, o51q, e51q, hq51⟩ := hu51.2.1 HQ0.out
              subst e51q
              have hqB51 : W50.heap.size ≤ b51q := (World.ownsRow.lt hO51 b51q rfl).1
              have hqn51A : b51q ≠ b50 := Nat.ne_of_gt (Nat.lt_of_lt_of_le hF50.lt hqB51)
              have hqn51X : b51q ≠ b40 := Nat.ne_of_gt (Nat.lt_of_lt_of_le hO50.lt hqB51)
              have hcc51 := hu51.2.2.1
              have hcm51 := hu51.2.2.2
              clear hu51 hO51
              refine hK.out _ _ (hkS _ hB51') (fun hHeld => ?_)
              clear hK K
              try simp only [List.getElem_toArray, List.getElem_cons_succ, List.getElem_cons_zero, Act.put, List.setIfInBounds_toArray, List.set_cons_zero, List.set_cons_succ]
              refine wpAnyH_take (i := 6) (oi := _) (v := ?vvq52) rfl (by kernel_rfl) (by kernel_rfl) (by kernel_rfl) (fun _ _ _ h => h) (Or.inl ⟨by kernel_rfl, ?hyq52⟩) hHeld ?restq52
              case hyq52 => intro w hSw; (try dsimp only at hSw); (try go_split_ands); go_simp; try with_reducible rfl
              try simp only [List.getElem_toArray, List.getElem_cons_succ, List.getElem_cons_zero, Act.put, List.setIfInBounds_toArray, List.set_cons_zero, List.set_cons_succ]
              refine wpAnyH_take (i := 7) (oi := _) (v := ?vvq53) rfl (by kernel_rfl) (by kernel_rfl) (by kernel_rfl) (fun _ _ _ h => h) (Or.inl ⟨by kernel_rfl, ?hyq53⟩) hHeld ?restq53
              case hyq53 => intro w hSw; (try dsimp only at hSw); (try go_split_ands); go_simp; try with_reducible rfl
              try simp only [List.getElem_toArray, List.getElem_cons_succ, List.getElem_cons_zero, Act.put, List.setIfInBounds_toArray, List.set_cons_zero, List.set_cons_succ]
              refine wpAnyH_take (i := 8) (oi := _) (v := ?vvq54) rfl (by kernel_rfl) (by kernel_rfl) (by kernel_rfl) (fun _ _ _ h => h) (Or.inl ⟨by kernel_rfl, ?hyq54⟩) hHeld ?restq54
              case hyq54 => intro w hSw; (try dsimp only at hSw); (try go_split_ands); go_simp; try with_reducible rfl
              try simp only [List.getElem_toArray, List.getElem_cons_succ, List.getElem_cons_zero, Act.put, List.setIfInBounds_toArray, List.set_cons_zero, List.set_cons_succ]
              refine wpAnyH_take (i := 9) (oi := _) (v := ?vvq55) rfl (by kernel_rfl) (by kernel_rfl) (by kernel_rfl) (fun _ _ _ h => h) (Or.inl ⟨by kernel_rfl, ?hyq55⟩) hHeld ?restq55
              case hyq55 => intro w hSw; (try dsimp only at hSw); (try go_split_ands); go_simp; try with_reducible rfl
              try simp only [List.getElem_toArray, List.getElem_cons_succ, List.getElem_cons_zero, Act.put, List.setIfInBounds_toArray, List.set_cons_zero, List.set_cons_succ]
              refine wpAnyH_ready (rs := [12]) (by kernel_rfl) (by simp) ?_
              refine AllReadyH.cons (o := _) rfl (fun K hK => ?_) AllReadyH.nil
              have z56_0 := hA51.cell (j := 0) (v := .int .u32 0) rfl
              have y56_0 := hA51.fz 0
              have z56_1 := hA51.cell (j := 1) (v := .int .u32 0) rfl
              have y56_1 := hA51.fz 1
              have z56_2 := hA51.cell (j := 2) (v := .int .u32 0) rfl
              have y56_2 := hA51.fz 2
              have z56_3 := hA51.cell (j := 3) (v := .int .u32 0) rfl
              have y56_3 := hA51.fz 3
              have z56_4 := hA51.cell (j := 4) (v := .int .i64 0) rfl
              have y56_4 := hA51.fz 4
              have z56_5 := hA51.cell (j := 5) (v := .int .i64 0) rfl
              have y56_5 := hA51.fz 5
              go_simp
              clear z56_0 y56_0 z56_1 y56_1 z56_2 y56_2 z56_3 y56_3 z56_4 y56_4 z56_5 y56_5
              have hA56 : Box 30 b50 [.int .u32 s.d0, .int .u32 s.d1, .int .u32 s.d2, .int .u32 s.d3, .int .i64 1, .int .i64 ((j : Int) + 1)] ((((((W51.setCell ⟨b50, 0, none⟩ (.int .u32 s.d0)).setCell ⟨b50, 1, none⟩ (.int .u32 s.d1)).setCell ⟨b50, 2, none⟩ (.int .u32 s.d2)).setCell ⟨b50, 3, none⟩ (.int .u32 s.d3)).setCell ⟨b50, 4, none⟩ (.int .i64 1)).setCell ⟨b50, 5, none⟩ (.int .i64 ((j : Int) + 1))) := ((((((hA51.set 0 (.int .u32 s.d0)).set 1 (.int .u32 s.d1)).set 2 (.int .u32 s.d2)).set 3 (.int .u32 s.d3)).set 4 (.int .i64 1)).set 5 (.int .i64 ((j : Int) + 1)))
              have hX56 := ((((((hX51.far (a := ⟨b50, 0, none⟩) hne50 (.int .u32 s.d0)).far (a := ⟨b50, 1, none⟩) hne50 (.int .u32 s.d1)).far (a := ⟨b50, 2, none⟩) hne50 (.int .u32 s.d2)).far (a := ⟨b50, 3, none⟩) hne50 (.int .u32 s.d3)).far (a := ⟨b50, 4, none⟩) hne50 (.int .i64 1)).far (a := ⟨b50, 5, none⟩) hne50 (.int .i64 ((j : Int) + 1)))
              have hl56 := ((((((hl51.far (a := ⟨b50, 0, none⟩) hgn51A (.int .u32 s.d0)).far (a := ⟨b50, 1, none⟩) hgn51A (.int .u32 s.d1)).far (a := ⟨b50, 2, none⟩) hgn51A (.int .u32 s.d2)).far (a := ⟨b50, 3, none⟩) hgn51A (.int .u32 s.d3)).far (a := ⟨b50, 4, none⟩) hgn51A (.int .i64 1)).far (a := ⟨b50, 5, none⟩) hgn51A (.int .i64 ((j : Int) + 1)))
              have hq56 := ((((((hq51.far (a := ⟨b50, 0, none⟩) hqn51A (.int .u32 s.d0)).far (a := ⟨b50, 1, none⟩) hqn51A (.int .u32 s.d1)).far (a := ⟨b50, 2, none⟩) hqn51A (.int .u32 s.d2)).far (a := ⟨b50, 3, none⟩) hqn51A (.int .u32 s.d3)).far (a := ⟨b50, 4, none⟩) hqn51A (.int .i64 1)).far (a := ⟨b50, 5, none⟩) hqn51A (.int .i64 ((j : Int) + 1)))
              have hB56' := ((((((hB51'.setCell (p := ⟨b50, 0, none⟩) hge50 (.int .u32 s.d0)).setCell (p := ⟨b50, 1, none⟩) hge50 (.int .u32 s.d1)).setCell (p := ⟨b50, 2, none⟩) hge50 (.int .u32 s.d2)).setCell (p := ⟨b50, 3, none⟩) hge50 (.int .u32 s.d3)).setCell (p := ⟨b50, 4, none⟩) hge50 (.int .i64 1)).setCell (p := ⟨b50, 5, none⟩) hge50 (.int .i64 ((j : Int) + 1)))
              generalize ((((((W51.setCell ⟨b50, 0, none⟩ (.int .u32 s.d0)).setCell ⟨b50, 1, none⟩ (.int .u32 s.d1)).setCell ⟨b50, 2, none⟩ (.int .u32 s.d2)).setCell ⟨b50, 3, none⟩ (.int .u32 s.d3)).setCell ⟨b50, 4, none⟩ (.int .i64 1)).setCell ⟨b50, 5, none⟩ (.int .i64 ((j : Int) + 1))) = W56 at *
              refine hK.out _ _ (hkS _ hB56') (fun hHeld => ?_)
              clear hK K
              try simp only [List.getElem_toArray, List.getElem_cons_succ, List.getElem_cons_zero, Act.put, List.setIfInBounds_toArray, List.set_cons_zero, List.set_cons_succ]
              refine wpAnyH_ready (rs := [13]) (by kernel_rfl) (by simp) ?_
              refine AllReadyH.cons (o := _) rfl (fun K hK => ?_) AllReadyH.nil
              have z57_0 := hX56.cell (j := 0) (v := .int .i64 0) rfl
              have y57_0 := hX56.fz 0
              have z57_1 := hX56.cell (j := 1) (v := .slice none 0 0) rfl
              have y57_1 := hX56.fz 1
              have z57_2 := hX56.cell (j := 2) (v := .slice none 0 0) rfl
              have y57_2 := hX56.fz 2
              go_simp
              clear z57_0 y57_0 z57_1 y57_1 z57_2 y57_2
              have hX57 : Box 38 b40 [.int .i64 (j : Int), .slice (some ⟨g51, 0, none⟩) 35 35, .slice (some ⟨b51q, o51q, none⟩) N c51] (((W56.setCell ⟨b40, 0, none⟩ (.int .i64 (j : Int))).setCell ⟨b40, 1, none⟩ (.slice (some ⟨g51, 0, none⟩) 35 35)).setCell ⟨b40, 2, none⟩ (.slice (some ⟨b51q, o51q, none⟩) N c51)) := (((hX56.set 0 (.int .i64 (j : Int))).set 1 (.slice (some ⟨g51, 0, none⟩) 35 35)).set 2 (.slice (some ⟨b51q, o51q, none⟩) N c51))
              have hA57 := (((hA56.far (a := ⟨b40, 0, none⟩) (Ne.symm hne50) (.int .i64 (j : Int))).far (a := ⟨b40, 1, none⟩) (Ne.symm hne50) (.slice (some ⟨g51, 0, none⟩) 35 35)).far (a := ⟨b40, 2, none⟩) (Ne.symm hne50) (.slice (some ⟨b51q, o51q, none⟩) N c51))
              have hl57 := (((hl56.far (a := ⟨b40, 0, none⟩) hgn51X (.int .i64 (j : Int))).far (a := ⟨b40, 1, none⟩) hgn51X (.slice (some ⟨g51, 0, none⟩) 35 35)).far (a := ⟨b40, 2, none⟩) hgn51X (.slice (some ⟨b51q, o51q, none⟩) N c51))
              have hq57 := (((hq56.far (a := ⟨b40, 0, none⟩) hqn51X (.int .i64 (j : Int))).far (a := ⟨b40, 1, none⟩) hqn51X (.slice (some ⟨g51, 0, none⟩) 35 35)).far (a := ⟨b40, 2, none⟩) hqn51X (.slice (some ⟨b51q, o51q, none⟩) N c51))
              have hB57' := (((hB56'.setCell (p := ⟨b40, 0, none⟩) hge40 (.int .i64 (j : Int))).setCell (p := ⟨b40, 1, none⟩) hge40 (.slice (some ⟨g51, 0, none⟩) 35 35)).setCell (p := ⟨b40, 2, none⟩) hge40 (.slice (some ⟨b51q, o51q, none⟩) N c51))
              generalize (((W56.setCell ⟨b40, 0, none⟩ (.int .i64 (j : Int))).setCell ⟨b40, 1, none⟩ (.slice (some ⟨g51, 0, none⟩) 35 35)).setCell ⟨b40, 2, none⟩ (.slice (some ⟨b51q, o51q, none⟩) N c51)) = W57 at *
              refine hK.out _ _ (hkS _ hB57') (fun hHeld => ?_)
              clear hK K
              try simp only [List.getElem_toArray, List.getElem_cons_succ, List.getElem_cons_zero, Act.put, List.setIfInBounds_toArray, List.set_cons_zero, List.set_cons_succ]
              refine wpAnyH_take (i := 14) (oi := _) (v := ?vvq58) rfl (by kernel_rfl) (by kernel_rfl) (by kernel_rfl) (fun _ _ _ h => h) (Or.inl ⟨by kernel_rfl, ?hyq58⟩) hHeld ?restq58
              case hyq58 => intro w hSw; (try dsimp only at hSw); (try go_split_ands); go_simp; try with_reducible rfl
              try simp only [List.getElem_toArray, List.getElem_cons_succ, List.getElem_cons_zero, Act.put, List.setIfInBounds_toArray, List.set_cons_zero, List.set_cons_succ]
              refine wpAnyH_done (by kernel_rfl) ?_ _
              go_wp2_with fail
              go_meet
              exact ⟨b50, b40, g51, (some ⟨b51q, o51q, none⟩), c51, rfl, rfl, rfl, hge50, hA57, hX57, rdS_some hl57, rdS_some hq57, hcc51, hcm51, hB57'⟩
        case rest =>
          obtain ⟨ba, bb, g, p1, c1, rfl, rfl, rfl, hgeb, hA, hX, hl1, hq1, hc1, hm1, hD⟩ := hcut
          replace hN := hN.on hD
          replace hP := hP.on hD
          clear hrl
          replace hB := hB.trans (hD.mono hB.size)
          replace hT := hT.below hD
          replace hc4 := hc4.on hD hbl
          replace hbl := Nat.lt_of_lt_of_le hbl hD.size
          replace hA : Box 30 ba [.int .u32 s.d0, .int .u32 s.d1, .int .u32 s.d2, .int .u32 s.d3, .int .i64 1, .int .i64 ((j : Int) + 1)] wc.drew := hA
          replace hX : Box 38 bb [.int .i64 (j : Int), .slice (some ⟨g, 0, none⟩) 35 35, .slice p1 N c1] wc.drew := hX
          replace hN : Box 30 (w3.heap.size) [.int .u32 s.d0, .int .u32 s.d1, .int .u32 s.d2, .int .u32 s.d3, .int .i64 1, .int .i64 (j : Int)] wc.drew := hN
          replace hP : Box 24 (w6.heap.size) [.int .u32 v.d0, .int .u32 v.d1, .int .u32 v.d2, .int .u32 v.d3] wc.drew := hP
          replace hl1 : RdS wc.drew (some ⟨g, 0, none⟩) L := hl1
          replace hq1 : RdS wc.drew p1 Q := hq1
          replace hB : Below w.heap.size w wc.drew := hB.drew
          replace hbl : bl < wc.drew.heap.size := hbl
          have hTa : TurnsOk wc.drew := hT
          clear hT
          have hgT : 0 < wc.drew.heap.size := tab_low hTa gTrn
          have HS0 : Hid (wc.drew.cell? ⟨bb, 0, none⟩ = some (.int .i64 (j : Int)) ∧ wc.drew.cell? ⟨bb, 1, none⟩ = some (.slice (some ⟨g, 0, none⟩) 35 35) ∧ wc.drew.cell? ⟨bb, 2, none⟩ = some (.slice p1 N c1) ∧ wc.drew.cell? ⟨w6.heap.size, 0, none⟩ = some (.int .u32 v.d0) ∧ wc.drew.cell? ⟨w6.heap.size, 1, none⟩ = some (.int .u32 v.d1) ∧ wc.drew.cell? ⟨w6.heap.size, 2, none⟩ = some (.int .u32 v.d2) ∧ wc.drew.cell? ⟨w6.heap.size, 3, none⟩ = some (.int .u32 v.d3) ∧ wc.drew.cell? ⟨bl, ol + j * 4, none⟩ = some (.int .u32 m.d0) ∧ wc.drew.cell? ⟨bl, ol + j * 4 + 1, none⟩ = some (.int .u32 m.d1) ∧ wc.drew.cell? ⟨bl, ol + j * 4 + 2, none⟩ = some (.int .u32 m.d2) ∧ wc.drew.cell? ⟨bl, ol + j * 4 + 3, none⟩ = some (.int .u32 m.d3)) := ⟨hX.cell rfl, hX.cell rfl, hX.cell rfl, hP.cell rfl, hP.cell rfl, hP.cell rfl, hP.cell rfl, hc4.1, hc4.2.1, hc4.2.2.1, hc4.2.2.2⟩
          have g0 := hX.lt
          have g1 := hP.lt
          have hszB := hB.size
          have hCur : Below wc.drew.heap.size wc.drew wc.drew := Below.refl _ _
          clear hX hc4 hD
          go_wp2_with fail
          go_region_held3 (fun w' => w'.cell? ⟨bb, 0, none⟩ = some (.int .i64 (j : Int)) ∧ w'.cell? ⟨bb, 1, none⟩ = some (.slice (some ⟨g, 0, none⟩) 35 35) ∧ w'.cell? ⟨bb, 2, none⟩ = some (.slice p1 N c1) ∧ w'.cell? ⟨w6.heap.size, 0, none⟩ = some (.int .u32 v.d0) ∧ w'.cell? ⟨w6.heap.size, 1, none⟩ = some (.int .u32 v.d1) ∧ w'.cell? ⟨w6.heap.size, 2, none⟩ = some (.int .u32 v.d2) ∧ w'.cell? ⟨w6.heap.size, 3, none⟩ = some (.int .u32 v.d3) ∧ w'.cell? ⟨bl, ol + j * 4, none⟩ = some (.int .u32 m.d0) ∧ w'.cell? ⟨bl, ol + j * 4 + 1, none⟩ = some (.int .u32 m.d1) ∧ w'.cell? ⟨bl, ol + j * 4 + 2, none⟩ = some (.int .u32 m.d2) ∧ w'.cell? ⟨bl, ol + j * 4 + 3, none⟩ = some (.int .u32 m.d3))
            (exact keepF hCur g0 g1 hbl HS0.out)
            (first
              | (go_at_call 17; (with_reducible refine (ccheck6_any v m (j : Int) L Q true (some ⟨g, 0, none⟩) p1 35 35 N c1 _ hmo HLO2.out HQO.out HLN.out HN0.out.symm (hl1.on hCur) (hq1.on hCur) (Nat.le_of_eq HLN.out.symm) (by unfold maxLen; omega) hc1 hm1 (turns_far hTa hgT hCur) HC.out).mono ?_); rintro e wb ⟨rfl, hP1⟩; have hCur : Below wc.drew.heap.size wc.drew wb := hCur.trans (hP1.mono hCur.size)))
          replace hA := hA.on hCur
          replace hN := hN.on hCur
          replace hP := hP.on hCur
          replace hB := hB.trans (hCur.mono hszB)
          have c0 := hA.cell (j := 0) (v := .int .u32 s.d0) rfl
          have c1 := hA.cell (j := 1) (v := .int .u32 s.d1) rfl
          have c2 := hA.cell (j := 2) (v := .int .u32 s.d2) rfl
          have c3 := hA.cell (j := 3) (v := .int .u32 s.d3) rfl
          have c4 := hA.cell (j := 4) (v := .int .i64 1) rfl
          have c5 := hA.cell (j := 5) (v := .int .i64 ((j : Int) + 1)) rfl
          have d0 := hN.cell (j := 0) (v := .int .u32 s.d0) rfl
          have f0 := hN.fz 0
          have d1 := hN.cell (j := 1) (v := .int .u32 s.d1) rfl
          have f1 := hN.fz 1
          have d2 := hN.cell (j := 2) (v := .int .u32 s.d2) rfl
          have f2 := hN.fz 2
          have d3 := hN.cell (j := 3) (v := .int .u32 s.d3) rfl
          have f3 := hN.fz 3
          have d4 := hN.cell (j := 4) (v := .int .i64 1) rfl
          have f4 := hN.fz 4
          have d5 := hN.cell (j := 5) (v := .int .i64 (j : Int)) rfl
          have f5 := hN.fz 5
          go_wp2_with fail
          clear c0 d0 f0 c1 d1 f1 c2 d2 f2 c3 d3 f3 c4 d4 f4 c5 d5 f5
          have hN2 : Box 30 (w3.heap.size) [.int .u32 s.d0, .int .u32 s.d1, .int .u32 s.d2, .int .u32 s.d3, .int .i64 1, .int .i64 ((j : Int) + 1)] ((((((wb.setCell ⟨w3.heap.size, 0, none⟩ (.int .u32 s.d0)).setCell ⟨w3.heap.size, 1, none⟩ (.int .u32 s.d1)).setCell ⟨w3.heap.size, 2, none⟩ (.int .u32 s.d2)).setCell ⟨w3.heap.size, 3, none⟩ (.int .u32 s.d3)).setCell ⟨w3.heap.size, 4, none⟩ (.int .i64 1)).setCell ⟨w3.heap.size, 5, none⟩ (.int .i64 ((j : Int) + 1))) := ((((((hN.set 0 (.int .u32 s.d0)).set 1 (.int .u32 s.d1)).set 2 (.int .u32 s.d2)).set 3 (.int .u32 s.d3)).set 4 (.int .i64 1)).set 5 (.int .i64 ((j : Int) + 1)))
          have hP2 := ((((((hP.far (a := ⟨w3.heap.size, 0, none⟩) (Ne.symm hnp) (.int .u32 s.d0)).far (a := ⟨w3.heap.size, 1, none⟩) (Ne.symm hnp) (.int .u32 s.d1)).far (a := ⟨w3.heap.size, 2, none⟩) (Ne.symm hnp) (.int .u32 s.d2)).far (a := ⟨w3.heap.size, 3, none⟩) (Ne.symm hnp) (.int .u32 s.d3)).far (a := ⟨w3.heap.size, 4, none⟩) (Ne.symm hnp) (.int .i64 1)).far (a := ⟨w3.heap.size, 5, none⟩) (Ne.symm hnp) (.int .i64 ((j : Int) + 1)))
          have hB2 := ((((((hB.setCell (p := ⟨w3.heap.size, 0, none⟩) hwN (.int .u32 s.d0)).setCell (p := ⟨w3.heap.size, 1, none⟩) hwN (.int .u32 s.d1)).setCell (p := ⟨w3.heap.size, 2, none⟩) hwN (.int .u32 s.d2)).setCell (p := ⟨w3.heap.size, 3, none⟩) hwN (.int .u32 s.d3)).setCell (p := ⟨w3.heap.size, 4, none⟩) hwN (.int .i64 1)).setCell (p := ⟨w3.heap.size, 5, none⟩) hwN (.int .i64 ((j : Int) + 1)))
          generalize ((((((wb.setCell ⟨w3.heap.size, 0, none⟩ (.int .u32 s.d0)).setCell ⟨w3.heap.size, 1, none⟩ (.int .u32 s.d1)).setCell ⟨w3.heap.size, 2, none⟩ (.int .u32 s.d2)).setCell ⟨w3.heap.size, 3, none⟩ (.int .u32 s.d3)).setCell ⟨w3.heap.size, 4, none⟩ (.int .i64 1)).setCell ⟨w3.heap.size, 5, none⟩ (.int .i64 ((j : Int) + 1))) = wf at *
          replace hN2 : Box 30 (w3.heap.size) [.int .u32 s.d0, .int .u32 s.d1, .int .u32 s.d2, .int .u32 s.d3, .int .i64 1, .int .i64 ((min (j + 1) 2 : Nat) : Int)] wf := by rw [show min (j + 1) 2 = j + 1 by omega]; exact hN2
          go_roundg (n - (j + 1))
          case measure => omega
          case rel => exact ⟨j + 1, rfl, by omega, by go_num, hN2, hP2, hB2⟩
      · rw [show min j 2 = 2 by omega] at hN
        replace hN : Box 30 (w3.heap.size) [.int .u32 s.d0, .int .u32 s.d1, .int .u32 s.d2, .int .u32 s.d3, .int .i64 1, .int .i64 2] wr := hN
        have hmd : decide ((2 : Int) ≤ (j : Int)) = true := by simp; omega
        have hEz := eqSR_yes zeroD 0 0
        simp only [zeroD] at hEz
        go_upto_region 17 with fail
        go_cut [14, 15, 16] from 41 to 85 (fun sa sb se wx => ∃ ba bb, sa = .pointer (some ⟨ba, 0, none⟩) ∧ sb = .pointer (some ⟨bb, 0, none⟩) ∧ se = .int .i64 9 ∧ Box 30 ba [.int .u32 0, .int .u32 0, .int .u32 0, .int .u32 0, .int .i64 0, .int .i64 0] wx ∧ Box 38 bb [.int .i64 0, .slice none 0 0, .slice none 0 0] wx ∧ Below wr.heap.size wr wx)
        case first =>
          have hkS : ∀ W : World, Below wr.heap.size wr W → (W.cell? ⟨w3.heap.size, 0, none⟩ = some (.int .u32 s.d0) ∧ W.cell? ⟨w3.heap.size, 1, none⟩ = some (.int .u32 s.d1) ∧ W.cell? ⟨w3.heap.size, 2, none⟩ = some (.int .u32 s.d2) ∧ W.cell? ⟨w3.heap.size, 3, none⟩ = some (.int .u32 s.d3) ∧ W.cell? ⟨w3.heap.size, 4, none⟩ = some (.int .i64 1) ∧ W.cell? ⟨w3.heap.size, 5, none⟩ = some (.int .i64 2) ∧ W.cell? ⟨bl, ol + j * 4, none⟩ = some (.int .u32 m.d0) ∧ W.cell? ⟨bl, ol + j * 4 + 1, none⟩ = some (.int .u32 m.d1) ∧ W.cell? ⟨bl, ol + j * 4 + 2, none⟩ = some (.int .u32 m.d2) ∧ W.cell? ⟨bl, ol + j * 4 + 3, none⟩ = some (.int .u32 m.d3)) := fun W h => by
            have hn := hN.on h
            have hc := hc4.on h hbl
            exact ⟨hn.cell rfl, hn.cell rfl, hn.cell rfl, hn.cell rfl, hn.cell rfl, hn.cell rfl, hc.1, hc.2.1, hc.2.2.1, hc.2.2.2⟩
          have hB0 : Below wr.heap.size wr wr.drew := (Below.refl _ _).drew
          have hT0 := hT
          refine wp_region_held_drew (S := fun w' => w'.cell? ⟨w3.heap.size, 0, none⟩ = some (.int .u32 s.d0) ∧ w'.cell? ⟨w3.heap.size, 1, none⟩ = some (.int .u32 s.d1) ∧ w'.cell? ⟨w3.heap.size, 2, none⟩ = some (.int .u32 s.d2) ∧ w'.cell? ⟨w3.heap.size, 3, none⟩ = some (.int .u32 s.d3) ∧ w'.cell? ⟨w3.heap.size, 4, none⟩ = some (.int .i64 1) ∧ w'.cell? ⟨w3.heap.size, 5, none⟩ = some (.int .i64 2) ∧ w'.cell? ⟨bl, ol + j * 4, none⟩ = some (.int .u32 m.d0) ∧ w'.cell? ⟨bl, ol + j * 4 + 1, none⟩ = some (.int .u32 m.d1) ∧ w'.cell? ⟨bl, ol + j * 4 + 2, none⟩ = some (.int .u32 m.d2) ∧ w'.cell? ⟨bl, ol + j * 4 + 3, none⟩ = some (.int .u32 m.d3)) (by kernel_rfl) (hkS _ hB0) (fun hHeld => ?_)
          clear hP hB hrl
          generalize wr.drew = W0 at *
          refine wpAnyH_take (i := 0) (oi := _) (v := ?vvq59) rfl (by kernel_rfl) (by kernel_rfl) (by kernel_rfl) (fun _ _ _ h => h) (Or.inl ⟨by kernel_rfl, ?hyq59⟩) hHeld ?restq59
          case hyq59 => intro w hSw; (try dsimp only at hSw); (try go_split_ands); go_simp; try with_reducible rfl
          try simp only [List.getElem_toArray, List.getElem_cons_zero, Act.put, List.setIfInBounds_toArray, List.set_cons_zero, List.set_cons_succ]
          refine wpAnyH_take (i := 1) (oi := _) (v := ?vvq60) rfl (by kernel_rfl) (by kernel_rfl) (by kernel_rfl) (fun _ _ _ h => h) (Or.inl ⟨by kernel_rfl, ?hyq60⟩) hHeld ?restq60
          case hyq60 => intro w hSw; (try dsimp only at hSw); (try go_split_ands); go_simp; try with_reducible rfl
          try simp only [List.getElem_toArray, List.getElem_cons_succ, List.getElem_cons_zero, Act.put, List.setIfInBounds_toArray, List.set_cons_zero, List.set_cons_succ]
          refine wpAnyH_take (i := 2) (oi := _) (v := ?vvq61) rfl (by kernel_rfl) (by kernel_rfl) (by kernel_rfl) (fun _ _ _ h => h) (Or.inl ⟨by kernel_rfl, ?hyq61⟩) hHeld ?restq61
          case hyq61 => intro w hSw; (try dsimp only at hSw); (try go_split_ands); go_simp; try with_reducible rfl
          try simp only [List.getElem_toArray, List.getElem_cons_succ, List.getElem_cons_zero, Act.put, List.setIfInBounds_toArray, List.set_cons_zero, List.set_cons_succ]
          refine wpAnyH_take (i := 3) (oi := _) (v := ?vvq62) rfl (by kernel_rfl) (by kernel_rfl) (by kernel_rfl) (fun _ _ _ h => h) (Or.inl ⟨by kernel_rfl, ?hyq62⟩) hHeld ?restq62
          case hyq62 => intro w hSw; (try dsimp only at hSw); (try go_split_ands); go_simp; try with_reducible rfl
          try simp only [List.getElem_toArray, List.getElem_cons_succ, List.getElem_cons_zero, Act.put, List.setIfInBounds_toArray, List.set_cons_zero, List.set_cons_succ]
          refine wpAnyH_take (i := 4) (oi := _) (v := ?vvq63) rfl (by kernel_rfl) (by kernel_rfl) (by kernel_rfl) (fun _ _ _ h => h) (Or.inl ⟨by kernel_rfl, ?hyq63⟩) hHeld ?restq63
          case hyq63 => intro w hSw; (try dsimp only at hSw); (try go_split_ands); go_simp; try with_reducible rfl
          try simp only [List.getElem_toArray, List.getElem_cons_succ, List.getElem_cons_zero, Act.put, List.setIfInBounds_toArray, List.set_cons_zero, List.set_cons_succ]
          refine wpAnyH_ready (rs := [5, 10, 11]) (by kernel_rfl) (by simp) ?_
          refine AllReadyH.cons (o := _) rfl (fun K hK => ?_) ?_
          · go_simp
            refine (cuse_no s m 1 1 2 W0 hs (hT0.below hB0) (by decide) (by decide) HH.out).mono ?_
            rintro e W64 ⟨rfl, hD64⟩
            go_wp2_with fail
            have hB64' := hB0.trans (hD64.mono hB0.size)
            refine hK.out _ _ (hkS _ hB64') (fun hHeld => ?_)
            clear hK K
            try simp only [List.getElem_toArray, List.getElem_cons_succ, List.getElem_cons_zero, Act.put, List.setIfInBounds_toArray, List.set_cons_zero, List.set_cons_succ]
            refine wpAnyH_take (i := 6) (oi := _) (v := ?vvq65) rfl (by kernel_rfl) (by kernel_rfl) (by kernel_rfl) (fun _ _ _ h => h) (Or.inl ⟨by kernel_rfl, ?hyq65⟩) hHeld ?restq65
            case hyq65 => intro w hSw; (try dsimp only at hSw); (try go_split_ands); go_simp; try with_reducible rfl
            try simp only [List.getElem_toArray, List.getElem_cons_succ, List.getElem_cons_zero, Act.put, List.setIfInBounds_toArray, List.set_cons_zero, List.set_cons_succ]
            refine wpAnyH_take (i := 7) (oi := _) (v := ?vvq66) rfl (by kernel_rfl) (by kernel_rfl) (by kernel_rfl) (fun _ _ _ h => h) (Or.inl ⟨by kernel_rfl, ?hyq66⟩) hHeld ?restq66
            case hyq66 => intro w hSw; (try dsimp only at hSw); (try go_split_ands); go_simp; try with_reducible rfl
            try simp only [List.getElem_toArray, List.getElem_cons_succ, List.getElem_cons_zero, Act.put, List.setIfInBounds_toArray, List.set_cons_zero, List.set_cons_succ]
            refine wpAnyH_take (i := 8) (oi := _) (v := ?vvq67) rfl (by kernel_rfl) (by kernel_rfl) (by kernel_rfl) (fun _ _ _ h => h) (Or.inl ⟨by kernel_rfl, ?hyq67⟩) hHeld ?restq67
            case hyq67 => intro w hSw; (try dsimp only at hSw); (try go_split_ands); go_simp; try with_reducible rfl
            try simp only [List.getElem_toArray, List.getElem_cons_succ, List.getElem_cons_zero, Act.put, List.setIfInBounds_toArray, List.set_cons_zero, List.set_cons_succ]
            refine wpAnyH_take (i := 9) (oi := _) (v := ?vvq68) rfl (by kernel_rfl) (by kernel_rfl) (by kernel_rfl) (fun _ _ _ h => h) (Or.inl ⟨by kernel_rfl, ?hyq68⟩) hHeld ?restq68
            case hyq68 => intro w hSw; (try dsimp only at hSw); (try go_split_ands); go_simp; try with_reducible rfl
            try simp only [List.getElem_toArray, List.getElem_cons_succ, List.getElem_cons_zero, Act.put, List.setIfInBounds_toArray, List.set_cons_zero, List.set_cons_succ]
            refine wpAnyH_ready (rs := [10, 11]) (by kernel_rfl) (by simp) ?_
            refine AllReadyH.cons (o := _) rfl (fun K hK => ?_) ?_
            · go_simp
              have hF69 := Box.new 30 [.int .u32 0, .int .u32 0, .int .u32 0, .int .u32 0, .int .i64 0, .int .i64 0] W64
              have hB69' := hB64'.alloc hB64'.size (.cells #[.int .u32 0, .int .u32 0, .int .u32 0, .int .u32 0, .int .i64 0, .int .i64 0] 30)
              have hge69 := hB64'.size
              generalize W64.alloc (.cells #[.int .u32 0, .int .u32 0, .int .u32 0, .int .u32 0, .int .i64 0, .int .i64 0] 30) = W69 at *
              generalize W64.heap.size = b69 at *
              refine hK.out _ _ (hkS _ hB69') (fun hHeld => ?_)
              clear hK K
              try simp only [List.getElem_toArray, List.getElem_cons_succ, List.getElem_cons_zero, Act.put, List.setIfInBounds_toArray, List.set_cons_zero, List.set_cons_succ]
              refine wpAnyH_ready (rs := [11]) (by kernel_rfl) (by simp) ?_
              refine AllReadyH.cons (o := _) rfl (fun K hK => ?_) AllReadyH.nil
              go_simp
              have hF70 := Box.new 38 [.int .i64 0, .slice none 0 0, .slice none 0 0] W69
              have hB70' := hB69'.alloc hB69'.size (.cells #[.int .i64 0, .slice none 0 0, .slice none 0 0] 38)
              have hge70 := hB69'.size
              have hO70 := hF69.al (.cells #[.int .i64 0, .slice none 0 0, .slice none 0 0] 38)
              have hne70 : b69 ≠ W69.heap.size := Nat.ne_of_lt hF69.lt
              generalize W69.alloc (.cells #[.int .i64 0, .slice none 0 0, .slice none 0 0] 38) = W70 at *
              generalize W69.heap.size = b70 at *
              refine hK.out _ _ (hkS _ hB70') (fun hHeld => ?_)
              clear hK K
              try simp only [List.getElem_toArray, List.getElem_cons_succ, List.getElem_cons_zero, Act.put, List.setIfInBounds_toArray, List.set_cons_zero, List.set_cons_succ]
              refine wpAnyH_ready (rs := [12]) (by kernel_rfl) (by simp) ?_
              refine AllReadyH.cons (o := _) rfl (fun K hK => ?_) AllReadyH.nil
              have z71_0 := hO70.cell (j := 0) (v := .int .u32 0) rfl
              have y71_0 := hO70.fz 0
              have z71_1 := hO70.cell (j := 1) (v := .int .u32 0) rfl
              have y71_1 := hO70.fz 1
              have z71_2 := hO70.cell (j := 2) (v := .int .u32 0) rfl
              have y71_2 := hO70.fz 2
              have z71_3 := hO70.cell (j := 3) (v := .int .u32 0) rfl
              have y71_3 := hO70.fz 3
              have z71_4 := hO70.cell (j := 4) (v := .int .i64 0) rfl
              have y71_4 := hO70.fz 4
              have z71_5 := hO70.cell (j := 5) (v := .int .i64 0) rfl
              have y71_5 := hO70.fz 5
              go_simp
              clear z71_0 y71_0 z71_1 y71_1 z71_2 y71_2 z71_3 y71_3 z71_4 y71_4 z71_5 y71_5
              have hA71 : Box 30 b69 [.int .u32 0, .int .u32 0, .int .u32 0, .int .u32 0, .int .i64 0, .int .i64 0] ((((((W70.setCell ⟨b69, 0, none⟩ (.int .u32 0)).setCell ⟨b69, 1, none⟩ (.int .u32 0)).setCell ⟨b69, 2, none⟩ (.int .u32 0)).setCell ⟨b69, 3, none⟩ (.int .u32 0)).setCell ⟨b69, 4, none⟩ (.int .i64 0)).setCell ⟨b69, 5, none⟩ (.int .i64 0)) := ((((((hO70.set 0 (.int .u32 0)).set 1 (.int .u32 0)).set 2 (.int .u32 0)).set 3 (.int .u32 0)).set 4 (.int .i64 0)).set 5 (.int .i64 0))
              have hX71 := ((((((hF70.far (a := ⟨b69, 0, none⟩) (Ne.symm hne70) (.int .u32 0)).far (a := ⟨b69, 1, none⟩) (Ne.symm hne70) (.int .u32 0)).far (a := ⟨b69, 2, none⟩) (Ne.symm hne70) (.int .u32 0)).far (a := ⟨b69, 3, none⟩) (Ne.symm hne70) (.int .u32 0)).far (a := ⟨b69, 4, none⟩) (Ne.symm hne70) (.int .i64 0)).far (a := ⟨b69, 5, none⟩) (Ne.symm hne70) (.int .i64 0))
              have hB71' := ((((((hB70'.setCell (p := ⟨b69, 0, none⟩) hge69 (.int .u32 0)).setCell (p := ⟨b69, 1, none⟩) hge69 (.int .u32 0)).setCell (p := ⟨b69, 2, none⟩) hge69 (.int .u32 0)).setCell (p := ⟨b69, 3, none⟩) hge69 (.int .u32 0)).setCell (p := ⟨b69, 4, none⟩) hge69 (.int .i64 0)).setCell (p := ⟨b69, 5, none⟩) hge69 (.int .i64 0))
              generalize ((((((W70.setCell ⟨b69, 0, none⟩ (.int .u32 0)).setCell ⟨b69, 1, none⟩ (.int .u32 0)).setCell ⟨b69, 2, none⟩ (.int .u32 0)).setCell ⟨b69, 3, none⟩ (.int .u32 0)).setCell ⟨b69, 4, none⟩ (.int .i64 0)).setCell ⟨b69, 5, none⟩ (.int .i64 0)) = W71 at *
              refine hK.out _ _ (hkS _ hB71') (fun hHeld => ?_)
              clear hK K
              try simp only [List.getElem_toArray, List.getElem_cons_succ, List.getElem_cons_zero, Act.put, List.setIfInBounds_toArray, List.set_cons_zero, List.set_cons_succ]
              refine wpAnyH_ready (rs := [13]) (by kernel_rfl) (by simp) ?_
              refine AllReadyH.cons (o := _) rfl (fun K hK => ?_) AllReadyH.nil
              have z72_0 := hX71.cell (j := 0) (v := .int .i64 0) rfl
              have y72_0 := hX71.fz 0
              have z72_1 := hX71.cell (j := 1) (v := .slice none 0 0) rfl
              have y72_1 := hX71.fz 1
              have z72_2 := hX71.cell (j := 2) (v := .slice none 0 0) rfl
              have y72_2 := hX71.fz 2
              go_simp
              clear z72_0 y72_0 z72_1 y72_1 z72_2 y72_2
              have hX72 : Box 38 b70 [.int .i64 0, .slice none 0 0, .slice none 0 0] (((W71.setCell ⟨b70, 0, none⟩ (.int .i64 0)).setCell ⟨b70, 1, none⟩ (.slice none 0 0)).setCell ⟨b70, 2, none⟩ (.slice none 0 0)) := (((hX71.set 0 (.int .i64 0)).set 1 (.slice none 0 0)).set 2 (.slice none 0 0))
              have hA72 := (((hA71.far (a := ⟨b70, 0, none⟩) hne70 (.int .i64 0)).far (a := ⟨b70, 1, none⟩) hne70 (.slice none 0 0)).far (a := ⟨b70, 2, none⟩) hne70 (.slice none 0 0))
              have hB72' := (((hB71'.setCell (p := ⟨b70, 0, none⟩) hge70 (.int .i64 0)).setCell (p := ⟨b70, 1, none⟩) hge70 (.slice none 0 0)).setCell (p := ⟨b70, 2, none⟩) hge70 (.slice none 0 0))
              generalize (((W71.setCell ⟨b70, 0, none⟩ (.int .i64 0)).setCell ⟨b70, 1, none⟩ (.slice none 0 0)).setCell ⟨b70, 2, none⟩ (.slice none 0 0)) = W72 at *
              refine hK.out _ _ (hkS _ hB72') (fun hHeld => ?_)
              clear hK K
              try simp only [List.getElem_toArray, List.getElem_cons_succ, List.getElem_cons_zero, Act.put, List.setIfInBounds_toArray, List.set_cons_zero, List.set_cons_succ]
              refine wpAnyH_take (i := 14) (oi := _) (v := ?vvq73) rfl (by kernel_rfl) (by kernel_rfl) (by kernel_rfl) (fun _ _ _ h => h) (Or.inl ⟨by kernel_rfl, ?hyq73⟩) hHeld ?restq73
              case hyq73 => intro w hSw; (try dsimp only at hSw); (try go_split_ands); go_simp; try with_reducible rfl
              try simp only [List.getElem_toArray, List.getElem_cons_succ, List.getElem_cons_zero, Act.put, List.setIfInBounds_toArray, List.set_cons_zero, List.set_cons_succ]
              refine wpAnyH_done (by kernel_rfl) ?_ _
              go_wp2_with fail
              go_meet
              exact ⟨b69, b70, rfl, rfl, rfl, hA72, hX72, hB72'⟩
            refine AllReadyH.cons (o := _) rfl (fun K hK => ?_) AllReadyH.nil
            · go_simp
              have hF74 := Box.new 38 [.int .i64 0, .slice none 0 0, .slice none 0 0] W64
              have hB74' := hB64'.alloc hB64'.size (.cells #[.int .i64 0, .slice none 0 0, .slice none 0 0] 38)
              have hge74 := hB64'.size
              generalize W64.alloc (.cells #[.int .i64 0, .slice none 0 0, .slice none 0 0] 38) = W74 at *
              generalize W64.heap.size = b74 at *
              refine hK.out _ _ (hkS _ hB74') (fun hHeld => ?_)
              clear hK K
              try simp only [List.getElem_toArray, List.getElem_cons_succ, List.getElem_cons_zero, Act.put, List.setIfInBounds_toArray, List.set_cons_zero, List.set_cons_succ]
              refine wpAnyH_ready (rs := [10]) (by kernel_rfl) (by simp) ?_
              refine AllReadyH.cons (o := _) rfl (fun K hK => ?_) AllReadyH.nil
              go_simp
              have hF75 := Box.new 30 [.int .u32 0, .int .u32 0, .int .u32 0, .int .u32 0, .int .i64 0, .int .i64 0] W74
              have hB75' := hB74'.alloc hB74'.size (.cells #[.int .u32 0, .int .u32 0, .int .u32 0, .int .u32 0, .int .i64 0, .int .i64 0] 30)
              have hge75 := hB74'.size
              have hO75 := hF74.al (.cells #[.int .u32 0, .int .u32 0, .int .u32 0, .int .u32 0, .int .i64 0, .int .i64 0] 30)
              have hne75 : b74 ≠ W74.heap.size := Nat.ne_of_lt hF74.lt
              generalize W74.alloc (.cells #[.int .u32 0, .int .u32 0, .int .u32 0, .int .u32 0, .int .i64 0, .int .i64 0] 30) = W75 at *
              generalize W74.heap.size = b75 at *
              refine hK.out _ _ (hkS _ hB75') (fun hHeld => ?_)
              clear hK K
              try simp only [List.getElem_toArray, List.getElem_cons_succ, List.getElem_cons_zero, Act.put, List.setIfInBounds_toArray, List.set_cons_zero, List.set_cons_succ]
              refine wpAnyH_ready (rs := [12]) (by kernel_rfl) (by simp) ?_
              refine AllReadyH.cons (o := _) rfl (fun K hK => ?_) AllReadyH.nil
              have z76_0 := hF75.cell (j := 0) (v := .int .u32 0) rfl
              have y76_0 := hF75.fz 0
              have z76_1 := hF75.cell (j := 1) (v := .int .u32 0) rfl
              have y76_1 := hF75.fz 1
              have z76_2 := hF75.cell (j := 2) (v := .int .u32 0) rfl
              have y76_2 := hF75.fz 2
              have z76_3 := hF75.cell (j := 3) (v := .int .u32 0) rfl
              have y76_3 := hF75.fz 3
              have z76_4 := hF75.cell (j := 4) (v := .int .i64 0) rfl
              have y76_4 := hF75.fz 4
              have z76_5 := hF75.cell (j := 5) (v := .int .i64 0) rfl
              have y76_5 := hF75.fz 5
              go_simp
              clear z76_0 y76_0 z76_1 y76_1 z76_2 y76_2 z76_3 y76_3 z76_4 y76_4 z76_5 y76_5
              have hA76 : Box 30 b75 [.int .u32 0, .int .u32 0, .int .u32 0, .int .u32 0, .int .i64 0, .int .i64 0] ((((((W75.setCell ⟨b75, 0, none⟩ (.int .u32 0)).setCell ⟨b75, 1, none⟩ (.int .u32 0)).setCell ⟨b75, 2, none⟩ (.int .u32 0)).setCell ⟨b75, 3, none⟩ (.int .u32 0)).setCell ⟨b75, 4, none⟩ (.int .i64 0)).setCell ⟨b75, 5, none⟩ (.int .i64 0)) := ((((((hF75.set 0 (.int .u32 0)).set 1 (.int .u32 0)).set 2 (.int .u32 0)).set 3 (.int .u32 0)).set 4 (.int .i64 0)).set 5 (.int .i64 0))
              have hX76 := ((((((hO75.far (a := ⟨b75, 0, none⟩) hne75 (.int .u32 0)).far (a := ⟨b75, 1, none⟩) hne75 (.int .u32 0)).far (a := ⟨b75, 2, none⟩) hne75 (.int .u32 0)).far (a := ⟨b75, 3, none⟩) hne75 (.int .u32 0)).far (a := ⟨b75, 4, none⟩) hne75 (.int .i64 0)).far (a := ⟨b75, 5, none⟩) hne75 (.int .i64 0))
              have hB76' := ((((((hB75'.setCell (p := ⟨b75, 0, none⟩) hge75 (.int .u32 0)).setCell (p := ⟨b75, 1, none⟩) hge75 (.int .u32 0)).setCell (p := ⟨b75, 2, none⟩) hge75 (.int .u32 0)).setCell (p := ⟨b75, 3, none⟩) hge75 (.int .u32 0)).setCell (p := ⟨b75, 4, none⟩) hge75 (.int .i64 0)).setCell (p := ⟨b75, 5, none⟩) hge75 (.int .i64 0))
              generalize ((((((W75.setCell ⟨b75, 0, none⟩ (.int .u32 0)).setCell ⟨b75, 1, none⟩ (.int .u32 0)).setCell ⟨b75, 2, none⟩ (.int .u32 0)).setCell ⟨b75, 3, none⟩ (.int .u32 0)).setCell ⟨b75, 4, none⟩ (.int .i64 0)).setCell ⟨b75, 5, none⟩ (.int .i64 0)) = W76 at *
              refine hK.out _ _ (hkS _ hB76') (fun hHeld => ?_)
              clear hK K
              try simp only [List.getElem_toArray, List.getElem_cons_succ, List.getElem_cons_zero, Act.put, List.setIfInBounds_toArray, List.set_cons_zero, List.set_cons_succ]
              refine wpAnyH_ready (rs := [13]) (by kernel_rfl) (by simp) ?_
              refine AllReadyH.cons (o := _) rfl (fun K hK => ?_) AllReadyH.nil
              have z77_0 := hX76.cell (j := 0) (v := .int .i64 0) rfl
              have y77_0 := hX76.fz 0
              have z77_1 := hX76.cell (j := 1) (v := .slice none 0 0) rfl
              have y77_1 := hX76.fz 1
              have z77_2 := hX76.cell (j := 2) (v := .slice none 0 0) rfl
              have y77_2 := hX76.fz 2
              go_simp
              clear z77_0 y77_0 z77_1 y77_1 z77_2 y77_2
              have hX77 : Box 38 b74 [.int .i64 0, .slice none 0 0, .slice none 0 0] (((W76.setCell ⟨b74, 0, none⟩ (.int .i64 0)).setCell ⟨b74, 1, none⟩ (.slice none 0 0)).setCell ⟨b74, 2, none⟩ (.slice none 0 0)) := (((hX76.set 0 (.int .i64 0)).set 1 (.slice none 0 0)).set 2 (.slice none 0 0))
              have hA77 := (((hA76.far (a := ⟨b74, 0, none⟩) (Ne.symm hne75) (.int .i64 0)).far (a := ⟨b74, 1, none⟩) (Ne.symm hne75) (.slice none 0 0)).far (a := ⟨b74, 2, none⟩) (Ne.symm hne75) (.slice none 0 0))
              have hB77' := (((hB76'.setCell (p := ⟨b74, 0, none⟩) hge74 (.int .i64 0)).setCell (p := ⟨b74, 1, none⟩) hge74 (.slice none 0 0)).setCell (p := ⟨b74, 2, none⟩) hge74 (.slice none 0 0))
              generalize (((W76.setCell ⟨b74, 0, none⟩ (.int .i64 0)).setCell ⟨b74, 1, none⟩ (.slice none 0 0)).setCell ⟨b74, 2, none⟩ (.slice none 0 0)) = W77 at *
              refine hK.out _ _ (hkS _ hB77') (fun hHeld => ?_)
              clear hK K
              try simp only [List.getElem_toArray, List.getElem_cons_succ, List.getElem_cons_zero, Act.put, List.setIfInBounds_toArray, List.set_cons_zero, List.set_cons_succ]
              refine wpAnyH_take (i := 14) (oi := _) (v := ?vvq78) rfl (by kernel_rfl) (by kernel_rfl) (by kernel_rfl) (fun _ _ _ h => h) (Or.inl ⟨by kernel_rfl, ?hyq78⟩) hHeld ?restq78
              case hyq78 => intro w hSw; (try dsimp only at hSw); (try go_split_ands); go_simp; try with_reducible rfl
              try simp only [List.getElem_toArray, List.getElem_cons_succ, List.getElem_cons_zero, Act.put, List.setIfInBounds_toArray, List.set_cons_zero, List.set_cons_succ]
              refine wpAnyH_done (by kernel_rfl) ?_ _
              go_wp2_with fail
              go_meet
              exact ⟨b75, b74, rfl, rfl, rfl, hA77, hX77, hB77'⟩
          refine AllReadyH.cons (o := _) rfl (fun K hK => ?_) ?_
          · go_simp
            have hF79 := Box.new 30 [.int .u32 0, .int .u32 0, .int .u32 0, .int .u32 0, .int .i64 0, .int .i64 0] W0
            have hB79' := hB0.alloc hB0.size (.cells #[.int .u32 0, .int .u32 0, .int .u32 0, .int .u32 0, .int .i64 0, .int .i64 0] 30)
            have hge79 := hB0.size
            generalize W0.alloc (.cells #[.int .u32 0, .int .u32 0, .int .u32 0, .int .u32 0, .int .i64 0, .int .i64 0] 30) = W79 at *
            generalize W0.heap.size = b79 at *
            refine hK.out _ _ (hkS _ hB79') (fun hHeld => ?_)
            clear hK K
            try simp only [List.getElem_toArray, List.getElem_cons_succ, List.getElem_cons_zero, Act.put, List.setIfInBounds_toArray, List.set_cons_zero, List.set_cons_succ]
            refine wpAnyH_ready (rs := [5, 11]) (by kernel_rfl) (by simp) ?_
            refine AllReadyH.cons (o := _) rfl (fun K hK => ?_) ?_
            · go_simp
              refine (cuse_no s m 1 1 2 W79 hs (hT0.below hB79') (by decide) (by decide) HH.out).mono ?_
              rintro e W80 ⟨rfl, hD80⟩
              go_wp2_with fail
              have hB80' := hB79'.trans (hD80.mono hB79'.size)
              have hA80 := hF79.on hD80
              refine hK.out _ _ (hkS _ hB80') (fun hHeld => ?_)
              clear hK K
              try simp only [List.getElem_toArray, List.getElem_cons_succ, List.getElem_cons_zero, Act.put, List.setIfInBounds_toArray, List.set_cons_zero, List.set_cons_succ]
              refine wpAnyH_take (i := 6) (oi := _) (v := ?vvq81) rfl (by kernel_rfl) (by kernel_rfl) (by kernel_rfl) (fun _ _ _ h => h) (Or.inl ⟨by kernel_rfl, ?hyq81⟩) hHeld ?restq81
              case hyq81 => intro w hSw; (try dsimp only at hSw); (try go_split_ands); go_simp; try with_reducible rfl
              try simp only [List.getElem_toArray, List.getElem_cons_succ, List.getElem_cons_zero, Act.put, List.setIfInBounds_toArray, List.set_cons_zero, List.set_cons_succ]
              refine wpAnyH_take (i := 7) (oi := _) (v := ?vvq82) rfl (by kernel_rfl) (by kernel_rfl) (by kernel_rfl) (fun _ _ _ h => h) (Or.inl ⟨by kernel_rfl, ?hyq82⟩) hHeld ?restq82
              case hyq82 => intro w hSw; (try dsimp only at hSw); (try go_split_ands); go_simp; try with_reducible rfl
              try simp only [List.getElem_toArray, List.getElem_cons_succ, List.getElem_cons_zero, Act.put, List.setIfInBounds_toArray, List.set_cons_zero, List.set_cons_succ]
              refine wpAnyH_take (i := 8) (oi := _) (v := ?vvq83) rfl (by kernel_rfl) (by kernel_rfl) (by kernel_rfl) (fun _ _ _ h => h) (Or.inl ⟨by kernel_rfl, ?hyq83⟩) hHeld ?restq83
              case hyq83 => intro w hSw; (try dsimp only at hSw); (try go_split_ands); go_simp; try with_reducible rfl
              try simp only [List.getElem_toArray, List.getElem_cons_succ, List.getElem_cons_zero, Act.put, List.setIfInBounds_toArray, List.set_cons_zero, List.set_cons_succ]
              refine wpAnyH_take (i := 9) (oi := _) (v := ?vvq84) rfl (by kernel_rfl) (by kernel_rfl) (by kernel_rfl) (fun _ _ _ h => h) (Or.inl ⟨by kernel_rfl, ?hyq84⟩) hHeld ?restq84
              case hyq84 => intro w hSw; (try dsimp only at hSw); (try go_split_ands); go_simp; try with_reducible rfl
              try simp only [List.getElem_toArray, List.getElem_cons_succ, List.getElem_cons_zero, Act.put, List.setIfInBounds_toArray, List.set_cons_zero, List.set_cons_succ]
              refine wpAnyH_ready (rs := [11]) (by kernel_rfl) (by simp) ?_
              refine AllReadyH.cons (o := _) rfl (fun K hK => ?_) AllReadyH.nil
              go_simp
              have hF85 := Box.new 38 [.int .i64 0, .slice none 0 0, .slice none 0 0] W80
              have hB85' := hB80'.alloc hB80'.size (.cells #[.int .i64 0, .slice none 0 0, .slice none 0 0] 38)
              have hge85 := hB80'.size
              have hO85 := hA80.al (.cells #[.int .i64 0, .slice none 0 0, .slice none 0 0] 38)
              have hne85 : b79 ≠ W80.heap.size := Nat.ne_of_lt hA80.lt
              generalize W80.alloc (.cells #[.int .i64 0, .slice none 0 0, .slice none 0 0] 38) = W85 at *
              generalize W80.heap.size = b85 at *
              refine hK.out _ _ (hkS _ hB85') (fun hHeld => ?_)
              clear hK K
              try simp only [List.getElem_toArray, List.getElem_cons_succ, List.getElem_cons_zero, Act.put, List.setIfInBounds_toArray, List.set_cons_zero, List.set_cons_succ]
              refine wpAnyH_ready (rs := [12]) (by kernel_rfl) (by simp) ?_
              refine AllReadyH.cons (o := _) rfl (fun K hK => ?_) AllReadyH.nil
              have z86_0 := hO85.cell (j := 0) (v := .int .u32 0) rfl
              have y86_0 := hO85.fz 0
              have z86_1 := hO85.cell (j := 1) (v := .int .u32 0) rfl
              have y86_1 := hO85.fz 1
              have z86_2 := hO85.cell (j := 2) (v := .int .u32 0) rfl
              have y86_2 := hO85.fz 2
              have z86_3 := hO85.cell (j := 3) (v := .int .u32 0) rfl
              have y86_3 := hO85.fz 3
              have z86_4 := hO85.cell (j := 4) (v := .int .i64 0) rfl
              have y86_4 := hO85.fz 4
              have z86_5 := hO85.cell (j := 5) (v := .int .i64 0) rfl
              have y86_5 := hO85.fz 5
              go_simp
              clear z86_0 y86_0 z86_1 y86_1 z86_2 y86_2 z86_3 y86_3 z86_4 y86_4 z86_5 y86_5
              have hA86 : Box 30 b79 [.int .u32 0, .int .u32 0, .int .u32 0, .int .u32 0, .int .i64 0, .int .i64 0] ((((((W85.setCell ⟨b79, 0, none⟩ (.int .u32 0)).setCell ⟨b79, 1, none⟩ (.int .u32 0)).setCell ⟨b79, 2, none⟩ (.int .u32 0)).setCell ⟨b79, 3, none⟩ (.int .u32 0)).setCell ⟨b79, 4, none⟩ (.int .i64 0)).setCell ⟨b79, 5, none⟩ (.int .i64 0)) := ((((((hO85.set 0 (.int .u32 0)).set 1 (.int .u32 0)).set 2 (.int .u32 0)).set 3 (.int .u32 0)).set 4 (.int .i64 0)).set 5 (.int .i64 0))
              have hX86 := ((((((hF85.far (a := ⟨b79, 0, none⟩) (Ne.symm hne85) (.int .u32 0)).far (a := ⟨b79, 1, none⟩) (Ne.symm hne85) (.int .u32 0)).far (a := ⟨b79, 2, none⟩) (Ne.symm hne85) (.int .u32 0)).far (a := ⟨b79, 3, none⟩) (Ne.symm hne85) (.int .u32 0)).far (a := ⟨b79, 4, none⟩) (Ne.symm hne85) (.int .i64 0)).far (a := ⟨b79, 5, none⟩) (Ne.symm hne85) (.int .i64 0))
              have hB86' := ((((((hB85'.setCell (p := ⟨b79, 0, none⟩) hge79 (.int .u32 0)).setCell (p := ⟨b79, 1, none⟩) hge79 (.int .u32 0)).setCell (p := ⟨b79, 2, none⟩) hge79 (.int .u32 0)).setCell (p := ⟨b79, 3, none⟩) hge79 (.int .u32 0)).setCell (p := ⟨b79, 4, none⟩) hge79 (.int .i64 0)).setCell (p := ⟨b79, 5, none⟩) hge79 (.int .i64 0))
              generalize ((((((W85.setCell ⟨b79, 0, none⟩ (.int .u32 0)).setCell ⟨b79, 1, none⟩ (.int .u32 0)).setCell ⟨b79, 2, none⟩ (.int .u32 0)).setCell ⟨b79, 3, none⟩ (.int .u32 0)).setCell ⟨b79, 4, none⟩ (.int .i64 0)).setCell ⟨b79, 5, none⟩ (.int .i64 0)) = W86 at *
              refine hK.out _ _ (hkS _ hB86') (fun hHeld => ?_)
              clear hK K
              try simp only [List.getElem_toArray, List.getElem_cons_succ, List.getElem_cons_zero, Act.put, List.setIfInBounds_toArray, List.set_cons_zero, List.set_cons_succ]
              refine wpAnyH_ready (rs := [13]) (by kernel_rfl) (by simp) ?_
              refine AllReadyH.cons (o := _) rfl (fun K hK => ?_) AllReadyH.nil
              have z87_0 := hX86.cell (j := 0) (v := .int .i64 0) rfl
              have y87_0 := hX86.fz 0
              have z87_1 := hX86.cell (j := 1) (v := .slice none 0 0) rfl
              have y87_1 := hX86.fz 1
              have z87_2 := hX86.cell (j := 2) (v := .slice none 0 0) rfl
              have y87_2 := hX86.fz 2
              go_simp
              clear z87_0 y87_0 z87_1 y87_1 z87_2 y87_2
              have hX87 : Box 38 b85 [.int .i64 0, .slice none 0 0, .slice none 0 0] (((W86.setCell ⟨b85, 0, none⟩ (.int .i64 0)).setCell ⟨b85, 1, none⟩ (.slice none 0 0)).setCell ⟨b85, 2, none⟩ (.slice none 0 0)) := (((hX86.set 0 (.int .i64 0)).set 1 (.slice none 0 0)).set 2 (.slice none 0 0))
              have hA87 := (((hA86.far (a := ⟨b85, 0, none⟩) hne85 (.int .i64 0)).far (a := ⟨b85, 1, none⟩) hne85 (.slice none 0 0)).far (a := ⟨b85, 2, none⟩) hne85 (.slice none 0 0))
              have hB87' := (((hB86'.setCell (p := ⟨b85, 0, none⟩) hge85 (.int .i64 0)).setCell (p := ⟨b85, 1, none⟩) hge85 (.slice none 0 0)).setCell (p := ⟨b85, 2, none⟩) hge85 (.slice none 0 0))
              generalize (((W86.setCell ⟨b85, 0, none⟩ (.int .i64 0)).setCell ⟨b85, 1, none⟩ (.slice none 0 0)).setCell ⟨b85, 2, none⟩ (.slice none 0 0)) = W87 at *
              refine hK.out _ _ (hkS _ hB87') (fun hHeld => ?_)
              clear hK K
              try simp only [List.getElem_toArray, List.getElem_cons_succ, List.getElem_cons_zero, Act.put, List.setIfInBounds_toArray, List.set_cons_zero, List.set_cons_succ]
              refine wpAnyH_take (i := 14) (oi := _) (v := ?vvq88) rfl (by kernel_rfl) (by kernel_rfl) (by kernel_rfl) (fun _ _ _ h => h) (Or.inl ⟨by kernel_rfl, ?hyq88⟩) hHeld ?restq88
              case hyq88 => intro w hSw; (try dsimp only at hSw); (try go_split_ands); go_simp; try with_reducible rfl
              try simp only [List.getElem_toArray, List.getElem_cons_succ, List.getElem_cons_zero, Act.put, List.setIfInBounds_toArray, List.set_cons_zero, List.set_cons_succ]
              refine wpAnyH_done (by kernel_rfl) ?_ _
              go_wp2_with fail
              go_meet
              exact ⟨b79, b85, rfl, rfl, rfl, hA87, hX87, hB87'⟩
            refine AllReadyH.cons (o := _) rfl (fun K hK => ?_) AllReadyH.nil
            · go_simp
              have hF89 := Box.new 38 [.int .i64 0, .slice none 0 0, .slice none 0 0] W79
              have hB89' := hB79'.alloc hB79'.size (.cells #[.int .i64 0, .slice none 0 0, .slice none 0 0] 38)
              have hge89 := hB79'.size
              have hO89 := hF79.al (.cells #[.int .i64 0, .slice none 0 0, .slice none 0 0] 38)
              have hne89 : b79 ≠ W79.heap.size := Nat.ne_of_lt hF79.lt
              generalize W79.alloc (.cells #[.int .i64 0, .slice none 0 0, .slice none 0 0] 38) = W89 at *
              generalize W79.heap.size = b89 at *
              refine hK.out _ _ (hkS _ hB89') (fun hHeld => ?_)
              clear hK K
              try simp only [List.getElem_toArray, List.getElem_cons_succ, List.getElem_cons_zero, Act.put, List.setIfInBounds_toArray, List.set_cons_zero, List.set_cons_succ]
              refine wpAnyH_ready (rs := [5]) (by kernel_rfl) (by simp) ?_
              refine AllReadyH.cons (o := _) rfl (fun K hK => ?_) AllReadyH.nil
              go_simp
              refine (cuse_no s m 1 1 2 W89 hs (hT0.below hB89') (by decide) (by decide) HH.out).mono ?_
              rintro e W90 ⟨rfl, hD90⟩
              go_wp2_with fail
              have hB90' := hB89'.trans (hD90.mono hB89'.size)
              have hA90 := hO89.on hD90
              have hX90 := hF89.on hD90
              refine hK.out _ _ (hkS _ hB90') (fun hHeld => ?_)
              clear hK K
              try simp only [List.getElem_toArray, List.getElem_cons_succ, List.getElem_cons_zero, Act.put, List.setIfInBounds_toArray, List.set_cons_zero, List.set_cons_succ]
              refine wpAnyH_take (i := 6) (oi := _) (v := ?vvq91) rfl (by kernel_rfl) (by kernel_rfl) (by kernel_rfl) (fun _ _ _ h => h) (Or.inl ⟨by kernel_rfl, ?hyq91⟩) hHeld ?restq91
              case hyq91 => intro w hSw; (try dsimp only at hSw); (try go_split_ands); go_simp; try with_reducible rfl
              try simp only [List.getElem_toArray, List.getElem_cons_succ, List.getElem_cons_zero, Act.put, List.setIfInBounds_toArray, List.set_cons_zero, List.set_cons_succ]
              refine wpAnyH_take (i := 7) (oi := _) (v := ?vvq92) rfl (by kernel_rfl) (by kernel_rfl) (by kernel_rfl) (fun _ _ _ h => h) (Or.inl ⟨by kernel_rfl, ?hyq92⟩) hHeld ?restq92
              case hyq92 => intro w hSw; (try dsimp only at hSw); (try go_split_ands); go_simp; try with_reducible rfl
              try simp only [List.getElem_toArray, List.getElem_cons_succ, List.getElem_cons_zero, Act.put, List.setIfInBounds_toArray, List.set_cons_zero, List.set_cons_succ]
              refine wpAnyH_take (i := 8) (oi := _) (v := ?vvq93) rfl (by kernel_rfl) (by kernel_rfl) (by kernel_rfl) (fun _ _ _ h => h) (Or.inl ⟨by kernel_rfl, ?hyq93⟩) hHeld ?restq93
              case hyq93 => intro w hSw; (try dsimp only at hSw); (try go_split_ands); go_simp; try with_reducible rfl
              try simp only [List.getElem_toArray, List.getElem_cons_succ, List.getElem_cons_zero, Act.put, List.setIfInBounds_toArray, List.set_cons_zero, List.set_cons_succ]
              refine wpAnyH_take (i := 9) (oi := _) (v := ?vvq94) rfl (by kernel_rfl) (by kernel_rfl) (by kernel_rfl) (fun _ _ _ h => h) (Or.inl ⟨by kernel_rfl, ?hyq94⟩) hHeld ?restq94
              case hyq94 => intro w hSw; (try dsimp only at hSw); (try go_split_ands); go_simp; try with_reducible rfl
              try simp only [List.getElem_toArray, List.getElem_cons_succ, List.getElem_cons_zero, Act.put, List.setIfInBounds_toArray, List.set_cons_zero, List.set_cons_succ]
              refine wpAnyH_ready (rs := [12]) (by kernel_rfl) (by simp) ?_
              refine AllReadyH.cons (o := _) rfl (fun K hK => ?_) AllReadyH.nil
              have z95_0 := hA90.cell (j := 0) (v := .int .u32 0) rfl
              have y95_0 := hA90.fz 0
              have z95_1 := hA90.cell (j := 1) (v := .int .u32 0) rfl
              have y95_1 := hA90.fz 1
              have z95_2 := hA90.cell (j := 2) (v := .int .u32 0) rfl
              have y95_2 := hA90.fz 2
              have z95_3 := hA90.cell (j := 3) (v := .int .u32 0) rfl
              have y95_3 := hA90.fz 3
              have z95_4 := hA90.cell (j := 4) (v := .int .i64 0) rfl
              have y95_4 := hA90.fz 4
              have z95_5 := hA90.cell (j := 5) (v := .int .i64 0) rfl
              have y95_5 := hA90.fz 5
              go_simp
              clear z95_0 y95_0 z95_1 y95_1 z95_2 y95_2 z95_3 y95_3 z95_4 y95_4 z95_5 y95_5
              have hA95 : Box 30 b79 [.int .u32 0, .int .u32 0, .int .u32 0, .int .u32 0, .int .i64 0, .int .i64 0] ((((((W90.setCell ⟨b79, 0, none⟩ (.int .u32 0)).setCell ⟨b79, 1, none⟩ (.int .u32 0)).setCell ⟨b79, 2, none⟩ (.int .u32 0)).setCell ⟨b79, 3, none⟩ (.int .u32 0)).setCell ⟨b79, 4, none⟩ (.int .i64 0)).setCell ⟨b79, 5, none⟩ (.int .i64 0)) := ((((((hA90.set 0 (.int .u32 0)).set 1 (.int .u32 0)).set 2 (.int .u32 0)).set 3 (.int .u32 0)).set 4 (.int .i64 0)).set 5 (.int .i64 0))
              have hX95 := ((((((hX90.far (a := ⟨b79, 0, none⟩) (Ne.symm hne89) (.int .u32 0)).far (a := ⟨b79, 1, none⟩) (Ne.symm hne89) (.int .u32 0)).far (a := ⟨b79, 2, none⟩) (Ne.symm hne89) (.int .u32 0)).far (a := ⟨b79, 3, none⟩) (Ne.symm hne89) (.int .u32 0)).far (a := ⟨b79, 4, none⟩) (Ne.symm hne89) (.int .i64 0)).far (a := ⟨b79, 5, none⟩) (Ne.symm hne89) (.int .i64 0))
              have hB95' := ((((((hB90'.setCell (p := ⟨b79, 0, none⟩) hge79 (.int .u32 0)).setCell (p := ⟨b79, 1, none⟩) hge79 (.int .u32 0)).setCell (p := ⟨b79, 2, none⟩) hge79 (.int .u32 0)).setCell (p := ⟨b79, 3, none⟩) hge79 (.int .u32 0)).setCell (p := ⟨b79, 4, none⟩) hge79 (.int .i64 0)).setCell (p := ⟨b79, 5, none⟩) hge79 (.int .i64 0))
              generalize ((((((W90.setCell ⟨b79, 0, none⟩ (.int .u32 0)).setCell ⟨b79, 1, none⟩ (.int .u32 0)).setCell ⟨b79, 2, none⟩ (.int .u32 0)).setCell ⟨b79, 3, none⟩ (.int .u32 0)).setCell ⟨b79, 4, none⟩ (.int .i64 0)).setCell ⟨b79, 5, none⟩ (.int .i64 0)) = W95 at *
              refine hK.out _ _ (hkS _ hB95') (fun hHeld => ?_)
              clear hK K
              try simp only [List.getElem_toArray, List.getElem_cons_succ, List.getElem_cons_zero, Act.put, List.setIfInBounds_toArray, List.set_cons_zero, List.set_cons_succ]
              refine wpAnyH_ready (rs := [13]) (by kernel_rfl) (by simp) ?_
              refine AllReadyH.cons (o := _) rfl (fun K hK => ?_) AllReadyH.nil
              have z96_0 := hX95.cell (j := 0) (v := .int .i64 0) rfl
              have y96_0 := hX95.fz 0
              have z96_1 := hX95.cell (j := 1) (v := .slice none 0 0) rfl
              have y96_1 := hX95.fz 1
              have z96_2 := hX95.cell (j := 2) (v := .slice none 0 0) rfl
              have y96_2 := hX95.fz 2
              go_simp
              clear z96_0 y96_0 z96_1 y96_1 z96_2 y96_2
              have hX96 : Box 38 b89 [.int .i64 0, .slice none 0 0, .slice none 0 0] (((W95.setCell ⟨b89, 0, none⟩ (.int .i64 0)).setCell ⟨b89, 1, none⟩ (.slice none 0 0)).setCell ⟨b89, 2, none⟩ (.slice none 0 0)) := (((hX95.set 0 (.int .i64 0)).set 1 (.slice none 0 0)).set 2 (.slice none 0 0))
              have hA96 := (((hA95.far (a := ⟨b89, 0, none⟩) hne89 (.int .i64 0)).far (a := ⟨b89, 1, none⟩) hne89 (.slice none 0 0)).far (a := ⟨b89, 2, none⟩) hne89 (.slice none 0 0))
              have hB96' := (((hB95'.setCell (p := ⟨b89, 0, none⟩) hge89 (.int .i64 0)).setCell (p := ⟨b89, 1, none⟩) hge89 (.slice none 0 0)).setCell (p := ⟨b89, 2, none⟩) hge89 (.slice none 0 0))
              generalize (((W95.setCell ⟨b89, 0, none⟩ (.int .i64 0)).setCell ⟨b89, 1, none⟩ (.slice none 0 0)).setCell ⟨b89, 2, none⟩ (.slice none 0 0)) = W96 at *
              refine hK.out _ _ (hkS _ hB96') (fun hHeld => ?_)
              clear hK K
              try simp only [List.getElem_toArray, List.getElem_cons_succ, List.getElem_cons_zero, Act.put, List.setIfInBounds_toArray, List.set_cons_zero, List.set_cons_succ]
              refine wpAnyH_take (i := 14) (oi := _) (v := ?vvq97) rfl (by kernel_rfl) (by kernel_rfl) (by kernel_rfl) (fun _ _ _ h => h) (Or.inl ⟨by kernel_rfl, ?hyq97⟩) hHeld ?restq97
              case hyq97 => intro w hSw; (try dsimp only at hSw); (try go_split_ands); go_simp; try with_reducible rfl
              try simp only [List.getElem_toArray, List.getElem_cons_succ, List.getElem_cons_zero, Act.put, List.setIfInBounds_toArray, List.set_cons_zero, List.set_cons_succ]
              refine wpAnyH_done (by kernel_rfl) ?_ _
              go_wp2_with fail
              go_meet
              exact ⟨b79, b89, rfl, rfl, rfl, hA96, hX96, hB96'⟩
          refine AllReadyH.cons (o := _) rfl (fun K hK => ?_) AllReadyH.nil
          · go_simp
            have hF98 := Box.new 38 [.int .i64 0, .slice none 0 0, .slice none 0 0] W0
            have hB98' := hB0.alloc hB0.size (.cells #[.int .i64 0, .slice none 0 0, .slice none 0 0] 38)
            have hge98 := hB0.size
            generalize W0.alloc (.cells #[.int .i64 0, .slice none 0 0, .slice none 0 0] 38) = W98 at *
            generalize W0.heap.size = b98 at *
            refine hK.out _ _ (hkS _ hB98') (fun hHeld => ?_)
            clear hK K
            try simp only [List.getElem_toArray, List.getElem_cons_succ, List.getElem_cons_zero, Act.put, List.setIfInBounds_toArray, List.set_cons_zero, List.set_cons_succ]
            refine wpAnyH_ready (rs := [5, 10]) (by kernel_rfl) (by simp) ?_
            refine AllReadyH.cons (o := _) rfl (fun K hK => ?_) ?_
            · go_simp
              refine (cuse_no s m 1 1 2 W98 hs (hT0.below hB98') (by decide) (by decide) HH.out).mono ?_
              rintro e W99 ⟨rfl, hD99⟩
              go_wp2_with fail
              have hB99' := hB98'.trans (hD99.mono hB98'.size)
              have hX99 := hF98.on hD99
              refine hK.out _ _ (hkS _ hB99') (fun hHeld => ?_)
              clear hK K
              try simp only [List.getElem_toArray, List.getElem_cons_succ, List.getElem_cons_zero, Act.put, List.setIfInBounds_toArray, List.set_cons_zero, List.set_cons_succ]
              refine wpAnyH_take (i := 6) (oi := _) (v := ?vvq100) rfl (by kernel_rfl) (by kernel_rfl) (by kernel_rfl) (fun _ _ _ h => h) (Or.inl ⟨by kernel_rfl, ?hyq100⟩) hHeld ?restq100
              case hyq100 => intro w hSw; (try dsimp only at hSw); (try go_split_ands); go_simp; try with_reducible rfl
              try simp only [List.getElem_toArray, List.getElem_cons_succ, List.getElem_cons_zero, Act.put, List.setIfInBounds_toArray, List.set_cons_zero, List.set_cons_succ]
              refine wpAnyH_take (i := 7) (oi := _) (v := ?vvq101) rfl (by kernel_rfl) (by kernel_rfl) (by kernel_rfl) (fun _ _ _ h => h) (Or.inl ⟨by kernel_rfl, ?hyq101⟩) hHeld ?restq101
              case hyq101 => intro w hSw; (try dsimp only at hSw); (try go_split_ands); go_simp; try with_reducible rfl
              try simp only [List.getElem_toArray, List.getElem_cons_succ, List.getElem_cons_zero, Act.put, List.setIfInBounds_toArray, List.set_cons_zero, List.set_cons_succ]
              refine wpAnyH_take (i := 8) (oi := _) (v := ?vvq102) rfl (by kernel_rfl) (by kernel_rfl) (by kernel_rfl) (fun _ _ _ h => h) (Or.inl ⟨by kernel_rfl, ?hyq102⟩) hHeld ?restq102
              case hyq102 => intro w hSw; (try dsimp only at hSw); (try go_split_ands); go_simp; try with_reducible rfl
              try simp only [List.getElem_toArray, List.getElem_cons_succ, List.getElem_cons_zero, Act.put, List.setIfInBounds_toArray, List.set_cons_zero, List.set_cons_succ]
              refine wpAnyH_take (i := 9) (oi := _) (v := ?vvq103) rfl (by kernel_rfl) (by kernel_rfl) (by kernel_rfl) (fun _ _ _ h => h) (Or.inl ⟨by kernel_rfl, ?hyq103⟩) hHeld ?restq103
              case hyq103 => intro w hSw; (try dsimp only at hSw); (try go_split_ands); go_simp; try with_reducible rfl
              try simp only [List.getElem_toArray, List.getElem_cons_succ, List.getElem_cons_zero, Act.put, List.setIfInBounds_toArray, List.set_cons_zero, List.set_cons_succ]
              refine wpAnyH_ready (rs := [10]) (by kernel_rfl) (by simp) ?_
              refine AllReadyH.cons (o := _) rfl (fun K hK => ?_) AllReadyH.nil
              go_simp
              have hF104 := Box.new 30 [.int .u32 0, .int .u32 0, .int .u32 0, .int .u32 0, .int .i64 0, .int .i64 0] W99
              have hB104' := hB99'.alloc hB99'.size (.cells #[.int .u32 0, .int .u32 0, .int .u32 0, .int .u32 0, .int .i64 0, .int .i64 0] 30)
              have hge104 := hB99'.size
              have hO104 := hX99.al (.cells #[.int .u32 0, .int .u32 0, .int .u32 0, .int .u32 0, .int .i64 0, .int .i64 0] 30)
              have hne104 : b98 ≠ W99.heap.size := Nat.ne_of_lt hX99.lt
              generalize W99.alloc (.cells #[.int .u32 0, .int .u32 0, .int .u32 0, .int .u32 0, .int .i64 0, .int .i64 0] 30) = W104 at *
              generalize W99.heap.size = b104 at *
              refine hK.out _ _ (hkS _ hB104') (fun hHeld => ?_)
              clear hK K
              try simp only [List.getElem_toArray, List.getElem_cons_succ, List.getElem_cons_zero, Act.put, List.setIfInBounds_toArray, List.set_cons_zero, List.set_cons_succ]
              refine wpAnyH_ready (rs := [12]) (by kernel_rfl) (by simp) ?_
              refine AllReadyH.cons (o := _) rfl (fun K hK => ?_) AllReadyH.nil
              have z105_0 := hF104.cell (j := 0) (v := .int .u32 0) rfl
              have y105_0 := hF104.fz 0
              have z105_1 := hF104.cell (j := 1) (v := .int .u32 0) rfl
              have y105_1 := hF104.fz 1
              have z105_2 := hF104.cell (j := 2) (v := .int .u32 0) rfl
              have y105_2 := hF104.fz 2
              have z105_3 := hF104.cell (j := 3) (v := .int .u32 0) rfl
              have y105_3 := hF104.fz 3
              have z105_4 := hF104.cell (j := 4) (v := .int .i64 0) rfl
              have y105_4 := hF104.fz 4
              have z105_5 := hF104.cell (j := 5) (v := .int .i64 0) rfl
              have y105_5 := hF104.fz 5
              go_simp
              clear z105_0 y105_0 z105_1 y105_1 z105_2 y105_2 z105_3 y105_3 z105_4 y105_4 z105_5 y105_5
              have hA105 : Box 30 b104 [.int .u32 0, .int .u32 0, .int .u32 0, .int .u32 0, .int .i64 0, .int .i64 0] ((((((W104.setCell ⟨b104, 0, none⟩ (.int .u32 0)).setCell ⟨b104, 1, none⟩ (.int .u32 0)).setCell ⟨b104, 2, none⟩ (.int .u32 0)).setCell ⟨b104, 3, none⟩ (.int .u32 0)).setCell ⟨b104, 4, none⟩ (.int .i64 0)).setCell ⟨b104, 5, none⟩ (.int .i64 0)) := ((((((hF104.set 0 (.int .u32 0)).set 1 (.int .u32 0)).set 2 (.int .u32 0)).set 3 (.int .u32 0)).set 4 (.int .i64 0)).set 5 (.int .i64 0))
              have hX105 := ((((((hO104.far (a := ⟨b104, 0, none⟩) hne104 (.int .u32 0)).far (a := ⟨b104, 1, none⟩) hne104 (.int .u32 0)).far (a := ⟨b104, 2, none⟩) hne104 (.int .u32 0)).far (a := ⟨b104, 3, none⟩) hne104 (.int .u32 0)).far (a := ⟨b104, 4, none⟩) hne104 (.int .i64 0)).far (a := ⟨b104, 5, none⟩) hne104 (.int .i64 0))
              have hB105' := ((((((hB104'.setCell (p := ⟨b104, 0, none⟩) hge104 (.int .u32 0)).setCell (p := ⟨b104, 1, none⟩) hge104 (.int .u32 0)).setCell (p := ⟨b104, 2, none⟩) hge104 (.int .u32 0)).setCell (p := ⟨b104, 3, none⟩) hge104 (.int .u32 0)).setCell (p := ⟨b104, 4, none⟩) hge104 (.int .i64 0)).setCell (p := ⟨b104, 5, none⟩) hge104 (.int .i64 0))
              generalize ((((((W104.setCell ⟨b104, 0, none⟩ (.int .u32 0)).setCell ⟨b104, 1, none⟩ (.int .u32 0)).setCell ⟨b104, 2, none⟩ (.int .u32 0)).setCell ⟨b104, 3, none⟩ (.int .u32 0)).setCell ⟨b104, 4, none⟩ (.int .i64 0)).setCell ⟨b104, 5, none⟩ (.int .i64 0)) = W105 at *
              refine hK.out _ _ (hkS _ hB105') (fun hHeld => ?_)
              clear hK K
              try simp only [List.getElem_toArray, List.getElem_cons_succ, List.getElem_cons_zero, Act.put, List.setIfInBounds_toArray, List.set_cons_zero, List.set_cons_succ]
              refine wpAnyH_ready (rs := [13]) (by kernel_rfl) (by simp) ?_
              refine AllReadyH.cons (o := _) rfl (fun K hK => ?_) AllReadyH.nil
              have z106_0 := hX105.cell (j := 0) (v := .int .i64 0) rfl
              have y106_0 := hX105.fz 0
              have z106_1 := hX105.cell (j := 1) (v := .slice none 0 0) rfl
              have y106_1 := hX105.fz 1
              have z106_2 := hX105.cell (j := 2) (v := .slice none 0 0) rfl
              have y106_2 := hX105.fz 2
              go_simp
              clear z106_0 y106_0 z106_1 y106_1 z106_2 y106_2
              have hX106 : Box 38 b98 [.int .i64 0, .slice none 0 0, .slice none 0 0] (((W105.setCell ⟨b98, 0, none⟩ (.int .i64 0)).setCell ⟨b98, 1, none⟩ (.slice none 0 0)).setCell ⟨b98, 2, none⟩ (.slice none 0 0)) := (((hX105.set 0 (.int .i64 0)).set 1 (.slice none 0 0)).set 2 (.slice none 0 0))
              have hA106 := (((hA105.far (a := ⟨b98, 0, none⟩) (Ne.symm hne104) (.int .i64 0)).far (a := ⟨b98, 1, none⟩) (Ne.symm hne104) (.slice none 0 0)).far (a := ⟨b98, 2, none⟩) (Ne.symm hne104) (.slice none 0 0))
              have hB106' := (((hB105'.setCell (p := ⟨b98, 0, none⟩) hge98 (.int .i64 0)).setCell (p := ⟨b98, 1, none⟩) hge98 (.slice none 0 0)).setCell (p := ⟨b98, 2, none⟩) hge98 (.slice none 0 0))
              generalize (((W105.setCell ⟨b98, 0, none⟩ (.int .i64 0)).setCell ⟨b98, 1, none⟩ (.slice none 0 0)).setCell ⟨b98, 2, none⟩ (.slice none 0 0)) = W106 at *
              refine hK.out _ _ (hkS _ hB106') (fun hHeld => ?_)
              clear hK K
              try simp only [List.getElem_toArray, List.getElem_cons_succ, List.getElem_cons_zero, Act.put, List.setIfInBounds_toArray, List.set_cons_zero, List.set_cons_succ]
              refine wpAnyH_take (i := 14) (oi := _) (v := ?vvq107) rfl (by kernel_rfl) (by kernel_rfl) (by kernel_rfl) (fun _ _ _ h => h) (Or.inl ⟨by kernel_rfl, ?hyq107⟩) hHeld ?restq107
              case hyq107 => intro w hSw; (try dsimp only at hSw); (try go_split_ands); go_simp; try with_reducible rfl
              try simp only [List.getElem_toArray, List.getElem_cons_succ, List.getElem_cons_zero, Act.put, List.setIfInBounds_toArray, List.set_cons_zero, List.set_cons_succ]
              refine wpAnyH_done (by kernel_rfl) ?_ _
              go_wp2_with fail
              go_meet
              exact ⟨b104, b98, rfl, rfl, rfl, hA106, hX106, hB106'⟩
            refine AllReadyH.cons (o := _) rfl (fun K hK => ?_) AllReadyH.nil
            · go_simp
              have hF108 := Box.new 30 [.int .u32 0, .int .u32 0, .int .u32 0, .int .u32 0, .int .i64 0, .int .i64 0] W98
              have hB108' := hB98'.alloc hB98'.size (.cells #[.int .u32 0, .int .u32 0, .int .u32 0, .int .u32 0, .int .i64 0, .int .i64 0] 30)
              have hge108 := hB98'.size
              have hO108 := hF98.al (.cells #[.int .u32 0, .int .u32 0, .int .u32 0, .int .u32 0, .int .i64 0, .int .i64 0] 30)
              have hne108 : b98 ≠ W98.heap.size := Nat.ne_of_lt hF98.lt
              generalize W98.alloc (.cells #[.int .u32 0, .int .u32 0, .int .u32 0, .int .u32 0, .int .i64 0, .int .i64 0] 30) = W108 at *
              generalize W98.heap.size = b108 at *
              refine hK.out _ _ (hkS _ hB108') (fun hHeld => ?_)
              clear hK K
              try simp only [List.getElem_toArray, List.getElem_cons_succ, List.getElem_cons_zero, Act.put, List.setIfInBounds_toArray, List.set_cons_zero, List.set_cons_succ]
              refine wpAnyH_ready (rs := [5]) (by kernel_rfl) (by simp) ?_
              refine AllReadyH.cons (o := _) rfl (fun K hK => ?_) AllReadyH.nil
              go_simp
              refine (cuse_no s m 1 1 2 W108 hs (hT0.below hB108') (by decide) (by decide) HH.out).mono ?_
              rintro e W109 ⟨rfl, hD109⟩
              go_wp2_with fail
              have hB109' := hB108'.trans (hD109.mono hB108'.size)
              have hA109 := hF108.on hD109
              have hX109 := hO108.on hD109
              refine hK.out _ _ (hkS _ hB109') (fun hHeld => ?_)
              clear hK K
              try simp only [List.getElem_toArray, List.getElem_cons_succ, List.getElem_cons_zero, Act.put, List.setIfInBounds_toArray, List.set_cons_zero, List.set_cons_succ]
              refine wpAnyH_take (i := 6) (oi := _) (v := ?vvq110) rfl (by kernel_rfl) (by kernel_rfl) (by kernel_rfl) (fun _ _ _ h => h) (Or.inl ⟨by kernel_rfl, ?hyq110⟩) hHeld ?restq110
              case hyq110 => intro w hSw; (try dsimp only at hSw); (try go_split_ands); go_simp; try with_reducible rfl
              try simp only [List.getElem_toArray, List.getElem_cons_succ, List.getElem_cons_zero, Act.put, List.setIfInBounds_toArray, List.set_cons_zero, List.set_cons_succ]
              refine wpAnyH_take (i := 7) (oi := _) (v := ?vvq111) rfl (by kernel_rfl) (by kernel_rfl) (by kernel_rfl) (fun _ _ _ h => h) (Or.inl ⟨by kernel_rfl, ?hyq111⟩) hHeld ?restq111
              case hyq111 => intro w hSw; (try dsimp only at hSw); (try go_split_ands); go_simp; try with_reducible rfl
              try simp only [List.getElem_toArray, List.getElem_cons_succ, List.getElem_cons_zero, Act.put, List.setIfInBounds_toArray, List.set_cons_zero, List.set_cons_succ]
              refine wpAnyH_take (i := 8) (oi := _) (v := ?vvq112) rfl (by kernel_rfl) (by kernel_rfl) (by kernel_rfl) (fun _ _ _ h => h) (Or.inl ⟨by kernel_rfl, ?hyq112⟩) hHeld ?restq112
              case hyq112 => intro w hSw; (try dsimp only at hSw); (try go_split_ands); go_simp; try with_reducible rfl
              try simp only [List.getElem_toArray, List.getElem_cons_succ, List.getElem_cons_zero, Act.put, List.setIfInBounds_toArray, List.set_cons_zero, List.set_cons_succ]
              refine wpAnyH_take (i := 9) (oi := _) (v := ?vvq113) rfl (by kernel_rfl) (by kernel_rfl) (by kernel_rfl) (fun _ _ _ h => h) (Or.inl ⟨by kernel_rfl, ?hyq113⟩) hHeld ?restq113
              case hyq113 => intro w hSw; (try dsimp only at hSw); (try go_split_ands); go_simp; try with_reducible rfl
              try simp only [List.getElem_toArray, List.getElem_cons_succ, List.getElem_cons_zero, Act.put, List.setIfInBounds_toArray, List.set_cons_zero, List.set_cons_succ]
              refine wpAnyH_ready (rs := [12]) (by kernel_rfl) (by simp) ?_
              refine AllReadyH.cons (o := _) rfl (fun K hK => ?_) AllReadyH.nil
              have z114_0 := hA109.cell (j := 0) (v := .int .u32 0) rfl
              have y114_0 := hA109.fz 0
              have z114_1 := hA109.cell (j := 1) (v := .int .u32 0) rfl
              have y114_1 := hA109.fz 1
              have z114_2 := hA109.cell (j := 2) (v := .int .u32 0) rfl
              have y114_2 := hA109.fz 2
              have z114_3 := hA109.cell (j := 3) (v := .int .u32 0) rfl
              have y114_3 := hA109.fz 3
              have z114_4 := hA109.cell (j := 4) (v := .int .i64 0) rfl
              have y114_4 := hA109.fz 4
              have z114_5 := hA109.cell (j := 5) (v := .int .i64 0) rfl
              have y114_5 := hA109.fz 5
              go_simp
              clear z114_0 y114_0 z114_1 y114_1 z114_2 y114_2 z114_3 y114_3 z114_4 y114_4 z114_5 y114_5
              have hA114 : Box 30 b108 [.int .u32 0, .int .u32 0, .int .u32 0, .int .u32 0, .int .i64 0, .int .i64 0] ((((((W109.setCell ⟨b108, 0, none⟩ (.int .u32 0)).setCell ⟨b108, 1, none⟩ (.int .u32 0)).setCell ⟨b108, 2, none⟩ (.int .u32 0)).setCell ⟨b108, 3, none⟩ (.int .u32 0)).setCell ⟨b108, 4, none⟩ (.int .i64 0)).setCell ⟨b108, 5, none⟩ (.int .i64 0)) := ((((((hA109.set 0 (.int .u32 0)).set 1 (.int .u32 0)).set 2 (.int .u32 0)).set 3 (.int .u32 0)).set 4 (.int .i64 0)).set 5 (.int .i64 0))
              have hX114 := ((((((hX109.far (a := ⟨b108, 0, none⟩) hne108 (.int .u32 0)).far (a := ⟨b108, 1, none⟩) hne108 (.int .u32 0)).far (a := ⟨b108, 2, none⟩) hne108 (.int .u32 0)).far (a := ⟨b108, 3, none⟩) hne108 (.int .u32 0)).far (a := ⟨b108, 4, none⟩) hne108 (.int .i64 0)).far (a := ⟨b108, 5, none⟩) hne108 (.int .i64 0))
              have hB114' := ((((((hB109'.setCell (p := ⟨b108, 0, none⟩) hge108 (.int .u32 0)).setCell (p := ⟨b108, 1, none⟩) hge108 (.int .u32 0)).setCell (p := ⟨b108, 2, none⟩) hge108 (.int .u32 0)).setCell (p := ⟨b108, 3, none⟩) hge108 (.int .u32 0)).setCell (p := ⟨b108, 4, none⟩) hge108 (.int .i64 0)).setCell (p := ⟨b108, 5, none⟩) hge108 (.int .i64 0))
              generalize ((((((W109.setCell ⟨b108, 0, none⟩ (.int .u32 0)).setCell ⟨b108, 1, none⟩ (.int .u32 0)).setCell ⟨b108, 2, none⟩ (.int .u32 0)).setCell ⟨b108, 3, none⟩ (.int .u32 0)).setCell ⟨b108, 4, none⟩ (.int .i64 0)).setCell ⟨b108, 5, none⟩ (.int .i64 0)) = W114 at *
              refine hK.out _ _ (hkS _ hB114') (fun hHeld => ?_)
              clear hK K
              try simp only [List.getElem_toArray, List.getElem_cons_succ, List.getElem_cons_zero, Act.put, List.setIfInBounds_toArray, List.set_cons_zero, List.set_cons_succ]
              refine wpAnyH_ready (rs := [13]) (by kernel_rfl) (by simp) ?_
              refine AllReadyH.cons (o := _) rfl (fun K hK => ?_) AllReadyH.nil
              have z115_0 := hX114.cell (j := 0) (v := .int .i64 0) rfl
              have y115_0 := hX114.fz 0
              have z115_1 := hX114.cell (j := 1) (v := .slice none 0 0) rfl
              have y115_1 := hX114.fz 1
              have z115_2 := hX114.cell (j := 2) (v := .slice none 0 0) rfl
              have y115_2 := hX114.fz 2
              go_simp
              clear z115_0 y115_0 z115_1 y115_1 z115_2 y115_2
              have hX115 : Box 38 b98 [.int .i64 0, .slice none 0 0, .slice none 0 0] (((W114.setCell ⟨b98, 0, none⟩ (.int .i64 0)).setCell ⟨b98, 1, none⟩ (.slice none 0 0)).setCell ⟨b98, 2, none⟩ (.slice none 0 0)) := (((hX114.set 0 (.int .i64 0)).set 1 (.slice none 0 0)).set 2 (.slice none 0 0))
              have hA115 := (((hA114.far (a := ⟨b98, 0, none⟩) (Ne.symm hne108) (.int .i64 0)).far (a := ⟨b98, 1, none⟩) (Ne.symm hne108) (.slice none 0 0)).far (a := ⟨b98, 2, none⟩) (Ne.symm hne108) (.slice none 0 0))
              have hB115' := (((hB114'.setCell (p := ⟨b98, 0, none⟩) hge98 (.int .i64 0)).setCell (p := ⟨b98, 1, none⟩) hge98 (.slice none 0 0)).setCell (p := ⟨b98, 2, none⟩) hge98 (.slice none 0 0))
              generalize (((W114.setCell ⟨b98, 0, none⟩ (.int .i64 0)).setCell ⟨b98, 1, none⟩ (.slice none 0 0)).setCell ⟨b98, 2, none⟩ (.slice none 0 0)) = W115 at *
              refine hK.out _ _ (hkS _ hB115') (fun hHeld => ?_)
              clear hK K
              try simp only [List.getElem_toArray, List.getElem_cons_succ, List.getElem_cons_zero, Act.put, List.setIfInBounds_toArray, List.set_cons_zero, List.set_cons_succ]
              refine wpAnyH_take (i := 14) (oi := _) (v := ?vvq116) rfl (by kernel_rfl) (by kernel_rfl) (by kernel_rfl) (fun _ _ _ h => h) (Or.inl ⟨by kernel_rfl, ?hyq116⟩) hHeld ?restq116
              case hyq116 => intro w hSw; (try dsimp only at hSw); (try go_split_ands); go_simp; try with_reducible rfl
              try simp only [List.getElem_toArray, List.getElem_cons_succ, List.getElem_cons_zero, Act.put, List.setIfInBounds_toArray, List.set_cons_zero, List.set_cons_succ]
              refine wpAnyH_done (by kernel_rfl) ?_ _
              go_wp2_with fail
              go_meet
              exact ⟨b108, b98, rfl, rfl, rfl, hA115, hX115, hB115'⟩
        case rest =>
          obtain ⟨ba, bb, rfl, rfl, rfl, hA, hX, hD⟩ := hcut
          replace hN := hN.on hD
          replace hP := hP.on hD
          clear hrl
          replace hB := hB.trans (hD.mono hB.size)
          replace hT := hT.below hD
          have c0 := hA.cell (j := 0) (v := .int .u32 0) rfl
          have c1 := hA.cell (j := 1) (v := .int .u32 0) rfl
          have c2 := hA.cell (j := 2) (v := .int .u32 0) rfl
          have c3 := hA.cell (j := 3) (v := .int .u32 0) rfl
          have c4 := hA.cell (j := 4) (v := .int .i64 0) rfl
          have c5 := hA.cell (j := 5) (v := .int .i64 0) rfl
          go_wp2_with fail
          replace hN : Box 30 (w3.heap.size) [.int .u32 s.d0, .int .u32 s.d1, .int .u32 s.d2, .int .u32 s.d3, .int .i64 1, .int .i64 ((min (j + 1) 2 : Nat) : Int)] wc := by rw [show min (j + 1) 2 = 2 by omega]; exact hN
          go_roundg (n - (j + 1))
          case measure => omega
          case rel => exact ⟨j + 1, rfl, by omega, by go_num, hN, hP, hB⟩
    · have hjn : j = n := by omega
      subst hjn
      go_wp2_with fail
      go_ret
      exact ⟨rfl, hB⟩
end Go.Proofs.YtdphhpmkcalahaaDoor
