/-
  KeysRow, of a tree of height 0: the walk (written by gen_law67.py).
-/
import Derived.Test.YtdphhpmkcalahaaDoorKyW
import Derived.Deep.CutRange
import Derived.Deep.LoopGhost
import Derived.Deep.RegionHeld3
namespace Go.Proofs.YtdphhpmkcalahaaDoor
open Go.RowKit
set_option maxHeartbeats 8000000 in
set_option maxRecDepth 100000 in
theorem row_low (s : D4) (l : List D4) (hs : s.ok) (hlo : allD4 l) (p : Option Addr) (n c : Nat) (hn : n = l.length) (hc : n ≤ c) (_hcm : c ≤ maxLen) (h4 : n ≤ 4) (w : World) (hrl : RdS w p l) (hT : TurnsOk w) :
    Calls Tryd.prog 7 #[.agg #[.int .u32 s.d0, .int .u32 s.d1, .int .u32 s.d2, .int .u32 s.d3], .bool false, .slice p n c] w fun e w' => e = .returned (.bool true) ∧ Below w.heap.size w w' := by
  have hl4 : decide ((4 : Int) < (n : Int)) = false := by simp; omega
  obtain ⟨v, hv⟩ : ∃ v, pubK s 0 = v := ⟨_, rfl⟩
  have HV := Lib.hid hv
  have HLO := Lib.hid hlo
  have HN := Lib.hid hn
  have HRL := Lib.hid hrl
  have HT0 := Lib.hid hT
  clear hrl
  have HH : Hid (((0 : Nat) : Int) = 0) := rfl
  clear hv hlo hn
  obtain ⟨w1, hw1⟩ : ∃ w', w.alloc (.cells #[.int .u32 s.d0, .int .u32 s.d1, .int .u32 s.d2, .int .u32 s.d3] 24) = w' := ⟨_, rfl⟩
  have hS : Box 24 w.heap.size [.int .u32 s.d0, .int .u32 s.d1, .int .u32 s.d2, .int .u32 s.d3] w1 := by rw [← hw1]; exact Box.new 24 [.int .u32 s.d0, .int .u32 s.d1, .int .u32 s.d2, .int .u32 s.d3] w
  have hD : Below w.heap.size w w1 := by rw [← hw1]; exact (Below.refl _ _).alloc (Nat.le_refl _) _
  have hB := hD
  replace hT := hT.below hD
  clear hD
  go_enter Tryd.func7, Tryd.ntmps7
  have chS0 := hS.cell (j := 0) (v := .int .u32 s.d0) rfl
  have chS1 := hS.cell (j := 1) (v := .int .u32 s.d1) rfl
  have chS2 := hS.cell (j := 2) (v := .int .u32 s.d2) rfl
  have chS3 := hS.cell (j := 3) (v := .int .u32 s.d3) rfl
  go_wp2_with fail
  clear hw1 chS0 chS1 chS2 chS3
  refine (awake6_any w1 hT).mono ?_
  rintro e w2 ⟨rfl, hD⟩
  replace hS := hS.on hD
  replace hB := hB.trans (hD.mono hB.size)
  replace hT := hT.below hD
  clear hD
  have chS0 := hS.cell (j := 0) (v := .int .u32 s.d0) rfl
  have chS1 := hS.cell (j := 1) (v := .int .u32 s.d1) rfl
  have chS2 := hS.cell (j := 2) (v := .int .u32 s.d2) rfl
  have chS3 := hS.cell (j := 3) (v := .int .u32 s.d3) rfl
  go_wp2_with fail
  clear chS0 chS1 chS2 chS3
  refine (cnew_lit s 0 0 w2 (by decide) HH.out).mono ?_
  rintro e w3 ⟨rfl, hD⟩
  replace hS := hS.on hD
  replace hB := hB.trans (hD.mono hB.size)
  replace hT := hT.below hD
  clear hD
  have hwN := hB.size
  obtain ⟨w4, hw4⟩ : ∃ w', w3.alloc (.cells #[.int .u32 s.d0, .int .u32 s.d1, .int .u32 s.d2, .int .u32 s.d3, .int .i64 0, .int .i64 0] 30) = w' := ⟨_, rfl⟩
  have hN : Box 30 w3.heap.size [.int .u32 s.d0, .int .u32 s.d1, .int .u32 s.d2, .int .u32 s.d3, .int .i64 0, .int .i64 0] w4 := by rw [← hw4]; exact Box.new 30 [.int .u32 s.d0, .int .u32 s.d1, .int .u32 s.d2, .int .u32 s.d3, .int .i64 0, .int .i64 0] w3
  have hD : Below w3.heap.size w3 w4 := by rw [← hw4]; exact (Below.refl _ _).alloc (Nat.le_refl _) _
  have zhN4 := hN.cell (j := 4) (v := .int .i64 0) rfl
  have yhN4 := hN.fz 4
  have zhN5 := hN.cell (j := 5) (v := .int .i64 0) rfl
  have yhN5 := hN.fz 5
  obtain ⟨w5, hw5⟩ : ∃ w', ((w4.setCell ⟨w3.heap.size, 4, none⟩ (.int .i64 0)).setCell ⟨w3.heap.size, 5, none⟩ (.int .i64 0)) = w' := ⟨_, rfl⟩
  replace hN : Box 30 w3.heap.size [.int .u32 s.d0, .int .u32 s.d1, .int .u32 s.d2, .int .u32 s.d3, .int .i64 0, .int .i64 0] w5 := by rw [← hw5]; exact ((hN.set 4 (.int .i64 0)).set 5 (.int .i64 0))
  replace hD : Below w3.heap.size w3 w5 := by rw [← hw5]; exact ((hD.setCell (p := ⟨w3.heap.size, 4, none⟩) (Nat.le_refl _) (.int .i64 0)).setCell (p := ⟨w3.heap.size, 5, none⟩) (Nat.le_refl _) (.int .i64 0))
  replace hS := hS.on hD
  replace hB := hB.trans (hD.mono hB.size)
  replace hT := hT.below hD
  clear hD
  have chS0 := hS.cell (j := 0) (v := .int .u32 s.d0) rfl
  have chS1 := hS.cell (j := 1) (v := .int .u32 s.d1) rfl
  have chS2 := hS.cell (j := 2) (v := .int .u32 s.d2) rfl
  have chS3 := hS.cell (j := 3) (v := .int .u32 s.d3) rfl
  go_wp2_with fail
  clear hw4 zhN4 yhN4 zhN5 yhN5 hw5 chS0 chS1 chS2 chS3
  refine (cpub_lit s v 0 0 w5 hs (by decide) hT HV.out HH.out).mono ?_
  rintro e w6 ⟨rfl, hD⟩
  replace hS := hS.on hD
  replace hN := hN.on hD
  replace hB := hB.trans (hD.mono hB.size)
  replace hT := hT.below hD
  clear hD
  have hnp := Nat.ne_of_lt hN.lt
  obtain ⟨w7, hw7⟩ : ∃ w', w6.alloc (.cells #[.int .u32 v.d0, .int .u32 v.d1, .int .u32 v.d2, .int .u32 v.d3] 24) = w' := ⟨_, rfl⟩
  have hP : Box 24 w6.heap.size [.int .u32 v.d0, .int .u32 v.d1, .int .u32 v.d2, .int .u32 v.d3] w7 := by rw [← hw7]; exact Box.new 24 [.int .u32 v.d0, .int .u32 v.d1, .int .u32 v.d2, .int .u32 v.d3] w6
  have hD : Below w6.heap.size w6 w7 := by rw [← hw7]; exact (Below.refl _ _).alloc (Nat.le_refl _) _
  replace hS := hS.on hD
  replace hN := hN.on hD
  replace hB := hB.trans (hD.mono hB.size)
  replace hT := hT.below hD
  clear hD
  go_wp2_with fail
  clear hw7
  go_loopg [13] n (fun k i wr => ∃ j : Nat, k = n - j ∧ j ≤ n ∧ i = .int .i64 (j : Int) ∧ Box 30 (w3.heap.size) [.int .u32 s.d0, .int .u32 s.d1, .int .u32 s.d2, .int .u32 s.d3, .int .i64 0, .int .i64 ((min j 1 : Nat) : Int)] wr ∧ Box 24 (w6.heap.size) [.int .u32 v.d0, .int .u32 v.d1, .int .u32 v.d2, .int .u32 v.d3] wr ∧ Below w.heap.size w wr)
  case atStart => exact ⟨0, rfl, Nat.zero_le _, rfl, hN, hP, hB⟩
  case round =>
    clear hN hP hB hT hS
    obtain ⟨j, hgk, hj, rfl, hN, hP, hB⟩ := hrel
    have hrl := HRL.out.on hB
    have hT := HT0.out.below hB
    by_cases hlt : j < n
    · have hjd : decide ((j : Int) < (n : Int)) = true := by simp; omega
      have hj0 : (0 : Int) ≤ (j : Int) := by omega
      have hjn : (j : Int) < (n : Int) := by omega
      obtain ⟨bl, ol, rfl, hr0⟩ := hrl (by intro e; have := HN.out; rw [e] at this; simp at this; omega)
      obtain ⟨m, hm⟩ : ∃ m, l.getD j zeroD = m := ⟨_, rfl⟩
      have hmo : m.ok := by
        have hjl : j < l.length := by have := HN.out; omega
        rw [← hm, List.getD_eq_getElem?_getD, List.getElem?_eq_getElem hjl]
        exact HLO.out _ (List.getElem_mem hjl)
      have hc4 := hr0.2 j (by have := HN.out; omega)
      rw [hm] at hc4
      have hbl := hr0.1
      have hNl := hN.lt
      clear hm
      by_cases hlo : j < 1
      · rw [show min j 1 = j by omega] at hN
        obtain ⟨L, hL⟩ : ∃ l, signL (seedK s j) m = l := ⟨_, rfl⟩
        obtain ⟨Q, hQ⟩ : ∃ l, pathK s 0 j = l := ⟨_, rfl⟩
        obtain ⟨N, hN0⟩ : ∃ N, Q.length = N := ⟨_, rfl⟩
        have hj2 : j < 2 ^ 0 := Nat.lt_of_lt_of_le hlo (by decide)
        have HLO2 := Lib.hid (show allD4 L by rw [← hL]; exact signL_ok m (seedK_ok _ _))
        have HLN := Lib.hid (show 35 = L.length by rw [← hL]; exact (signL_len _ _).symm)
        have HQO := Lib.hid (show allD4 Q by rw [← hQ]; exact pathK_ok s 0 j hj2)
        have HQ0 := Lib.hid (show Q = [] by have := pathK_len_eq s 0 j; rw [hQ] at this; exact List.length_eq_zero_iff.mp this)
        have HC := Lib.hid (show check6 v m (j : Int) L Q = true by rw [← HV.out, ← hL, ← hQ]; exact check6_sign s m 0 j (by decide) hj2)
        have HL := Lib.hid hL
        have HQ := Lib.hid hQ
        have HN0 := Lib.hid hN0
        have HJ2 := Lib.hid hj2
        clear hL hQ hN0 hj2
        have hmd : decide ((1 : Int) ≤ (j : Int)) = false := by simp; omega
        go_upto_region 17 with fail
        go_cut [14, 15, 16] from 41 to 85 (fun sa sb se wx => ∃ ba bb g p1 c1, sa = .pointer (some ⟨ba, 0, none⟩) ∧ sb = .pointer (some ⟨bb, 0, none⟩) ∧ se = .int .i64 0 ∧ wr.heap.size ≤ ba ∧ Box 30 ba [.int .u32 s.d0, .int .u32 s.d1, .int .u32 s.d2, .int .u32 s.d3, .int .i64 0, .int .i64 ((j : Int) + 1)] wx ∧ Box 38 bb [.int .i64 (j : Int), .slice (some ⟨g, 0, none⟩) 35 35, .slice p1 N c1] wx ∧ RdS wx (some ⟨g, 0, none⟩) L ∧ RdS wx p1 Q ∧ N ≤ c1 ∧ c1 ≤ maxLen ∧ Below wr.heap.size wr wx)
        case first =>
          have hkS : ∀ W : World, Below wr.heap.size wr W → (W.cell? ⟨w3.heap.size, 0, none⟩ = some (.int .u32 s.d0) ∧ W.cell? ⟨w3.heap.size, 1, none⟩ = some (.int .u32 s.d1) ∧ W.cell? ⟨w3.heap.size, 2, none⟩ = some (.int .u32 s.d2) ∧ W.cell? ⟨w3.heap.size, 3, none⟩ = some (.int .u32 s.d3) ∧ W.cell? ⟨w3.heap.size, 4, none⟩ = some (.int .i64 0) ∧ W.cell? ⟨w3.heap.size, 5, none⟩ = some (.int .i64 (j : Int)) ∧ W.cell? ⟨bl, ol + j * 4, none⟩ = some (.int .u32 m.d0) ∧ W.cell? ⟨bl, ol + j * 4 + 1, none⟩ = some (.int .u32 m.d1) ∧ W.cell? ⟨bl, ol + j * 4 + 2, none⟩ = some (.int .u32 m.d2) ∧ W.cell? ⟨bl, ol + j * 4 + 3, none⟩ = some (.int .u32 m.d3)) := fun W h => by
            have hn := hN.on h
            have hc := hc4.on h hbl
            exact ⟨hn.cell rfl, hn.cell rfl, hn.cell rfl, hn.cell rfl, hn.cell rfl, hn.cell rfl, hc.1, hc.2.1, hc.2.2.1, hc.2.2.2⟩
          have hB0 : Below wr.heap.size wr wr.drew := (Below.refl _ _).drew
          have hT0 := hT
          refine wp_region_held_drew (S := fun w' => w'.cell? ⟨w3.heap.size, 0, none⟩ = some (.int .u32 s.d0) ∧ w'.cell? ⟨w3.heap.size, 1, none⟩ = some (.int .u32 s.d1) ∧ w'.cell? ⟨w3.heap.size, 2, none⟩ = some (.int .u32 s.d2) ∧ w'.cell? ⟨w3.heap.size, 3, none⟩ = some (.int .u32 s.d3) ∧ w'.cell? ⟨w3.heap.size, 4, none⟩ = some (.int .i64 0) ∧ w'.cell? ⟨w3.heap.size, 5, none⟩ = some (.int .i64 (j : Int)) ∧ w'.cell? ⟨bl, ol + j * 4, none⟩ = some (.int .u32 m.d0) ∧ w'.cell? ⟨bl, ol + j * 4 + 1, none⟩ = some (.int .u32 m.d1) ∧ w'.cell? ⟨bl, ol + j * 4 + 2, none⟩ = some (.int .u32 m.d2) ∧ w'.cell? ⟨bl, ol + j * 4 + 3, none⟩ = some (.int .u32 m.d3)) (by kernel_rfl) (hkS _ hB0) (fun hHeld => ?_)
          clear hP hB hrl
          generalize wr.drew = W0 at *
          refine wpAnyH_take (i := 0) (oi := _) (v := ?vvq117) rfl (by kernel_rfl) (by kernel_rfl) (by kernel_rfl) (fun _ _ _ h => h) (Or.inl ⟨by kernel_rfl, ?hyq117⟩) hHeld ?restq117
          case hyq117 => intro w hSw; (try dsimp only at hSw); (try go_split_ands); go_simp; try with_reducible rfl
          try simp only [List.getElem_toArray, List.getElem_cons_zero, Act.put, List.setIfInBounds_toArray, List.set_cons_zero, List.set_cons_succ]
          refine wpAnyH_take (i := 1) (oi := _) (v := ?vvq118) rfl (by kernel_rfl) (by kernel_rfl) (by kernel_rfl) (fun _ _ _ h => h) (Or.inl ⟨by kernel_rfl, ?hyq118⟩) hHeld ?restq118
          case hyq118 => intro w hSw; (try dsimp only at hSw); (try go_split_ands); go_simp; try with_reducible rfl
          try simp only [List.getElem_toArray, List.getElem_cons_succ, List.getElem_cons_zero, Act.put, List.setIfInBounds_toArray, List.set_cons_zero, List.set_cons_succ]
          refine wpAnyH_take (i := 2) (oi := _) (v := ?vvq119) rfl (by kernel_rfl) (by kernel_rfl) (by kernel_rfl) (fun _ _ _ h => h) (Or.inl ⟨by kernel_rfl, ?hyq119⟩) hHeld ?restq119
          case hyq119 => intro w hSw; (try dsimp only at hSw); (try go_split_ands); go_simp; try with_reducible rfl
          try simp only [List.getElem_toArray, List.getElem_cons_succ, List.getElem_cons_zero, Act.put, List.setIfInBounds_toArray, List.set_cons_zero, List.set_cons_succ]
          refine wpAnyH_take (i := 3) (oi := _) (v := ?vvq120) rfl (by kernel_rfl) (by kernel_rfl) (by kernel_rfl) (fun _ _ _ h => h) (Or.inl ⟨by kernel_rfl, ?hyq120⟩) hHeld ?restq120
          case hyq120 => intro w hSw; (try dsimp only at hSw); (try go_split_ands); go_simp; try with_reducible rfl
          try simp only [List.getElem_toArray, List.getElem_cons_succ, List.getElem_cons_zero, Act.put, List.setIfInBounds_toArray, List.set_cons_zero, List.set_cons_succ]
          refine wpAnyH_take (i := 4) (oi := _) (v := ?vvq121) rfl (by kernel_rfl) (by kernel_rfl) (by kernel_rfl) (fun _ _ _ h => h) (Or.inl ⟨by kernel_rfl, ?hyq121⟩) hHeld ?restq121
          case hyq121 => intro w hSw; (try dsimp only at hSw); (try go_split_ands); go_simp; try with_reducible rfl
          try simp only [List.getElem_toArray, List.getElem_cons_succ, List.getElem_cons_zero, Act.put, List.setIfInBounds_toArray, List.set_cons_zero, List.set_cons_succ]
          refine wpAnyH_ready (rs := [5, 10, 11]) (by kernel_rfl) (by simp) ?_
          refine AllReadyH.cons (o := _) rfl (fun K hK => ?_) ?_
          · go_simp
            refine (cuse_yes s m 0 j 0 L Q W0 hs (hT0.below hB0) hmo (by decide) HJ2.out HL.out HQ.out N HN0.out HH.out).mono ?_
            rintro e W122 ⟨g122, p122, c122, rfl, hgB122, hl122, hO122, hD122⟩
            go_wp2_with fail
            have hB122' := hB0.trans (hD122.mono hB0.size)
            have hu122 := hO122.use
            have hcc122 := hu122.2.2.1
            have hcm122 := hu122.2.2.2
            clear hu122 hO122
            refine hK.out _ _ (hkS _ hB122') (fun hHeld => ?_)
            clear hK K
            try simp only [List.getElem_toArray, List.getElem_cons_succ, List.getElem_cons_zero, Act.put, List.setIfInBounds_toArray, List.set_cons_zero, List.set_cons_succ]
            refine wpAnyH_take (i := 6) (oi := _) (v := ?vvq123) rfl (by kernel_rfl) (by kernel_rfl) (by kernel_rfl) (fun _ _ _ h => h) (Or.inl ⟨by kernel_rfl, ?hyq123⟩) hHeld ?restq123
            case hyq123 => intro w hSw; (try dsimp only at hSw); (try go_split_ands); go_simp; try with_reducible rfl
            try simp only [List.getElem_toArray, List.getElem_cons_succ, List.getElem_cons_zero, Act.put, List.setIfInBounds_toArray, List.set_cons_zero, List.set_cons_succ]
            refine wpAnyH_take (i := 7) (oi := _) (v := ?vvq124) rfl (by kernel_rfl) (by kernel_rfl) (by kernel_rfl) (fun _ _ _ h => h) (Or.inl ⟨by kernel_rfl, ?hyq124⟩) hHeld ?restq124
            case hyq124 => intro w hSw; (try dsimp only at hSw); (try go_split_ands); go_simp; try with_reducible rfl
            try simp only [List.getElem_toArray, List.getElem_cons_succ, List.getElem_cons_zero, Act.put, List.setIfInBounds_toArray, List.set_cons_zero, List.set_cons_succ]
            refine wpAnyH_take (i := 8) (oi := _) (v := ?vvq125) rfl (by kernel_rfl) (by kernel_rfl) (by kernel_rfl) (fun _ _ _ h => h) (Or.inl ⟨by kernel_rfl, ?hyq125⟩) hHeld ?restq125
            case hyq125 => intro w hSw; (try dsimp only at hSw); (try go_split_ands); go_simp; try with_reducible rfl
            try simp only [List.getElem_toArray, List.getElem_cons_succ, List.getElem_cons_zero, Act.put, List.setIfInBounds_toArray, List.set_cons_zero, List.set_cons_succ]
            refine wpAnyH_take (i := 9) (oi := _) (v := ?vvq126) rfl (by kernel_rfl) (by kernel_rfl) (by kernel_rfl) (fun _ _ _ h => h) (Or.inl ⟨by kernel_rfl, ?hyq126⟩) hHeld ?restq126
            case hyq126 => intro w hSw; (try dsimp only at hSw); (try go_split_ands); go_simp; try with_reducible rfl
            try simp only [List.getElem_toArray, List.getElem_cons_succ, List.getElem_cons_zero, Act.put, List.setIfInBounds_toArray, List.set_cons_zero, List.set_cons_succ]
            refine wpAnyH_ready (rs := [10, 11]) (by kernel_rfl) (by simp) ?_
            refine AllReadyH.cons (o := _) rfl (fun K hK => ?_) ?_
            · go_simp
              have hF127 := Box.new 30 [.int .u32 0, .int .u32 0, .int .u32 0, .int .u32 0, .int .i64 0, .int .i64 0] W122
              have hB127' := hB122'.alloc hB122'.size (.cells #[.int .u32 0, .int .u32 0, .int .u32 0, .int .u32 0, .int .i64 0, .int .i64 0] 30)
              have hge127 := hB122'.size
              have hl127 := rdl_al6 hl122 (.cells #[.int .u32 0, .int .u32 0, .int .u32 0, .int .u32 0, .int .i64 0, .int .i64 0] 30)
              have hgn127 : g122 ≠ W122.heap.size := Nat.ne_of_lt hl122.1
              generalize W122.alloc (.cells #[.int .u32 0, .int .u32 0, .int .u32 0, .int .u32 0, .int .i64 0, .int .i64 0] 30) = W127 at *
              generalize W122.heap.size = b127 at *
              refine hK.out _ _ (hkS _ hB127') (fun hHeld => ?_)
              clear hK K
              try simp only [List.getElem_toArray, List.getElem_cons_succ, List.getElem_cons_zero, Act.put, List.setIfInBounds_toArray, List.set_cons_zero, List.set_cons_succ]
              refine wpAnyH_ready (rs := [11]) (by kernel_rfl) (by simp) ?_
              refine AllReadyH.cons (o := _) rfl (fun K hK => ?_) AllReadyH.nil
              go_simp
              have hF128 := Box.new 38 [.int .i64 0, .slice none 0 0, .slice none 0 0] W127
              have hB128' := hB127'.alloc hB127'.size (.cells #[.int .i64 0, .slice none 0 0, .slice none 0 0] 38)
              have hge128 := hB127'.size
              have hO128 := hF127.al (.cells #[.int .i64 0, .slice none 0 0, .slice none 0 0] 38)
              have hne128 : b127 ≠ W127.heap.size := Nat.ne_of_lt hF127.lt
              have hl128 := rdl_al6 hl127 (.cells #[.int .i64 0, .slice none 0 0, .slice none 0 0] 38)
              have hgn128 : g122 ≠ W127.heap.size := Nat.ne_of_lt hl127.1
              generalize W127.alloc (.cells #[.int .i64 0, .slice none 0 0, .slice none 0 0] 38) = W128 at *
              generalize W127.heap.size = b128 at *
              refine hK.out _ _ (hkS _ hB128') (fun hHeld => ?_)
              clear hK K
              try simp only [List.getElem_toArray, List.getElem_cons_succ, List.getElem_cons_zero, Act.put, List.setIfInBounds_toArray, List.set_cons_zero, List.set_cons_succ]
              refine wpAnyH_ready (rs := [12]) (by kernel_rfl) (by simp) ?_
              refine AllReadyH.cons (o := _) rfl (fun K hK => ?_) AllReadyH.nil
              have z129_0 := hO128.cell (j := 0) (v := .int .u32 0) rfl
              have y129_0 := hO128.fz 0
              have z129_1 := hO128.cell (j := 1) (v := .int .u32 0) rfl
              have y129_1 := hO128.fz 1
              have z129_2 := hO128.cell (j := 2) (v := .int .u32 0) rfl
              have y129_2 := hO128.fz 2
              have z129_3 := hO128.cell (j := 3) (v := .int .u32 0) rfl
              have y129_3 := hO128.fz 3
              have z129_4 := hO128.cell (j := 4) (v := .int .i64 0) rfl
              have y129_4 := hO128.fz 4
              have z129_5 := hO128.cell (j := 5) (v := .int .i64 0) rfl
              have y129_5 := hO128.fz 5
              go_simp
              clear z129_0 y129_0 z129_1 y129_1 z129_2 y129_2 z129_3 y129_3 z129_4 y129_4 z129_5 y129_5
              have hA129 : Box 30 b127 [.int .u32 s.d0, .int .u32 s.d1, .int .u32 s.d2, .int .u32 s.d3, .int .i64 0, .int .i64 ((j : Int) + 1)] ((((((W128.setCell ⟨b127, 0, none⟩ (.int .u32 s.d0)).setCell ⟨b127, 1, none⟩ (.int .u32 s.d1)).setCell ⟨b127, 2, none⟩ (.int .u32 s.d2)).setCell ⟨b127, 3, none⟩ (.int .u32 s.d3)).setCell ⟨b127, 4, none⟩ (.int .i64 0)).setCell ⟨b127, 5, none⟩ (.int .i64 ((j : Int) + 1))) := ((((((hO128.set 0 (.int .u32 s.d0)).set 1 (.int .u32 s.d1)).set 2 (.int .u32 s.d2)).set 3 (.int .u32 s.d3)).set 4 (.int .i64 0)).set 5 (.int .i64 ((j : Int) + 1)))
              have hX129 := ((((((hF128.far (a := ⟨b127, 0, none⟩) (Ne.symm hne128) (.int .u32 s.d0)).far (a := ⟨b127, 1, none⟩) (Ne.symm hne128) (.int .u32 s.d1)).far (a := ⟨b127, 2, none⟩) (Ne.symm hne128) (.int .u32 s.d2)).far (a := ⟨b127, 3, none⟩) (Ne.symm hne128) (.int .u32 s.d3)).far (a := ⟨b127, 4, none⟩) (Ne.symm hne128) (.int .i64 0)).far (a := ⟨b127, 5, none⟩) (Ne.symm hne128) (.int .i64 ((j : Int) + 1)))
              have hl129 := ((((((hl128.far (a := ⟨b127, 0, none⟩) hgn127 (.int .u32 s.d0)).far (a := ⟨b127, 1, none⟩) hgn127 (.int .u32 s.d1)).far (a := ⟨b127, 2, none⟩) hgn127 (.int .u32 s.d2)).far (a := ⟨b127, 3, none⟩) hgn127 (.int .u32 s.d3)).far (a := ⟨b127, 4, none⟩) hgn127 (.int .i64 0)).far (a := ⟨b127, 5, none⟩) hgn127 (.int .i64 ((j : Int) + 1)))
              have hB129' := ((((((hB128'.setCell (p := ⟨b127, 0, none⟩) hge127 (.int .u32 s.d0)).setCell (p := ⟨b127, 1, none⟩) hge127 (.int .u32 s.d1)).setCell (p := ⟨b127, 2, none⟩) hge127 (.int .u32 s.d2)).setCell (p := ⟨b127, 3, none⟩) hge127 (.int .u32 s.d3)).setCell (p := ⟨b127, 4, none⟩) hge127 (.int .i64 0)).setCell (p := ⟨b127, 5, none⟩) hge127 (.int .i64 ((j : Int) + 1)))
              generalize ((((((W128.setCell ⟨b127, 0, none⟩ (.int .u32 s.d0)).setCell ⟨b127, 1, none⟩ (.int .u32 s.d1)).setCell ⟨b127, 2, none⟩ (.int .u32 s.d2)).setCell ⟨b127, 3, none⟩ (.int .u32 s.d3)).setCell ⟨b127, 4, none⟩ (.int .i64 0)).setCell ⟨b127, 5, none⟩ (.int .i64 ((j : Int) + 1))) = W129 at *
              refine hK.out _ _ (hkS _ hB129') (fun hHeld => ?_)
              clear hK K
              try simp only [List.getElem_toArray, List.getElem_cons_succ, List.getElem_cons_zero, Act.put, List.setIfInBounds_toArray, List.set_cons_zero, List.set_cons_succ]
              refine wpAnyH_ready (rs := [13]) (by kernel_rfl) (by simp) ?_
              refine AllReadyH.cons (o := _) rfl (fun K hK => ?_) AllReadyH.nil
              have z130_0 := hX129.cell (j := 0) (v := .int .i64 0) rfl
              have y130_0 := hX129.fz 0
              have z130_1 := hX129.cell (j := 1) (v := .slice none 0 0) rfl
              have y130_1 := hX129.fz 1
              have z130_2 := hX129.cell (j := 2) (v := .slice none 0 0) rfl
              have y130_2 := hX129.fz 2
              go_simp
              clear z130_0 y130_0 z130_1 y130_1 z130_2 y130_2
              have hX130 : Box 38 b128 [.int .i64 (j : Int), .slice (some ⟨g122, 0, none⟩) 35 35, .slice p122 N c122] (((W129.setCell ⟨b128, 0, none⟩ (.int .i64 (j : Int))).setCell ⟨b128, 1, none⟩ (.slice (some ⟨g122, 0, none⟩) 35 35)).setCell ⟨b128, 2, none⟩ (.slice p122 N c122)) := (((hX129.set 0 (.int .i64 (j : Int))).set 1 (.slice (some ⟨g122, 0, none⟩) 35 35)).set 2 (.slice p122 N c122))
              have hA130 := (((hA129.far (a := ⟨b128, 0, none⟩) hne128 (.int .i64 (j : Int))).far (a := ⟨b128, 1, none⟩) hne128 (.slice (some ⟨g122, 0, none⟩) 35 35)).far (a := ⟨b128, 2, none⟩) hne128 (.slice p122 N c122))
              have hl130 := (((hl129.far (a := ⟨b128, 0, none⟩) hgn128 (.int .i64 (j : Int))).far (a := ⟨b128, 1, none⟩) hgn128 (.slice (some ⟨g122, 0, none⟩) 35 35)).far (a := ⟨b128, 2, none⟩) hgn128 (.slice p122 N c122))
              have hB130' := (((hB129'.setCell (p := ⟨b128, 0, none⟩) hge128 (.int .i64 (j : Int))).setCell (p := ⟨b128, 1, none⟩) hge128 (.slice (some ⟨g122, 0, none⟩) 35 35)).setCell (p := ⟨b128, 2, none⟩) hge128 (.slice p122 N c122))
              generalize (((W129.setCell ⟨b128, 0, none⟩ (.int .i64 (j : Int))).setCell ⟨b128, 1, none⟩ (.slice (some ⟨g122, 0, none⟩) 35 35)).setCell ⟨b128, 2, none⟩ (.slice p122 N c122)) = W130 at *
              refine hK.out _ _ (hkS _ hB130') (fun hHeld => ?_)
              clear hK K
              try simp only [List.getElem_toArray, List.getElem_cons_succ, List.getElem_cons_zero, Act.put, List.setIfInBounds_toArray, List.set_cons_zero, List.set_cons_succ]
              refine wpAnyH_take (i := 14) (oi := _) (v := ?vvq131) rfl (by kernel_rfl) (by kernel_rfl) (by kernel_rfl) (fun _ _ _ h => h) (Or.inl ⟨by kernel_rfl, ?hyq131⟩) hHeld ?restq131
              case hyq131 => intro w hSw; (try dsimp only at hSw); (try go_split_ands); go_simp; try with_reducible rfl
              try simp only [List.getElem_toArray, List.getElem_cons_succ, List.getElem_cons_zero, Act.put, List.setIfInBounds_toArray, List.set_cons_zero, List.set_cons_succ]
              refine wpAnyH_done (by kernel_rfl) ?_ _
              go_wp2_with fail
              go_meet
              exact ⟨b127, b128, g122, p122, c122, rfl, rfl, rfl, hge127, hA130, hX130, rdS_some hl130, by rw [HQ0.out]; exact rdS_nil6 _ _, hcc122, hcm122, hB130'⟩
            refine AllReadyH.cons (o := _) rfl (fun K hK => ?_) AllReadyH.nil
            · go_simp
              have hF132 := Box.new 38 [.int .i64 0, .slice none 0 0, .slice none 0 0] W122
              have hB132' := hB122'.alloc hB122'.size (.cells #[.int .i64 0, .slice none 0 0, .slice none 0 0] 38)
              have hge132 := hB122'.size
              have hl132 := rdl_al6 hl122 (.cells #[.int .i64 0, .slice none 0 0, .slice none 0 0] 38)
              have hgn132 : g122 ≠ W122.heap.size := Nat.ne_of_lt hl122.1
              generalize W122.alloc (.cells #[.int .i64 0, .slice none 0 0, .slice none 0 0] 38) = W132 at *
              generalize W122.heap.size = b132 at *
              refine hK.out _ _ (hkS _ hB132') (fun hHeld => ?_)
              clear hK K
              try simp only [List.getElem_toArray, List.getElem_cons_succ, List.getElem_cons_zero, Act.put, List.setIfInBounds_toArray, List.set_cons_zero, List.set_cons_succ]
              refine wpAnyH_ready (rs := [10]) (by kernel_rfl) (by simp) ?_
              refine AllReadyH.cons (o := _) rfl (fun K hK => ?_) AllReadyH.nil
              go_simp
              have hF133 := Box.new 30 [.int .u32 0, .int .u32 0, .int .u32 0, .int .u32 0, .int .i64 0, .int .i64 0] W132
              have hB133' := hB132'.alloc hB132'.size (.cells #[.int .u32 0, .int .u32 0, .int .u32 0, .int .u32 0, .int .i64 0, .int .i64 0] 30)
              have hge133 := hB132'.size
              have hO133 := hF132.al (.cells #[.int .u32 0, .int .u32 0, .int .u32 0, .int .u32 0, .int .i64 0, .int .i64 0] 30)
              have hne133 : b132 ≠ W132.heap.size := Nat.ne_of_lt hF132.lt
              have hl133 := rdl_al6 hl132 (.cells #[.int .u32 0, .int .u32 0, .int .u32 0, .int .u32 0, .int .i64 0, .int .i64 0] 30)
              have hgn133 : g122 ≠ W132.heap.size := Nat.ne_of_lt hl132.1
              generalize W132.alloc (.cells #[.int .u32 0, .int .u32 0, .int .u32 0, .int .u32 0, .int .i64 0, .int .i64 0] 30) = W133 at *
              generalize W132.heap.size = b133 at *
              refine hK.out _ _ (hkS _ hB133') (fun hHeld => ?_)
              clear hK K
              try simp only [List.getElem_toArray, List.getElem_cons_succ, List.getElem_cons_zero, Act.put, List.setIfInBounds_toArray, List.set_cons_zero, List.set_cons_succ]
              refine wpAnyH_ready (rs := [12]) (by kernel_rfl) (by simp) ?_
              refine AllReadyH.cons (o := _) rfl (fun K hK => ?_) AllReadyH.nil
              have z134_0 := hF133.cell (j := 0) (v := .int .u32 0) rfl
              have y134_0 := hF133.fz 0
              have z134_1 := hF133.cell (j := 1) (v := .int .u32 0) rfl
              have y134_1 := hF133.fz 1
              have z134_2 := hF133.cell (j := 2) (v := .int .u32 0) rfl
              have y134_2 := hF133.fz 2
              have z134_3 := hF133.cell (j := 3) (v := .int .u32 0) rfl
              have y134_3 := hF133.fz 3
              have z134_4 := hF133.cell (j := 4) (v := .int .i64 0) rfl
              have y134_4 := hF133.fz 4
              have z134_5 := hF133.cell (j := 5) (v := .int .i64 0) rfl
              have y134_5 := hF133.fz 5
              go_simp
              clear z134_0 y134_0 z134_1 y134_1 z134_2 y134_2 z134_3 y134_3 z134_4 y134_4 z134_5 y134_5
              have hA134 : Box 30 b133 [.int .u32 s.d0, .int .u32 s.d1, .int .u32 s.d2, .int .u32 s.d3, .int .i64 0, .int .i64 ((j : Int) + 1)] ((((((W133.setCell ⟨b133, 0, none⟩ (.int .u32 s.d0)).setCell ⟨b133, 1, none⟩ (.int .u32 s.d1)).setCell ⟨b133, 2, none⟩ (.int .u32 s.d2)).setCell ⟨b133, 3, none⟩ (.int .u32 s.d3)).setCell ⟨b133, 4, none⟩ (.int .i64 0)).setCell ⟨b133, 5, none⟩ (.int .i64 ((j : Int) + 1))) := ((((((hF133.set 0 (.int .u32 s.d0)).set 1 (.int .u32 s.d1)).set 2 (.int .u32 s.d2)).set 3 (.int .u32 s.d3)).set 4 (.int .i64 0)).set 5 (.int .i64 ((j : Int) + 1)))
              have hX134 := ((((((hO133.far (a := ⟨b133, 0, none⟩) hne133 (.int .u32 s.d0)).far (a := ⟨b133, 1, none⟩) hne133 (.int .u32 s.d1)).far (a := ⟨b133, 2, none⟩) hne133 (.int .u32 s.d2)).far (a := ⟨b133, 3, none⟩) hne133 (.int .u32 s.d3)).far (a := ⟨b133, 4, none⟩) hne133 (.int .i64 0)).far (a := ⟨b133, 5, none⟩) hne133 (.int .i64 ((j : Int) + 1)))
              have hl134 := ((((((hl133.far (a := ⟨b133, 0, none⟩) hgn133 (.int .u32 s.d0)).far (a := ⟨b133, 1, none⟩) hgn133 (.int .u32 s.d1)).far (a := ⟨b133, 2, none⟩) hgn133 (.int .u32 s.d2)).far (a := ⟨b133, 3, none⟩) hgn133 (.int .u32 s.d3)).far (a := ⟨b133, 4, none⟩) hgn133 (.int .i64 0)).far (a := ⟨b133, 5, none⟩) hgn133 (.int .i64 ((j : Int) + 1)))
              have hB134' := ((((((hB133'.setCell (p := ⟨b133, 0, none⟩) hge133 (.int .u32 s.d0)).setCell (p := ⟨b133, 1, none⟩) hge133 (.int .u32 s.d1)).setCell (p := ⟨b133, 2, none⟩) hge133 (.int .u32 s.d2)).setCell (p := ⟨b133, 3, none⟩) hge133 (.int .u32 s.d3)).setCell (p := ⟨b133, 4, none⟩) hge133 (.int .i64 0)).setCell (p := ⟨b133, 5, none⟩) hge133 (.int .i64 ((j : Int) + 1)))
              generalize ((((((W133.setCell ⟨b133, 0, none⟩ (.int .u32 s.d0)).setCell ⟨b133, 1, none⟩ (.int .u32 s.d1)).setCell ⟨b133, 2, none⟩ (.int .u32 s.d2)).setCell ⟨b133, 3, none⟩ (.int .u32 s.d3)).setCell ⟨b133, 4, none⟩ (.int .i64 0)).setCell ⟨b133, 5, none⟩ (.int .i64 ((j : Int) + 1))) = W134 at *
              refine hK.out _ _ (hkS _ hB134') (fun hHeld => ?_)
              clear hK K
              try simp only [List.getElem_toArray, List.getElem_cons_succ, List.getElem_cons_zero, Act.put, List.setIfInBounds_toArray, List.set_cons_zero, List.set_cons_succ]
              refine wpAnyH_ready (rs := [13]) (by kernel_rfl) (by simp) ?_
              refine AllReadyH.cons (o := _) rfl (fun K hK => ?_) AllReadyH.nil
              have z135_0 := hX134.cell (j := 0) (v := .int .i64 0) rfl
              have y135_0 := hX134.fz 0
              have z135_1 := hX134.cell (j := 1) (v := .slice none 0 0) rfl
              have y135_1 := hX134.fz 1
              have z135_2 := hX134.cell (j := 2) (v := .slice none 0 0) rfl
              have y135_2 := hX134.fz 2
              go_simp
              clear z135_0 y135_0 z135_1 y135_1 z135_2 y135_2
              have hX135 : Box 38 b132 [.int .i64 (j : Int), .slice (some ⟨g122, 0, none⟩) 35 35, .slice p122 N c122] (((W134.setCell ⟨b132, 0, none⟩ (.int .i64 (j : Int))).setCell ⟨b132, 1, none⟩ (.slice (some ⟨g122, 0, none⟩) 35 35)).setCell ⟨b132, 2, none⟩ (.slice p122 N c122)) := (((hX134.set 0 (.int .i64 (j : Int))).set 1 (.slice (some ⟨g122, 0, none⟩) 35 35)).set 2 (.slice p122 N c122))
              have hA135 := (((hA134.far (a := ⟨b132, 0, none⟩) (Ne.symm hne133) (.int .i64 (j : Int))).far (a := ⟨b132, 1, none⟩) (Ne.symm hne133) (.slice (some ⟨g122, 0, none⟩) 35 35)).far (a := ⟨b132, 2, none⟩) (Ne.symm hne133) (.slice p122 N c122))
              have hl135 := (((hl134.far (a := ⟨b132, 0, none⟩) hgn132 (.int .i64 (j : Int))).far (a := ⟨b132, 1, none⟩) hgn132 (.slice (some ⟨g122, 0, none⟩) 35 35)).far (a := ⟨b132, 2, none⟩) hgn132 (.slice p122 N c122))
              have hB135' := (((hB134'.setCell (p := ⟨b132, 0, none⟩) hge132 (.int .i64 (j : Int))).setCell (p := ⟨b132, 1, none⟩) hge132 (.slice (some ⟨g122, 0, none⟩) 35 35)).setCell (p := ⟨b132, 2, none⟩) hge132 (.slice p122 N c122))
              generalize (((W134.setCell ⟨b132, 0, none⟩ (.int .i64 (j : Int))).setCell ⟨b132, 1, none⟩ (.slice (some ⟨g122, 0, none⟩) 35 35)).setCell ⟨b132, 2, none⟩ (.slice p122 N c122)) = W135 at *
              refine hK.out _ _ (hkS _ hB135') (fun hHeld => ?_)
              clear hK K
              try simp only [List.getElem_toArray, List.getElem_cons_succ, List.getElem_cons_zero, Act.put, List.setIfInBounds_toArray, List.set_cons_zero, List.set_cons_succ]
              refine wpAnyH_take (i := 14) (oi := _) (v := ?vvq136) rfl (by kernel_rfl) (by kernel_rfl) (by kernel_rfl) (fun _ _ _ h => h) (Or.inl ⟨by kernel_rfl, ?hyq136⟩) hHeld ?restq136
              case hyq136 => intro w hSw; (try dsimp only at hSw); (try go_split_ands); go_simp; try with_reducible rfl
              try simp only [List.getElem_toArray, List.getElem_cons_succ, List.getElem_cons_zero, Act.put, List.setIfInBounds_toArray, List.set_cons_zero, List.set_cons_succ]
              refine wpAnyH_done (by kernel_rfl) ?_ _
              go_wp2_with fail
              go_meet
              exact ⟨b133, b132, g122, p122, c122, rfl, rfl, rfl, hge133, hA135, hX135, rdS_some hl135, by rw [HQ0.out]; exact rdS_nil6 _ _, hcc122, hcm122, hB135'⟩
          refine AllReadyH.cons (o := _) rfl (fun K hK => ?_) ?_
          · go_simp
            have hF137 := Box.new 30 [.int .u32 0, .int .u32 0, .int .u32 0, .int .u32 0, .int .i64 0, .int .i64 0] W0
            have hB137' := hB0.alloc hB0.size (.cells #[.int .u32 0, .int .u32 0, .int .u32 0, .int .u32 0, .int .i64 0, .int .i64 0] 30)
            have hge137 := hB0.size
            generalize W0.alloc (.cells #[.int .u32 0, .int .u32 0, .int .u32 0, .int .u32 0, .int .i64 0, .int .i64 0] 30) = W137 at *
            generalize W0.heap.size = b137 at *
            refine hK.out _ _ (hkS _ hB137') (fun hHeld => ?_)
            clear hK K
            try simp only [List.getElem_toArray, List.getElem_cons_succ, List.getElem_cons_zero, Act.put, List.setIfInBounds_toArray, List.set_cons_zero, List.set_cons_succ]
            refine wpAnyH_ready (rs := [5, 11]) (by kernel_rfl) (by simp) ?_
            refine AllReadyH.cons (o := _) rfl (fun K hK => ?_) ?_
            · go_simp
              refine (cuse_yes s m 0 j 0 L Q W137 hs (hT0.below hB137') hmo (by decide) HJ2.out HL.out HQ.out N HN0.out HH.out).mono ?_
              rintro e W138 ⟨g138, p138, c138, rfl, hgB138, hl138, hO138, hD138⟩
              go_wp2_with fail
              have hB138' := hB137'.trans (hD138.mono hB137'.size)
              have hA138 := hF137.on hD138
              have hgn138A : g138 ≠ b137 := Nat.ne_of_gt (Nat.lt_of_lt_of_le hF137.lt hgB138)
              have hu138 := hO138.use
              have hcc138 := hu138.2.2.1
              have hcm138 := hu138.2.2.2
              clear hu138 hO138
              refine hK.out _ _ (hkS _ hB138') (fun hHeld => ?_)
              clear hK K
              try simp only [List.getElem_toArray, List.getElem_cons_succ, List.getElem_cons_zero, Act.put, List.setIfInBounds_toArray, List.set_cons_zero, List.set_cons_succ]
              refine wpAnyH_take (i := 6) (oi := _) (v := ?vvq139) rfl (by kernel_rfl) (by kernel_rfl) (by kernel_rfl) (fun _ _ _ h => h) (Or.inl ⟨by kernel_rfl, ?hyq139⟩) hHeld ?restq139
              case hyq139 => intro w hSw; (try dsimp only at hSw); (try go_split_ands); go_simp; try with_reducible rfl
              try simp only [List.getElem_toArray, List.getElem_cons_succ, List.getElem_cons_zero, Act.put, List.setIfInBounds_toArray, List.set_cons_zero, List.set_cons_succ]
              refine wpAnyH_take (i := 7) (oi := _) (v := ?vvq140) rfl (by kernel_rfl) (by kernel_rfl) (by kernel_rfl) (fun _ _ _ h => h) (Or.inl ⟨by kernel_rfl, ?hyq140⟩) hHeld ?restq140
              case hyq140 => intro w hSw; (try dsimp only at hSw); (try go_split_ands); go_simp; try with_reducible rfl
              try simp only [List.getElem_toArray, List.getElem_cons_succ, List.getElem_cons_zero, Act.put, List.setIfInBounds_toArray, List.set_cons_zero, List.set_cons_succ]
              refine wpAnyH_take (i := 8) (oi := _) (v := ?vvq141) rfl (by kernel_rfl) (by kernel_rfl) (by kernel_rfl) (fun _ _ _ h => h) (Or.inl ⟨by kernel_rfl, ?hyq141⟩) hHeld ?restq141
              case hyq141 => intro w hSw; (try dsimp only at hSw); (try go_split_ands); go_simp; try with_reducible rfl
              try simp only [List.getElem_toArray, List.getElem_cons_succ, List.getElem_cons_zero, Act.put, List.setIfInBounds_toArray, List.set_cons_zero, List.set_cons_succ]
              refine wpAnyH_take (i := 9) (oi := _) (v := ?vvq142) rfl (by kernel_rfl) (by kernel_rfl) (by kernel_rfl) (fun _ _ _ h => h) (Or.inl ⟨by kernel_rfl, ?hyq142⟩) hHeld ?restq142
              case hyq142 => intro w hSw; (try dsimp only at hSw); (try go_split_ands); go_simp; try with_reducible rfl
              try simp only [List.getElem_toArray, List.getElem_cons_succ, List.getElem_cons_zero, Act.put, List.setIfInBounds_toArray, List.set_cons_zero, List.set_cons_succ]
              refine wpAnyH_ready (rs := [11]) (by kernel_rfl) (by simp) ?_
              refine AllReadyH.cons (o := _) rfl (fun K hK => ?_) AllReadyH.nil
              go_simp
              have hF143 := Box.new 38 [.int .i64 0, .slice none 0 0, .slice none 0 0] W138
              have hB143' := hB138'.alloc hB138'.size (.cells #[.int .i64 0, .slice none 0 0, .slice none 0 0] 38)
              have hge143 := hB138'.size
              have hO143 := hA138.al (.cells #[.int .i64 0, .slice none 0 0, .slice none 0 0] 38)
              have hne143 : b137 ≠ W138.heap.size := Nat.ne_of_lt hA138.lt
              have hl143 := rdl_al6 hl138 (.cells #[.int .i64 0, .slice none 0 0, .slice none 0 0] 38)
              have hgn143 : g138 ≠ W138.heap.size := Nat.ne_of_lt hl138.1
              generalize W138.alloc (.cells #[.int .i64 0, .slice none 0 0, .slice none 0 0] 38) = W143 at *
              generalize W138.heap.size = b143 at *
              refine hK.out _ _ (hkS _ hB143') (fun hHeld => ?_)
              clear hK K
              try simp only [List.getElem_toArray, List.getElem_cons_succ, List.getElem_cons_zero, Act.put, List.setIfInBounds_toArray, List.set_cons_zero, List.set_cons_succ]
              refine wpAnyH_ready (rs := [12]) (by kernel_rfl) (by simp) ?_
              refine AllReadyH.cons (o := _) rfl (fun K hK => ?_) AllReadyH.nil
              have z144_0 := hO143.cell (j := 0) (v := .int .u32 0) rfl
              have y144_0 := hO143.fz 0
              have z144_1 := hO143.cell (j := 1) (v := .int .u32 0) rfl
              have y144_1 := hO143.fz 1
              have z144_2 := hO143.cell (j := 2) (v := .int .u32 0) rfl
              have y144_2 := hO143.fz 2
              have z144_3 := hO143.cell (j := 3) (v := .int .u32 0) rfl
              have y144_3 := hO143.fz 3
              have z144_4 := hO143.cell (j := 4) (v := .int .i64 0) rfl
              have y144_4 := hO143.fz 4
              have z144_5 := hO143.cell (j := 5) (v := .int .i64 0) rfl
              have y144_5 := hO143.fz 5
              go_simp
              clear z144_0 y144_0 z144_1 y144_1 z144_2 y144_2 z144_3 y144_3 z144_4 y144_4 z144_5 y144_5
              have hA144 : Box 30 b137 [.int .u32 s.d0, .int .u32 s.d1, .int .u32 s.d2, .int .u32 s.d3, .int .i64 0, .int .i64 ((j : Int) + 1)] ((((((W143.setCell ⟨b137, 0, none⟩ (.int .u32 s.d0)).setCell ⟨b137, 1, none⟩ (.int .u32 s.d1)).setCell ⟨b137, 2, none⟩ (.int .u32 s.d2)).setCell ⟨b137, 3, none⟩ (.int .u32 s.d3)).setCell ⟨b137, 4, none⟩ (.int .i64 0)).setCell ⟨b137, 5, none⟩ (.int .i64 ((j : Int) + 1))) := ((((((hO143.set 0 (.int .u32 s.d0)).set 1 (.int .u32 s.d1)).set 2 (.int .u32 s.d2)).set 3 (.int .u32 s.d3)).set 4 (.int .i64 0)).set 5 (.int .i64 ((j : Int) + 1)))
              have hX144 := ((((((hF143.far (a := ⟨b137, 0, none⟩) (Ne.symm hne143) (.int .u32 s.d0)).far (a := ⟨b137, 1, none⟩) (Ne.symm hne143) (.int .u32 s.d1)).far (a := ⟨b137, 2, none⟩) (Ne.symm hne143) (.int .u32 s.d2)).far (a := ⟨b137, 3, none⟩) (Ne.symm hne143) (.int .u32 s.d3)).far (a := ⟨b137, 4, none⟩) (Ne.symm hne143) (.int .i64 0)).far (a := ⟨b137, 5, none⟩) (Ne.symm hne143) (.int .i64 ((j : Int) + 1)))
              have hl144 := ((((((hl143.far (a := ⟨b137, 0, none⟩) hgn138A (.int .u32 s.d0)).far (a := ⟨b137, 1, none⟩) hgn138A (.int .u32 s.d1)).far (a := ⟨b137, 2, none⟩) hgn138A (.int .u32 s.d2)).far (a := ⟨b137, 3, none⟩) hgn138A (.int .u32 s.d3)).far (a := ⟨b137, 4, none⟩) hgn138A (.int .i64 0)).far (a := ⟨b137, 5, none⟩) hgn138A (.int .i64 ((j : Int) + 1)))
              have hB144' := ((((((hB143'.setCell (p := ⟨b137, 0, none⟩) hge137 (.int .u32 s.d0)).setCell (p := ⟨b137, 1, none⟩) hge137 (.int .u32 s.d1)).setCell (p := ⟨b137, 2, none⟩) hge137 (.int .u32 s.d2)).setCell (p := ⟨b137, 3, none⟩) hge137 (.int .u32 s.d3)).setCell (p := ⟨b137, 4, none⟩) hge137 (.int .i64 0)).setCell (p := ⟨b137, 5, none⟩) hge137 (.int .i64 ((j : Int) + 1)))
              generalize ((((((W143.setCell ⟨b137, 0, none⟩ (.int .u32 s.d0)).setCell ⟨b137, 1, none⟩ (.int .u32 s.d1)).setCell ⟨b137, 2, none⟩ (.int .u32 s.d2)).setCell ⟨b137, 3, none⟩ (.int .u32 s.d3)).setCell ⟨b137, 4, none⟩ (.int .i64 0)).setCell ⟨b137, 5, none⟩ (.int .i64 ((j : Int) + 1))) = W144 at *
              refine hK.out _ _ (hkS _ hB144') (fun hHeld => ?_)
              clear hK K
              try simp only [List.getElem_toArray, List.getElem_cons_succ, List.getElem_cons_zero, Act.put, List.setIfInBounds_toArray, List.set_cons_zero, List.set_cons_succ]
              refine wpAnyH_ready (rs := [13]) (by kernel_rfl) (by simp) ?_
              refine AllReadyH.cons (o := _) rfl (fun K hK => ?_) AllReadyH.nil
              have z145_0 := hX144.cell (j := 0) (v := .int .i64 0) rfl
              have y145_0 := hX144.fz 0
              have z145_1 := hX144.cell (j := 1) (v := .slice none 0 0) rfl
              have y145_1 := hX144.fz 1
              have z145_2 := hX144.cell (j := 2) (v := .slice none 0 0) rfl
              have y145_2 := hX144.fz 2
              go_simp
              clear z145_0 y145_0 z145_1 y145_1 z145_2 y145_2
              have hX145 : Box 38 b143 [.int .i64 (j : Int), .slice (some ⟨g138, 0, none⟩) 35 35, .slice p138 N c138] (((W144.setCell ⟨b143, 0, none⟩ (.int .i64 (j : Int))).setCell ⟨b143, 1, none⟩ (.slice (some ⟨g138, 0, none⟩) 35 35)).setCell ⟨b143, 2, none⟩ (.slice p138 N c138)) := (((hX144.set 0 (.int .i64 (j : Int))).set 1 (.slice (some ⟨g138, 0, none⟩) 35 35)).set 2 (.slice p138 N c138))
              have hA145 := (((hA144.far (a := ⟨b143, 0, none⟩) hne143 (.int .i64 (j : Int))).far (a := ⟨b143, 1, none⟩) hne143 (.slice (some ⟨g138, 0, none⟩) 35 35)).far (a := ⟨b143, 2, none⟩) hne143 (.slice p138 N c138))
              have hl145 := (((hl144.far (a := ⟨b143, 0, none⟩) hgn143 (.int .i64 (j : Int))).far (a := ⟨b143, 1, none⟩) hgn143 (.slice (some ⟨g138, 0, none⟩) 35 35)).far (a := ⟨b143, 2, none⟩) hgn143 (.slice p138 N c138))
              have hB145' := (((hB144'.setCell (p := ⟨b143, 0, none⟩) hge143 (.int .i64 (j : Int))).setCell (p := ⟨b143, 1, none⟩) hge143 (.slice (some ⟨g138, 0, none⟩) 35 35)).setCell (p := ⟨b143, 2, none⟩) hge143 (.slice p138 N c138))
              generalize (((W144.setCell ⟨b143, 0, none⟩ (.int .i64 (j : Int))).setCell ⟨b143, 1, none⟩ (.slice (some ⟨g138, 0, none⟩) 35 35)).setCell ⟨b143, 2, none⟩ (.slice p138 N c138)) = W145 at *
              refine hK.out _ _ (hkS _ hB145') (fun hHeld => ?_)
              clear hK K
              try simp only [List.getElem_toArray, List.getElem_cons_succ, List.getElem_cons_zero, Act.put, List.setIfInBounds_toArray, List.set_cons_zero, List.set_cons_succ]
              refine wpAnyH_take (i := 14) (oi := _) (v := ?vvq146) rfl (by kernel_rfl) (by kernel_rfl) (by kernel_rfl) (fun _ _ _ h => h) (Or.inl ⟨by kernel_rfl, ?hyq146⟩) hHeld ?restq146
              case hyq146 => intro w hSw; (try dsimp only at hSw); (try go_split_ands); go_simp; try with_reducible rfl
              try simp only [List.getElem_toArray, List.getElem_cons_succ, List.getElem_cons_zero, Act.put, List.setIfInBounds_toArray, List.set_cons_zero, List.set_cons_succ]
              refine wpAnyH_done (by kernel_rfl) ?_ _
              go_wp2_with fail
              go_meet
              exact ⟨b137, b143, g138, p138, c138, rfl, rfl, rfl, hge137, hA145, hX145, rdS_some hl145, by rw [HQ0.out]; exact rdS_nil6 _ _, hcc138, hcm138, hB145'⟩
            refine AllReadyH.cons (o := _) rfl (fun K hK => ?_) AllReadyH.nil
            · go_simp
              have hF147 := Box.new 38 [.int .i64 0, .slice none 0 0, .slice none 0 0] W137
              have hB147' := hB137'.alloc hB137'.size (.cells #[.int .i64 0, .slice none 0 0, .slice none 0 0] 38)
              have hge147 := hB137'.size
              have hO147 := hF137.al (.cells #[.int .i64 0, .slice none 0 0, .slice none 0 0] 38)
              have hne147 : b137 ≠ W137.heap.size := Nat.ne_of_lt hF137.lt
              generalize W137.alloc (.cells #[.int .i64 0, .slice none 0 0, .slice none 0 0] 38) = W147 at *
              generalize W137.heap.size = b147 at *
              refine hK.out _ _ (hkS _ hB147') (fun hHeld => ?_)
              clear hK K
              try simp only [List.getElem_toArray, List.getElem_cons_succ, List.getElem_cons_zero, Act.put, List.setIfInBounds_toArray, List.set_cons_zero, List.set_cons_succ]
              refine wpAnyH_ready (rs := [5]) (by kernel_rfl) (by simp) ?_
              refine AllReadyH.cons (o := _) rfl (fun K hK => ?_) AllReadyH.nil
              go_simp
              refine (cuse_yes s m 0 j 0 L Q W147 hs (hT0.below hB147') hmo (by decide) HJ2.out HL.out HQ.out N HN0.out HH.out).mono ?_
              rintro e W148 ⟨g148, p148, c148, rfl, hgB148, hl148, hO148, hD148⟩
              go_wp2_with fail
              have hB148' := hB147'.trans (hD148.mono hB147'.size)
              have hA148 := hO147.on hD148
              have hX148 := hF147.on hD148
              have hgn148A : g148 ≠ b137 := Nat.ne_of_gt (Nat.lt_of_lt_of_le hO147.lt hgB148)
              have hgn148X : g148 ≠ b147 := Nat.ne_of_gt (Nat.lt_of_lt_of_le hF147.lt hgB148)
              have hu148 := hO148.use
              have hcc148 := hu148.2.2.1
              have hcm148 := hu148.2.2.2
              clear hu148 hO148
              refine hK.out _ _ (hkS _ hB148') (fun hHeld => ?_)
              clear hK K
              try simp only [List.getElem_toArray, List.getElem_cons_succ, List.getElem_cons_zero, Act.put, List.setIfInBounds_toArray, List.set_cons_zero, List.set_cons_succ]
              refine wpAnyH_take (i := 6) (oi := _) (v := ?vvq149) rfl (by kernel_rfl) (by kernel_rfl) (by kernel_rfl) (fun _ _ _ h => h) (Or.inl ⟨by kernel_rfl, ?hyq149⟩) hHeld ?restq149
              case hyq149 => intro w hSw; (try dsimp only at hSw); (try go_split_ands); go_simp; try with_reducible rfl
              try simp only [List.getElem_toArray, List.getElem_cons_succ, List.getElem_cons_zero, Act.put, List.setIfInBounds_toArray, List.set_cons_zero, List.set_cons_succ]
              refine wpAnyH_take (i := 7) (oi := _) (v := ?vvq150) rfl (by kernel_rfl) (by kernel_rfl) (by kernel_rfl) (fun _ _ _ h => h) (Or.inl ⟨by kernel_rfl, ?hyq150⟩) hHeld ?restq150
              case hyq150 => intro w hSw; (try dsimp only at hSw); (try go_split_ands); go_simp; try with_reducible rfl
              try simp only [List.getElem_toArray, List.getElem_cons_succ, List.getElem_cons_zero, Act.put, List.setIfInBounds_toArray, List.set_cons_zero, List.set_cons_succ]
              refine wpAnyH_take (i := 8) (oi := _) (v := ?vvq151) rfl (by kernel_rfl) (by kernel_rfl) (by kernel_rfl) (fun _ _ _ h => h) (Or.inl ⟨by kernel_rfl, ?hyq151⟩) hHeld ?restq151
              case hyq151 => intro w hSw; (try dsimp only at hSw); (try go_split_ands); go_simp; try with_reducible rfl
              try simp only [List.getElem_toArray, List.getElem_cons_succ, List.getElem_cons_zero, Act.put, List.setIfInBounds_toArray, List.set_cons_zero, List.set_cons_succ]
              refine wpAnyH_take (i := 9) (oi := _) (v := ?vvq152) rfl (by kernel_rfl) (by kernel_rfl) (by kernel_rfl) (fun _ _ _ h => h) (Or.inl ⟨by kernel_rfl, ?hyq152⟩) hHeld ?restq152
              case hyq152 => intro w hSw; (try dsimp only at hSw); (try go_split_ands); go_simp; try with_reducible rfl
              try simp only [List.getElem_toArray, List.getElem_cons_succ, List.getElem_cons_zero, Act.put, List.setIfInBounds_toArray, List.set_cons_zero, List.set_cons_succ]
              refine wpAnyH_ready (rs := [12]) (by kernel_rfl) (by simp) ?_
              refine AllReadyH.cons (o := _) rfl (fun K hK => ?_) AllReadyH.nil
              have z153_0 := hA148.cell (j := 0) (v := .int .u32 0) rfl
              have y153_0 := hA148.fz 0
              have z153_1 := hA148.cell (j := 1) (v := .int .u32 0) rfl
              have y153_1 := hA148.fz 1
              have z153_2 := hA148.cell (j := 2) (v := .int .u32 0) rfl
              have y153_2 := hA148.fz 2
              have z153_3 := hA148.cell (j := 3) (v := .int .u32 0) rfl
              have y153_3 := hA148.fz 3
              have z153_4 := hA148.cell (j := 4) (v := .int .i64 0) rfl
              have y153_4 := hA148.fz 4
              have z153_5 := hA148.cell (j := 5) (v := .int .i64 0) rfl
              have y153_5 := hA148.fz 5
              go_simp
              clear z153_0 y153_0 z153_1 y153_1 z153_2 y153_2 z153_3 y153_3 z153_4 y153_4 z153_5 y153_5
              have hA153 : Box 30 b137 [.int .u32 s.d0, .int .u32 s.d1, .int .u32 s.d2, .int .u32 s.d3, .int .i64 0, .int .i64 ((j : Int) + 1)] ((((((W148.setCell ⟨b137, 0, none⟩ (.int .u32 s.d0)).setCell ⟨b137, 1, none⟩ (.int .u32 s.d1)).setCell ⟨b137, 2, none⟩ (.int .u32 s.d2)).setCell ⟨b137, 3, none⟩ (.int .u32 s.d3)).setCell ⟨b137, 4, none⟩ (.int .i64 0)).setCell ⟨b137, 5, none⟩ (.int .i64 ((j : Int) + 1))) := ((((((hA148.set 0 (.int .u32 s.d0)).set 1 (.int .u32 s.d1)).set 2 (.int .u32 s.d2)).set 3 (.int .u32 s.d3)).set 4 (.int .i64 0)).set 5 (.int .i64 ((j : Int) + 1)))
              have hX153 := ((((((hX148.far (a := ⟨b137, 0, none⟩) (Ne.symm hne147) (.int .u32 s.d0)).far (a := ⟨b137, 1, none⟩) (Ne.symm hne147) (.int .u32 s.d1)).far (a := ⟨b137, 2, none⟩) (Ne.symm hne147) (.int .u32 s.d2)).far (a := ⟨b137, 3, none⟩) (Ne.symm hne147) (.int .u32 s.d3)).far (a := ⟨b137, 4, none⟩) (Ne.symm hne147) (.int .i64 0)).far (a := ⟨b137, 5, none⟩) (Ne.symm hne147) (.int .i64 ((j : Int) + 1)))
              have hl153 := ((((((hl148.far (a := ⟨b137, 0, none⟩) hgn148A (.int .u32 s.d0)).far (a := ⟨b137, 1, none⟩) hgn148A (.int .u32 s.d1)).far (a := ⟨b137, 2, none⟩) hgn148A (.int .u32 s.d2)).far (a := ⟨b137, 3, none⟩) hgn148A (.int .u32 s.d3)).far (a := ⟨b137, 4, none⟩) hgn148A (.int .i64 0)).far (a := ⟨b137, 5, none⟩) hgn148A (.int .i64 ((j : Int) + 1)))
              have hB153' := ((((((hB148'.setCell (p := ⟨b137, 0, none⟩) hge137 (.int .u32 s.d0)).setCell (p := ⟨b137, 1, none⟩) hge137 (.int .u32 s.d1)).setCell (p := ⟨b137, 2, none⟩) hge137 (.int .u32 s.d2)).setCell (p := ⟨b137, 3, none⟩) hge137 (.int .u32 s.d3)).setCell (p := ⟨b137, 4, none⟩) hge137 (.int .i64 0)).setCell (p := ⟨b137, 5, none⟩) hge137 (.int .i64 ((j : Int) + 1)))
              generalize ((((((W148.setCell ⟨b137, 0, none⟩ (.int .u32 s.d0)).setCell ⟨b137, 1, none⟩ (.int .u32 s.d1)).setCell ⟨b137, 2, none⟩ (.int .u32 s.d2)).setCell ⟨b137, 3, none⟩ (.int .u32 s.d3)).setCell ⟨b137, 4, none⟩ (.int .i64 0)).setCell ⟨b137, 5, none⟩ (.int .i64 ((j : Int) + 1))) = W153 at *
              refine hK.out _ _ (hkS _ hB153') (fun hHeld => ?_)
              clear hK K
              try simp only [List.getElem_toArray, List.getElem_cons_succ, List.getElem_cons_zero, Act.put, List.setIfInBounds_toArray, List.set_cons_zero, List.set_cons_succ]
              refine wpAnyH_ready (rs := [13]) (by kernel_rfl) (by simp) ?_
              refine AllReadyH.cons (o := _) rfl (fun K hK => ?_) AllReadyH.nil
              have z154_0 := hX153.cell (j := 0) (v := .int .i64 0) rfl
              have y154_0 := hX153.fz 0
              have z154_1 := hX153.cell (j := 1) (v := .slice none 0 0) rfl
              have y154_1 := hX153.fz 1
              have z154_2 := hX153.cell (j := 2) (v := .slice none 0 0) rfl
              have y154_2 := hX153.fz 2
              go_simp
              clear z154_0 y154_0 z154_1 y154_1 z154_2 y154_2
              have hX154 : Box 38 b147 [.int .i64 (j : Int), .slice (some ⟨g148, 0, none⟩) 35 35, .slice p148 N c148] (((W153.setCell ⟨b147, 0, none⟩ (.int .i64 (j : Int))).setCell ⟨b147, 1, none⟩ (.slice (some ⟨g148, 0, none⟩) 35 35)).setCell ⟨b147, 2, none⟩ (.slice p148 N c148)) := (((hX153.set 0 (.int .i64 (j : Int))).set 1 (.slice (some ⟨g148, 0, none⟩) 35 35)).set 2 (.slice p148 N c148))
              have hA154 := (((hA153.far (a := ⟨b147, 0, none⟩) hne147 (.int .i64 (j : Int))).far (a := ⟨b147, 1, none⟩) hne147 (.slice (some ⟨g148, 0, none⟩) 35 35)).far (a := ⟨b147, 2, none⟩) hne147 (.slice p148 N c148))
              have hl154 := (((hl153.far (a := ⟨b147, 0, none⟩) hgn148X (.int .i64 (j : Int))).far (a := ⟨b147, 1, none⟩) hgn148X (.slice (some ⟨g148, 0, none⟩) 35 35)).far (a := ⟨b147, 2, none⟩) hgn148X (.slice p148 N c148))
              have hB154' := (((hB153'.setCell (p := ⟨b147, 0, none⟩) hge147 (.int .i64 (j : Int))).setCell (p := ⟨b147, 1, none⟩) hge147 (.slice (some ⟨g148, 0, none⟩) 35 35)).setCell (p := ⟨b147, 2, none⟩) hge147 (.slice p148 N c148))
              generalize (((W153.setCell ⟨b147, 0, none⟩ (.int .i64 (j : Int))).setCell ⟨b147, 1, none⟩ (.slice (some ⟨g148, 0, none⟩) 35 35)).setCell ⟨b147, 2, none⟩ (.slice p148 N c148)) = W154 at *
              refine hK.out _ _ (hkS _ hB154') (fun hHeld => ?_)
              clear hK K
              try simp only [List.getElem_toArray, List.getElem_cons_succ, List.getElem_cons_zero, Act.put, List.setIfInBounds_toArray, List.set_cons_zero, List.set_cons_succ]
              refine wpAnyH_take (i := 14) (oi := _) (v := ?vvq155) rfl (by kernel_rfl) (by kernel_rfl) (by kernel_rfl) (fun _ _ _ h => h) (Or.inl ⟨by kernel_rfl, ?hyq155⟩) hHeld ?restq155
              case hyq155 => intro w hSw; (try dsimp only at hSw); (try go_split_ands); go_simp; try with_reducible rfl
              try simp only [List.getElem_toArray, List.getElem_cons_succ, List.getElem_cons_zero, Act.put, List.setIfInBounds_toArray, List.set_cons_zero, List.set_cons_succ]
              refine wpAnyH_done (by kernel_rfl) ?_ _
              go_wp2_with fail
              go_meet
              exact ⟨b137, b147, g148, p148, c148, rfl, rfl, rfl, hge137, hA154, hX154, rdS_some hl154, by rw [HQ0.out]; exact rdS_nil6 _ _, hcc148, hcm148, hB154'⟩
          refine AllReadyH.cons (o := _) rfl (fun K hK => ?_) AllReadyH.nil
          · go_simp
            have hF156 := Box.new 38 [.int .i64 0, .slice none 0 0, .slice none 0 0] W0
            have hB156' := hB0.alloc hB0.size (.cells #[.int .i64 0, .slice none 0 0, .slice none 0 0] 38)
            have hge156 := hB0.size
            generalize W0.alloc (.cells #[.int .i64 0, .slice none 0 0, .slice none 0 0] 38) = W156 at *
            generalize W0.heap.size = b156 at *
            refine hK.out _ _ (hkS _ hB156') (fun hHeld => ?_)
            clear hK K
            try simp only [List.getElem_toArray, List.getElem_cons_succ, List.getElem_cons_zero, Act.put, List.setIfInBounds_toArray, List.set_cons_zero, List.set_cons_succ]
            refine wpAnyH_ready (rs := [5, 10]) (by kernel_rfl) (by simp) ?_
            refine AllReadyH.cons (o := _) rfl (fun K hK => ?_) ?_
            · go_simp
              refine (cuse_yes s m 0 j 0 L Q W156 hs (hT0.below hB156') hmo (by decide) HJ2.out HL.out HQ.out N HN0.out HH.out).mono ?_
              rintro e W157 ⟨g157, p157, c157, rfl, hgB157, hl157, hO157, hD157⟩
              go_wp2_with fail
              have hB157' := hB156'.trans (hD157.mono hB156'.size)
              have hX157 := hF156.on hD157
              have hgn157X : g157 ≠ b156 := Nat.ne_of_gt (Nat.lt_of_lt_of_le hF156.lt hgB157)
              have hu157 := hO157.use
              have hcc157 := hu157.2.2.1
              have hcm157 := hu157.2.2.2
              clear hu157 hO157
              refine hK.out _ _ (hkS _ hB157') (fun hHeld => ?_)
              clear hK K
              try simp only [List.getElem_toArray, List.getElem_cons_succ, List.getElem_cons_zero, Act.put, List.setIfInBounds_toArray, List.set_cons_zero, List.set_cons_succ]
              refine wpAnyH_take (i := 6) (oi := _) (v := ?vvq158) rfl (by kernel_rfl) (by kernel_rfl) (by kernel_rfl) (fun _ _ _ h => h) (Or.inl ⟨by kernel_rfl, ?hyq158⟩) hHeld ?restq158
              case hyq158 => intro w hSw; (try dsimp only at hSw); (try go_split_ands); go_simp; try with_reducible rfl
              try simp only [List.getElem_toArray, List.getElem_cons_succ, List.getElem_cons_zero, Act.put, List.setIfInBounds_toArray, List.set_cons_zero, List.set_cons_succ]
              refine wpAnyH_take (i := 7) (oi := _) (v := ?vvq159) rfl (by kernel_rfl) (by kernel_rfl) (by kernel_rfl) (fun _ _ _ h => h) (Or.inl ⟨by kernel_rfl, ?hyq159⟩) hHeld ?restq159
              case hyq159 => intro w hSw; (try dsimp only at hSw); (try go_split_ands); go_simp; try with_reducible rfl
              try simp only [List.getElem_toArray, List.getElem_cons_succ, List.getElem_cons_zero, Act.put, List.setIfInBounds_toArray, List.set_cons_zero, List.set_cons_succ]
              refine wpAnyH_take (i := 8) (oi := _) (v := ?vvq160) rfl (by kernel_rfl) (by kernel_rfl) (by kernel_rfl) (fun _ _ _ h => h) (Or.inl ⟨by kernel_rfl, ?hyq160⟩) hHeld ?restq160
              case hyq160 => intro w hSw; (try dsimp only at hSw); (try go_split_ands); go_simp; try with_reducible rfl
              try simp only [List.getElem_toArray, List.getElem_cons_succ, List.getElem_cons_zero, Act.put, List.setIfInBounds_toArray, List.set_cons_zero, List.set_cons_succ]
              refine wpAnyH_take (i := 9) (oi := _) (v := ?vvq161) rfl (by kernel_rfl) (by kernel_rfl) (by kernel_rfl) (fun _ _ _ h => h) (Or.inl ⟨by kernel_rfl, ?hyq161⟩) hHeld ?restq161
              case hyq161 => intro w hSw; (try dsimp only at hSw); (try go_split_ands); go_simp; try with_reducible rfl
              try simp only [List.getElem_toArray, List.getElem_cons_succ, List.getElem_cons_zero, Act.put, List.setIfInBounds_toArray, List.set_cons_zero, List.set_cons_succ]
              refine wpAnyH_ready (rs := [10]) (by kernel_rfl) (by simp) ?_
              refine AllReadyH.cons (o := _) rfl (fun K hK => ?_) AllReadyH.nil
              go_simp
              have hF162 := Box.new 30 [.int .u32 0, .int .u32 0, .int .u32 0, .int .u32 0, .int .i64 0, .int .i64 0] W157
              have hB162' := hB157'.alloc hB157'.size (.cells #[.int .u32 0, .int .u32 0, .int .u32 0, .int .u32 0, .int .i64 0, .int .i64 0] 30)
              have hge162 := hB157'.size
              have hO162 := hX157.al (.cells #[.int .u32 0, .int .u32 0, .int .u32 0, .int .u32 0, .int .i64 0, .int .i64 0] 30)
              have hne162 : b156 ≠ W157.heap.size := Nat.ne_of_lt hX157.lt
              have hl162 := rdl_al6 hl157 (.cells #[.int .u32 0, .int .u32 0, .int .u32 0, .int .u32 0, .int .i64 0, .int .i64 0] 30)
              have hgn162 : g157 ≠ W157.heap.size := Nat.ne_of_lt hl157.1
              generalize W157.alloc (.cells #[.int .u32 0, .int .u32 0, .int .u32 0, .int .u32 0, .int .i64 0, .int .i64 0] 30) = W162 at *
              generalize W157.heap.size = b162 at *
              refine hK.out _ _ (hkS _ hB162') (fun hHeld => ?_)
              clear hK K
              try simp only [List.getElem_toArray, List.getElem_cons_succ, List.getElem_cons_zero, Act.put, List.setIfInBounds_toArray, List.set_cons_zero, List.set_cons_succ]
              refine wpAnyH_ready (rs := [12]) (by kernel_rfl) (by simp) ?_
              refine AllReadyH.cons (o := _) rfl (fun K hK => ?_) AllReadyH.nil
              have z163_0 := hF162.cell (j := 0) (v := .int .u32 0) rfl
              have y163_0 := hF162.fz 0
              have z163_1 := hF162.cell (j := 1) (v := .int .u32 0) rfl
              have y163_1 := hF162.fz 1
              have z163_2 := hF162.cell (j := 2) (v := .int .u32 0) rfl
              have y163_2 := hF162.fz 2
              have z163_3 := hF162.cell (j := 3) (v := .int .u32 0) rfl
              have y163_3 := hF162.fz 3
              have z163_4 := hF162.cell (j := 4) (v := .int .i64 0) rfl
              have y163_4 := hF162.fz 4
              have z163_5 := hF162.cell (j := 5) (v := .int .i64 0) rfl
              have y163_5 := hF162.fz 5
              go_simp
              clear z163_0 y163_0 z163_1 y163_1 z163_2 y163_2 z163_3 y163_3 z163_4 y163_4 z163_5 y163_5
              have hA163 : Box 30 b162 [.int .u32 s.d0, .int .u32 s.d1, .int .u32 s.d2, .int .u32 s.d3, .int .i64 0, .int .i64 ((j : Int) + 1)] ((((((W162.setCell ⟨b162, 0, none⟩ (.int .u32 s.d0)).setCell ⟨b162, 1, none⟩ (.int .u32 s.d1)).setCell ⟨b162, 2, none⟩ (.int .u32 s.d2)).setCell ⟨b162, 3, none⟩ (.int .u32 s.d3)).setCell ⟨b162, 4, none⟩ (.int .i64 0)).setCell ⟨b162, 5, none⟩ (.int .i64 ((j : Int) + 1))) := ((((((hF162.set 0 (.int .u32 s.d0)).set 1 (.int .u32 s.d1)).set 2 (.int .u32 s.d2)).set 3 (.int .u32 s.d3)).set 4 (.int .i64 0)).set 5 (.int .i64 ((j : Int) + 1)))
              have hX163 := ((((((hO162.far (a := ⟨b162, 0, none⟩) hne162 (.int .u32 s.d0)).far (a := ⟨b162, 1, none⟩) hne162 (.int .u32 s.d1)).far (a := ⟨b162, 2, none⟩) hne162 (.int .u32 s.d2)).far (a := ⟨b162, 3, none⟩) hne162 (.int .u32 s.d3)).far (a := ⟨b162, 4, none⟩) hne162 (.int .i64 0)).far (a := ⟨b162, 5, none⟩) hne162 (.int .i64 ((j : Int) + 1)))
              have hl163 := ((((((hl162.far (a := ⟨b162, 0, none⟩) hgn162 (.int .u32 s.d0)).far (a := ⟨b162, 1, none⟩) hgn162 (.int .u32 s.d1)).far (a := ⟨b162, 2, none⟩) hgn162 (.int .u32 s.d2)).far (a := ⟨b162, 3, none⟩) hgn162 (.int .u32 s.d3)).far (a := ⟨b162, 4, none⟩) hgn162 (.int .i64 0)).far (a := ⟨b162, 5, none⟩) hgn162 (.int .i64 ((j : Int) + 1)))
              have hB163' := ((((((hB162'.setCell (p := ⟨b162, 0, none⟩) hge162 (.int .u32 s.d0)).setCell (p := ⟨b162, 1, none⟩) hge162 (.int .u32 s.d1)).setCell (p := ⟨b162, 2, none⟩) hge162 (.int .u32 s.d2)).setCell (p := ⟨b162, 3, none⟩) hge162 (.int .u32 s.d3)).setCell (p := ⟨b162, 4, none⟩) hge162 (.int .i64 0)).setCell (p := ⟨b162, 5, none⟩) hge162 (.int .i64 ((j : Int) + 1)))
              generalize ((((((W162.setCell ⟨b162, 0, none⟩ (.int .u32 s.d0)).setCell ⟨b162, 1, none⟩ (.int .u32 s.d1)).setCell ⟨b162, 2, none⟩ (.int .u32 s.d2)).setCell ⟨b162, 3, none⟩ (.int .u32 s.d3)).setCell ⟨b162, 4, none⟩ (.int .i64 0)).setCell ⟨b162, 5, none⟩ (.int .i64 ((j : Int) + 1))) = W163 at *
              refine hK.out _ _ (hkS _ hB163') (fun hHeld => ?_)
              clear hK K
              try simp only [List.getElem_toArray, List.getElem_cons_succ, List.getElem_cons_zero, Act.put, List.setIfInBounds_toArray, List.set_cons_zero, List.set_cons_succ]
              refine wpAnyH_ready (rs := [13]) (by kernel_rfl) (by simp) ?_
              refine AllReadyH.cons (o := _) rfl (fun K hK => ?_) AllReadyH.nil
              have z164_0 := hX163.cell (j := 0) (v := .int .i64 0) rfl
              have y164_0 := hX163.fz 0
              have z164_1 := hX163.cell (j := 1) (v := .slice none 0 0) rfl
              have y164_1 := hX163.fz 1
              have z164_2 := hX163.cell (j := 2) (v := .slice none 0 0) rfl
              have y164_2 := hX163.fz 2
              go_simp
              clear z164_0 y164_0 z164_1 y164_1 z164_2 y164_2
              have hX164 : Box 38 b156 [.int .i64 (j : Int), .slice (some ⟨g157, 0, none⟩) 35 35, .slice p157 N c157] (((W163.setCell ⟨b156, 0, none⟩ (.int .i64 (j : Int))).setCell ⟨b156, 1, none⟩ (.slice (some ⟨g157, 0, none⟩) 35 35)).setCell ⟨b156, 2, none⟩ (.slice p157 N c157)) := (((hX163.set 0 (.int .i64 (j : Int))).set 1 (.slice (some ⟨g157, 0, none⟩) 35 35)).set 2 (.slice p157 N c157))
              have hA164 := (((hA163.far (a := ⟨b156, 0, none⟩) (Ne.symm hne162) (.int .i64 (j : Int))).far (a := ⟨b156, 1, none⟩) (Ne.symm hne162) (.slice (some ⟨g157, 0, none⟩) 35 35)).far (a := ⟨b156, 2, none⟩) (Ne.symm hne162) (.slice p157 N c157))
              have hl164 := (((hl163.far (a := ⟨b156, 0, none⟩) hgn157X (.int .i64 (j : Int))).far (a := ⟨b156, 1, none⟩) hgn157X (.slice (some ⟨g157, 0, none⟩) 35 35)).far (a := ⟨b156, 2, none⟩) hgn157X (.slice p157 N c157))
              have hB164' := (((hB163'.setCell (p := ⟨b156, 0, none⟩) hge156 (.int .i64 (j : Int))).setCell (p := ⟨b156, 1, none⟩) hge156 (.slice (some ⟨g157, 0, none⟩) 35 35)).setCell (p := ⟨b156, 2, none⟩) hge156 (.slice p157 N c157))
              generalize (((W163.setCell ⟨b156, 0, none⟩ (.int .i64 (j : Int))).setCell ⟨b156, 1, none⟩ (.slice (some ⟨g157, 0, none⟩) 35 35)).setCell ⟨b156, 2, none⟩ (.slice p157 N c157)) = W164 at *
              refine hK.out _ _ (hkS _ hB164') (fun hHeld => ?_)
              clear hK K
              try simp only [List.getElem_toArray, List.getElem_cons_succ, List.getElem_cons_zero, Act.put, List.setIfInBounds_toArray, List.set_cons_zero, List.set_cons_succ]
              refine wpAnyH_take (i := 14) (oi := _) (v := ?vvq165) rfl (by kernel_rfl) (by kernel_rfl) (by kernel_rfl) (fun _ _ _ h => h) (Or.inl ⟨by kernel_rfl, ?hyq165⟩) hHeld ?restq165
              case hyq165 => intro w hSw; (try dsimp only at hSw); (try go_split_ands); go_simp; try with_reducible rfl
              try simp only [List.getElem_toArray, List.getElem_cons_succ, List.getElem_cons_zero, Act.put, List.setIfInBounds_toArray, List.set_cons_zero, List.set_cons_succ]
              refine wpAnyH_done (by kernel_rfl) ?_ _
              go_wp2_with fail
              go_meet
              exact ⟨b162, b156, g157, p157, c157, rfl, rfl, rfl, hge162, hA164, hX164, rdS_some hl164, by rw [HQ0.out]; exact rdS_nil6 _ _, hcc157, hcm157, hB164'⟩
            refine AllReadyH.cons (o := _) rfl (fun K hK => ?_) AllReadyH.nil
            · go_simp
              have hF166 := Box.new 30 [.int .u32 0, .int .u32 0, .int .u32 0, .int .u32 0, .int .i64 0, .int .i64 0] W156
              have hB166' := hB156'.alloc hB156'.size (.cells #[.int .u32 0, .int .u32 0, .int .u32 0, .int .u32 0, .int .i64 0, .int .i64 0] 30)
              have hge166 := hB156'.size
              have hO166 := hF156.al (.cells #[.int .u32 0, .int .u32 0, .int .u32 0, .int .u32 0, .int .i64 0, .int .i64 0] 30)
              have hne166 : b156 ≠ W156.heap.size := Nat.ne_of_lt hF156.lt
              generalize W156.alloc (.cells #[.int .u32 0, .int .u32 0, .int .u32 0, .int .u32 0, .int .i64 0, .int .i64 0] 30) = W166 at *
              generalize W156.heap.size = b166 at *
              refine hK.out _ _ (hkS _ hB166') (fun hHeld => ?_)
              clear hK K
              try simp only [List.getElem_toArray, List.getElem_cons_succ, List.getElem_cons_zero, Act.put, List.setIfInBounds_toArray, List.set_cons_zero, List.set_cons_succ]
              refine wpAnyH_ready (rs := [5]) (by kernel_rfl) (by simp) ?_
              refine AllReadyH.cons (o := _) rfl (fun K hK => ?_) AllReadyH.nil
              go_simp
              refine (cuse_yes s m 0 j 0 L Q W166 hs (hT0.below hB166') hmo (by decide) HJ2.out HL.out HQ.out N HN0.out HH.out).mono ?_
              rintro e W167 ⟨g167, p167, c167, rfl, hgB167, hl167, hO167, hD167⟩
              go_wp2_with fail
              have hB167' := hB166'.trans (hD167.mono hB166'.size)
              have hA167 := hF166.on hD167
              have hX167 := hO166.on hD167
              have hgn167A : g167 ≠ b166 := Nat.ne_of_gt (Nat.lt_of_lt_of_le hF166.lt hgB167)
              have hgn167X : g167 ≠ b156 := Nat.ne_of_gt (Nat.lt_of_lt_of_le hO166.lt hgB167)
              have hu167 := hO167.use
              have hcc167 := hu167.2.2.1
              have hcm167 := hu167.2.2.2
              clear hu167 hO167
              refine hK.out _ _ (hkS _ hB167') (fun hHeld => ?_)
              clear hK K
              try simp only [List.getElem_toArray, List.getElem_cons_succ, List.getElem_cons_zero, Act.put, List.setIfInBounds_toArray, List.set_cons_zero, List.set_cons_succ]
              refine wpAnyH_take (i := 6) (oi := _) (v := ?vvq168) rfl (by kernel_rfl) (by kernel_rfl) (by kernel_rfl) (fun _ _ _ h => h) (Or.inl ⟨by kernel_rfl, ?hyq168⟩) hHeld ?restq168
              case hyq168 => intro w hSw; (try dsimp only at hSw); (try go_split_ands); go_simp; try with_reducible rfl
              try simp only [List.getElem_toArray, List.getElem_cons_succ, List.getElem_cons_zero, Act.put, List.setIfInBounds_toArray, List.set_cons_zero, List.set_cons_succ]
              refine wpAnyH_take (i := 7) (oi := _) (v := ?vvq169) rfl (by kernel_rfl) (by kernel_rfl) (by kernel_rfl) (fun _ _ _ h => h) (Or.inl ⟨by kernel_rfl, ?hyq169⟩) hHeld ?restq169
              case hyq169 => intro w hSw; (try dsimp only at hSw); (try go_split_ands); go_simp; try with_reducible rfl
              try simp only [List.getElem_toArray, List.getElem_cons_succ, List.getElem_cons_zero, Act.put, List.setIfInBounds_toArray, List.set_cons_zero, List.set_cons_succ]
              refine wpAnyH_take (i := 8) (oi := _) (v := ?vvq170) rfl (by kernel_rfl) (by kernel_rfl) (by kernel_rfl) (fun _ _ _ h => h) (Or.inl ⟨by kernel_rfl, ?hyq170⟩) hHeld ?restq170
              case hyq170 => intro w hSw; (try dsimp only at hSw); (try go_split_ands); go_simp; try with_reducible rfl
              try simp only [List.getElem_toArray, List.getElem_cons_succ, List.getElem_cons_zero, Act.put, List.setIfInBounds_toArray, List.set_cons_zero, List.set_cons_succ]
              refine wpAnyH_take (i := 9) (oi := _) (v := ?vvq171) rfl (by kernel_rfl) (by kernel_rfl) (by kernel_rfl) (fun _ _ _ h => h) (Or.inl ⟨by kernel_rfl, ?hyq171⟩) hHeld ?restq171
              case hyq171 => intro w hSw; (try dsimp only at hSw); (try go_split_ands); go_simp; try with_reducible rfl
              try simp only [List.getElem_toArray, List.getElem_cons_succ, List.getElem_cons_zero, Act.put, List.setIfInBounds_toArray, List.set_cons_zero, List.set_cons_succ]
              refine wpAnyH_ready (rs := [12]) (by kernel_rfl) (by simp) ?_
              refine AllReadyH.cons (o := _) rfl (fun K hK => ?_) AllReadyH.nil
              have z172_0 := hA167.cell (j := 0) (v := .int .u32 0) rfl
              have y172_0 := hA167.fz 0
              have z172_1 := hA167.cell (j := 1) (v := .int .u32 0) rfl
              have y172_1 := hA167.fz 1
              have z172_2 := hA167.cell (j := 2) (v := .int .u32 0) rfl
              have y172_2 := hA167.fz 2
              have z172_3 := hA167.cell (j := 3) (v := .int .u32 0) rfl
              have y172_3 := hA167.fz 3
              have z172_4 := hA167.cell (j := 4) (v := .int .i64 0) rfl
              have y172_4 := hA167.fz 4
              have z172_5 := hA167.cell (j := 5) (v := .int .i64 0) rfl
              have y172_5 := hA167.fz 5
              go_simp
              clear z172_0 y172_0 z172_1 y172_1 z172_2 y172_2 z172_3 y172_3 z172_4 y172_4 z172_5 y172_5
              have hA172 : Box 30 b166 [.int .u32 s.d0, .int .u32 s.d1, .int .u32 s.d2, .int .u32 s.d3, .int .i64 0, .int .i64 ((j : Int) + 1)] ((((((W167.setCell ⟨b166, 0, none⟩ (.int .u32 s.d0)).setCell ⟨b166, 1, none⟩ (.int .u32 s.d1)).setCell ⟨b166, 2, none⟩ (.int .u32 s.d2)).setCell ⟨b166, 3, none⟩ (.int .u32 s.d3)).setCell ⟨b166, 4, none⟩ (.int .i64 0)).setCell ⟨b166, 5, none⟩ (.int .i64 ((j : Int) + 1))) := ((((((hA167.set 0 (.int .u32 s.d0)).set 1 (.int .u32 s.d1)).set 2 (.int .u32 s.d2)).set 3 (.int .u32 s.d3)).set 4 (.int .i64 0)).set 5 (.int .i64 ((j : Int) + 1)))
              have hX172 := ((((((hX167.far (a := ⟨b166, 0, none⟩) hne166 (.int .u32 s.d0)).far (a := ⟨b166, 1, none⟩) hne166 (.int .u32 s.d1)).far (a := ⟨b166, 2, none⟩) hne166 (.int .u32 s.d2)).far (a := ⟨b166, 3, none⟩) hne166 (.int .u32 s.d3)).far (a := ⟨b166, 4, none⟩) hne166 (.int .i64 0)).far (a := ⟨b166, 5, none⟩) hne166 (.int .i64 ((j : Int) + 1)))
              have hl172 := ((((((hl167.far (a := ⟨b166, 0, none⟩) hgn167A (.int .u32 s.d0)).far (a := ⟨b166, 1, none⟩) hgn167A (.int .u32 s.d1)).far (a := ⟨b166, 2, none⟩) hgn167A (.int .u32 s.d2)).far (a := ⟨b166, 3, none⟩) hgn167A (.int .u32 s.d3)).far (a := ⟨b166, 4, none⟩) hgn167A (.int .i64 0)).far (a := ⟨b166, 5, none⟩) hgn167A (.int .i64 ((j : Int) + 1)))
              have hB172' := ((((((hB167'.setCell (p := ⟨b166, 0, none⟩) hge166 (.int .u32 s.d0)).setCell (p := ⟨b166, 1, none⟩) hge166 (.int .u32 s.d1)).setCell (p := ⟨b166, 2, none⟩) hge166 (.int .u32 s.d2)).setCell (p := ⟨b166, 3, none⟩) hge166 (.int .u32 s.d3)).setCell (p := ⟨b166, 4, none⟩) hge166 (.int .i64 0)).setCell (p := ⟨b166, 5, none⟩) hge166 (.int .i64 ((j : Int) + 1)))
              generalize ((((((W167.setCell ⟨b166, 0, none⟩ (.int .u32 s.d0)).setCell ⟨b166, 1, none⟩ (.int .u32 s.d1)).setCell ⟨b166, 2, none⟩ (.int .u32 s.d2)).setCell ⟨b166, 3, none⟩ (.int .u32 s.d3)).setCell ⟨b166, 4, none⟩ (.int .i64 0)).setCell ⟨b166, 5, none⟩ (.int .i64 ((j : Int) + 1))) = W172 at *
              refine hK.out _ _ (hkS _ hB172') (fun hHeld => ?_)
              clear hK K
              try simp only [List.getElem_toArray, List.getElem_cons_succ, List.getElem_cons_zero, Act.put, List.setIfInBounds_toArray, List.set_cons_zero, List.set_cons_succ]
              refine wpAnyH_ready (rs := [13]) (by kernel_rfl) (by simp) ?_
              refine AllReadyH.cons (o := _) rfl (fun K hK => ?_) AllReadyH.nil
              have z173_0 := hX172.cell (j := 0) (v := .int .i64 0) rfl
              have y173_0 := hX172.fz 0
              have z173_1 := hX172.cell (j := 1) (v := .slice none 0 0) rfl
              have y173_1 := hX172.fz 1
              have z173_2 := hX172.cell (j := 2) (v := .slice none 0 0) rfl
              have y173_2 := hX172.fz 2
              go_simp
              clear z173_0 y173_0 z173_1 y173_1 z173_2 y173_2
              have hX173 : Box 38 b156 [.int .i64 (j : Int), .slice (some ⟨g167, 0, none⟩) 35 35, .slice p167 N c167] (((W172.setCell ⟨b156, 0, none⟩ (.int .i64 (j : Int))).setCell ⟨b156, 1, none⟩ (.slice (some ⟨g167, 0, none⟩) 35 35)).setCell ⟨b156, 2, none⟩ (.slice p167 N c167)) := (((hX172.set 0 (.int .i64 (j : Int))).set 1 (.slice (some ⟨g167, 0, none⟩) 35 35)).set 2 (.slice p167 N c167))
              have hA173 := (((hA172.far (a := ⟨b156, 0, none⟩) (Ne.symm hne166) (.int .i64 (j : Int))).far (a := ⟨b156, 1, none⟩) (Ne.symm hne166) (.slice (some ⟨g167, 0, none⟩) 35 35)).far (a := ⟨b156, 2, none⟩) (Ne.symm hne166) (.slice p167 N c167))
              have hl173 := (((hl172.far (a := ⟨b156, 0, none⟩) hgn167X (.int .i64 (j : Int))).far (a := ⟨b156, 1, none⟩) hgn167X (.slice (some ⟨g167, 0, none⟩) 35 35)).far (a := ⟨b156, 2, none⟩) hgn167X (.slice p167 N c167))
              have hB173' := (((hB172'.setCell (p := ⟨b156, 0, none⟩) hge156 (.int .i64 (j : Int))).setCell (p := ⟨b156, 1, none⟩) hge156 (.slice (some ⟨g167, 0, none⟩) 35 35)).setCell (p := ⟨b156, 2, none⟩) hge156 (.slice p167 N c167))
              generalize (((W172.setCell ⟨b156, 0, none⟩ (.int .i64 (j : Int))).setCell ⟨b156, 1, none⟩ (.slice (some ⟨g167, 0, none⟩) 35 35)).setCell ⟨b156, 2, none⟩ (.slice p167 N c167)) = W173 at *
              refine hK.out _ _ (hkS _ hB173') (fun hHeld => ?_)
              clear hK K
              try simp only [List.getElem_toArray, List.getElem_cons_succ, List.getElem_cons_zero, Act.put, List.setIfInBounds_toArray, List.set_cons_zero, List.set_cons_succ]
              refine wpAnyH_take (i := 14) (oi := _) (v := ?vvq174) rfl (by kernel_rfl) (by kernel_rfl) (by kernel_rfl) (fun _ _ _ h => h) (Or.inl ⟨by kernel_rfl, ?hyq174⟩) hHeld ?restq174
              case hyq174 => intro w hSw; (try dsimp only at hSw); (try go_split_ands); go_simp; try with_reducible rfl
              try simp only [List.getElem_toArray, List.getElem_cons_succ, List.getElem_cons_zero, Act.put, List.setIfInBounds_toArray, List.set_cons_zero, List.set_cons_succ]
              refine wpAnyH_done (by kernel_rfl) ?_ _
              go_wp2_with fail
              go_meet
              exact ⟨b166, b156, g167, p167, c167, rfl, rfl, rfl, hge166, hA173, hX173, rdS_some hl173, by rw [HQ0.out]; exact rdS_nil6 _ _, hcc167, hcm167, hB173'⟩
        case rest =>
          obtain ⟨ba, bb, g, p1, c1, rfl, rfl, rfl, hgeb, hA, hX, hl1, hq1, hc1, hm1, hD⟩ := hcut
          replace hN := hN.on hD
          replace hP := hP.on hD
          clear hrl
          replace hB := hB.trans (hD.mono hB.size)
          replace hT := hT.below hD
          replace hc4 := hc4.on hD hbl
          replace hbl := Nat.lt_of_lt_of_le hbl hD.size
          replace hA : Box 30 ba [.int .u32 s.d0, .int .u32 s.d1, .int .u32 s.d2, .int .u32 s.d3, .int .i64 0, .int .i64 ((j : Int) + 1)] wc.drew := hA
          replace hX : Box 38 bb [.int .i64 (j : Int), .slice (some ⟨g, 0, none⟩) 35 35, .slice p1 N c1] wc.drew := hX
          replace hN : Box 30 (w3.heap.size) [.int .u32 s.d0, .int .u32 s.d1, .int .u32 s.d2, .int .u32 s.d3, .int .i64 0, .int .i64 (j : Int)] wc.drew := hN
          replace hP : Box 24 (w6.heap.size) [.int .u32 v.d0, .int .u32 v.d1, .int .u32 v.d2, .int .u32 v.d3] wc.drew := hP
          replace hl1 : RdS wc.drew (some ⟨g, 0, none⟩) L := hl1
          replace hq1 : RdS wc.drew p1 Q := hq1
          replace hB : Below w.heap.size w wc.drew := hB.drew
          replace hbl : bl < wc.drew.heap.size := hbl
          have hTa : TurnsOk wc.drew := hT
          clear hT
          have hgT : 0 < wc.drew.heap.size := tab_low hTa gTrn
          have HS0 : Hid (wc.drew.cell? ⟨bb, 0, none⟩ = some (.int .i64 (j : Int)) ∧ wc.drew.cell? ⟨bb, 1, none⟩ = some (.slice (some ⟨g, 0, none⟩) 35 35) ∧ wc.drew.cell? ⟨bb, 2, none⟩ = some (.slice p1 N c1) ∧ wc.drew.cell? ⟨w6.heap.size, 0, none⟩ = some (.int .u32 v.d0) ∧ wc.drew.cell? ⟨w6.heap.size, 1, none⟩ = some (.int .u32 v.d1) ∧ wc.drew.cell? ⟨w6.heap.size, 2, none⟩ = some (.int .u32 v.d2) ∧ wc.drew.cell? ⟨w6.heap.size, 3, none⟩ = some (.int .u32 v.d3) ∧ wc.drew.cell? ⟨bl, ol + j * 4, none⟩ = some (.int .u32 m.d0) ∧ wc.drew.cell? ⟨bl, ol + j * 4 + 1, none⟩ = some (.int .u32 m.d1) ∧ wc.drew.cell? ⟨bl, ol + j * 4 + 2, none⟩ = some (.int .u32 m.d2) ∧ wc.drew.cell? ⟨bl, ol + j * 4 + 3, none⟩ = some (.int .u32 m.d3)) := ⟨hX.cell rfl, hX.cell rfl, hX.cell rfl, hP.cell rfl, hP.cell rfl, hP.cell rfl, hP.cell rfl, hc4.1, hc4.2.1, hc4.2.2.1, hc4.2.2.2⟩
          have g0 := hX.lt
          have g1 := hP.lt
          have hszB := hB.size
          have hCur : Below wc.drew.heap.size wc.drew wc.drew := Below.refl _ _
          clear hX hc4 hD
          go_wp2_with fail
          go_region_held3 (fun w' => w'.cell? ⟨bb, 0, none⟩ = some (.int .i64 (j : Int)) ∧ w'.cell? ⟨bb, 1, none⟩ = some (.slice (some ⟨g, 0, none⟩) 35 35) ∧ w'.cell? ⟨bb, 2, none⟩ = some (.slice p1 N c1) ∧ w'.cell? ⟨w6.heap.size, 0, none⟩ = some (.int .u32 v.d0) ∧ w'.cell? ⟨w6.heap.size, 1, none⟩ = some (.int .u32 v.d1) ∧ w'.cell? ⟨w6.heap.size, 2, none⟩ = some (.int .u32 v.d2) ∧ w'.cell? ⟨w6.heap.size, 3, none⟩ = some (.int .u32 v.d3) ∧ w'.cell? ⟨bl, ol + j * 4, none⟩ = some (.int .u32 m.d0) ∧ w'.cell? ⟨bl, ol + j * 4 + 1, none⟩ = some (.int .u32 m.d1) ∧ w'.cell? ⟨bl, ol + j * 4 + 2, none⟩ = some (.int .u32 m.d2) ∧ w'.cell? ⟨bl, ol + j * 4 + 3, none⟩ = some (.int .u32 m.d3))
            (exact keepF hCur g0 g1 hbl HS0.out)
            (first
              | (go_at_call 17; (with_reducible refine (ccheck6_any v m (j : Int) L Q true (some ⟨g, 0, none⟩) p1 35 35 N c1 _ hmo HLO2.out HQO.out HLN.out HN0.out.symm (hl1.on hCur) (hq1.on hCur) (Nat.le_of_eq HLN.out.symm) (by unfold maxLen; omega) hc1 hm1 (turns_far hTa hgT hCur) HC.out).mono ?_); rintro e wb ⟨rfl, hP1⟩; have hCur : Below wc.drew.heap.size wc.drew wb := hCur.trans (hP1.mono hCur.size)))
          replace hA := hA.on hCur
          replace hN := hN.on hCur
          replace hP := hP.on hCur
          replace hB := hB.trans (hCur.mono hszB)
          have c0 := hA.cell (j := 0) (v := .int .u32 s.d0) rfl
          have c1 := hA.cell (j := 1) (v := .int .u32 s.d1) rfl
          have c2 := hA.cell (j := 2) (v := .int .u32 s.d2) rfl
          have c3 := hA.cell (j := 3) (v := .int .u32 s.d3) rfl
          have c4 := hA.cell (j := 4) (v := .int .i64 0) rfl
          have c5 := hA.cell (j := 5) (v := .int .i64 ((j : Int) + 1)) rfl
          have d0 := hN.cell (j := 0) (v := .int .u32 s.d0) rfl
          have f0 := hN.fz 0
          have d1 := hN.cell (j := 1) (v := .int .u32 s.d1) rfl
          have f1 := hN.fz 1
          have d2 := hN.cell (j := 2) (v := .int .u32 s.d2) rfl
          have f2 := hN.fz 2
          have d3 := hN.cell (j := 3) (v := .int .u32 s.d3) rfl
          have f3 := hN.fz 3
          have d4 := hN.cell (j := 4) (v := .int .i64 0) rfl
          have f4 := hN.fz 4
          have d5 := hN.cell (j := 5) (v := .int .i64 (j : Int)) rfl
          have f5 := hN.fz 5
          go_wp2_with fail
          clear c0 d0 f0 c1 d1 f1 c2 d2 f2 c3 d3 f3 c4 d4 f4 c5 d5 f5
          have hN2 : Box 30 (w3.heap.size) [.int .u32 s.d0, .int .u32 s.d1, .int .u32 s.d2, .int .u32 s.d3, .int .i64 0, .int .i64 ((j : Int) + 1)] ((((((wb.setCell ⟨w3.heap.size, 0, none⟩ (.int .u32 s.d0)).setCell ⟨w3.heap.size, 1, none⟩ (.int .u32 s.d1)).setCell ⟨w3.heap.size, 2, none⟩ (.int .u32 s.d2)).setCell ⟨w3.heap.size, 3, none⟩ (.int .u32 s.d3)).setCell ⟨w3.heap.size, 4, none⟩ (.int .i64 0)).setCell ⟨w3.heap.size, 5, none⟩ (.int .i64 ((j : Int) + 1))) := ((((((hN.set 0 (.int .u32 s.d0)).set 1 (.int .u32 s.d1)).set 2 (.int .u32 s.d2)).set 3 (.int .u32 s.d3)).set 4 (.int .i64 0)).set 5 (.int .i64 ((j : Int) + 1)))
          have hP2 := ((((((hP.far (a := ⟨w3.heap.size, 0, none⟩) (Ne.symm hnp) (.int .u32 s.d0)).far (a := ⟨w3.heap.size, 1, none⟩) (Ne.symm hnp) (.int .u32 s.d1)).far (a := ⟨w3.heap.size, 2, none⟩) (Ne.symm hnp) (.int .u32 s.d2)).far (a := ⟨w3.heap.size, 3, none⟩) (Ne.symm hnp) (.int .u32 s.d3)).far (a := ⟨w3.heap.size, 4, none⟩) (Ne.symm hnp) (.int .i64 0)).far (a := ⟨w3.heap.size, 5, none⟩) (Ne.symm hnp) (.int .i64 ((j : Int) + 1)))
          have hB2 := ((((((hB.setCell (p := ⟨w3.heap.size, 0, none⟩) hwN (.int .u32 s.d0)).setCell (p := ⟨w3.heap.size, 1, none⟩) hwN (.int .u32 s.d1)).setCell (p := ⟨w3.heap.size, 2, none⟩) hwN (.int .u32 s.d2)).setCell (p := ⟨w3.heap.size, 3, none⟩) hwN (.int .u32 s.d3)).setCell (p := ⟨w3.heap.size, 4, none⟩) hwN (.int .i64 0)).setCell (p := ⟨w3.heap.size, 5, none⟩) hwN (.int .i64 ((j : Int) + 1)))
          generalize ((((((wb.setCell ⟨w3.heap.size, 0, none⟩ (.int .u32 s.d0)).setCell ⟨w3.heap.size, 1, none⟩ (.int .u32 s.d1)).setCell ⟨w3.heap.size, 2, none⟩ (.int .u32 s.d2)).setCell ⟨w3.heap.size, 3, none⟩ (.int .u32 s.d3)).setCell ⟨w3.heap.size, 4, none⟩ (.int .i64 0)).setCell ⟨w3.heap.size, 5, none⟩ (.int .i64 ((j : Int) + 1))) = wf at *
          replace hN2 : Box 30 (w3.heap.size) [.int .u32 s.d0, .int .u32 s.d1, .int .u32 s.d2, .int .u32 s.d3, .int .i64 0, .int .i64 ((min (j + 1) 1 : Nat) : Int)] wf := by rw [show min (j + 1) 1 = j + 1 by omega]; exact hN2
          go_roundg (n - (j + 1))
          case measure => omega
          case rel => exact ⟨j + 1, rfl, by omega, by go_num, hN2, hP2, hB2⟩
      · rw [show min j 1 = 1 by omega] at hN
        replace hN : Box 30 (w3.heap.size) [.int .u32 s.d0, .int .u32 s.d1, .int .u32 s.d2, .int .u32 s.d3, .int .i64 0, .int .i64 1] wr := hN
        have hmd : decide ((1 : Int) ≤ (j : Int)) = true := by simp; omega
        have hEz := eqSR_yes zeroD 0 0
        simp only [zeroD] at hEz
        go_upto_region 17 with fail
        go_cut [14, 15, 16] from 41 to 85 (fun sa sb se wx => ∃ ba bb, sa = .pointer (some ⟨ba, 0, none⟩) ∧ sb = .pointer (some ⟨bb, 0, none⟩) ∧ se = .int .i64 9 ∧ Box 30 ba [.int .u32 0, .int .u32 0, .int .u32 0, .int .u32 0, .int .i64 0, .int .i64 0] wx ∧ Box 38 bb [.int .i64 0, .slice none 0 0, .slice none 0 0] wx ∧ Below wr.heap.size wr wx)
        case first =>
          have hkS : ∀ W : World, Below wr.heap.size wr W → (W.cell? ⟨w3.heap.size, 0, none⟩ = some (.int .u32 s.d0) ∧ W.cell? ⟨w3.heap.size, 1, none⟩ = some (.int .u32 s.d1) ∧ W.cell? ⟨w3.heap.size, 2, none⟩ = some (.int .u32 s.d2) ∧ W.cell? ⟨w3.heap.size, 3, none⟩ = some (.int .u32 s.d3) ∧ W.cell? ⟨w3.heap.size, 4, none⟩ = some (.int .i64 0) ∧ W.cell? ⟨w3.heap.size, 5, none⟩ = some (.int .i64 1) ∧ W.cell? ⟨bl, ol + j * 4, none⟩ = some (.int .u32 m.d0) ∧ W.cell? ⟨bl, ol + j * 4 + 1, none⟩ = some (.int .u32 m.d1) ∧ W.cell? ⟨bl, ol + j * 4 + 2, none⟩ = some (.int .u32 m.d2) ∧ W.cell? ⟨bl, ol + j * 4 + 3, none⟩ = some (.int .u32 m.d3)) := fun W h => by
            have hn := hN.on h
            have hc := hc4.on h hbl
            exact ⟨hn.cell rfl, hn.cell rfl, hn.cell rfl, hn.cell rfl, hn.cell rfl, hn.cell rfl, hc.1, hc.2.1, hc.2.2.1, hc.2.2.2⟩
          have hB0 : Below wr.heap.size wr wr.drew := (Below.refl _ _).drew
          have hT0 := hT
          refine wp_region_held_drew (S := fun w' => w'.cell? ⟨w3.heap.size, 0, none⟩ = some (.int .u32 s.d0) ∧ w'.cell? ⟨w3.heap.size, 1, none⟩ = some (.int .u32 s.d1) ∧ w'.cell? ⟨w3.heap.size, 2, none⟩ = some (.int .u32 s.d2) ∧ w'.cell? ⟨w3.heap.size, 3, none⟩ = some (.int .u32 s.d3) ∧ w'.cell? ⟨w3.heap.size, 4, none⟩ = some (.int .i64 0) ∧ w'.cell? ⟨w3.heap.size, 5, none⟩ = some (.int .i64 1) ∧ w'.cell? ⟨bl, ol + j * 4, none⟩ = some (.int .u32 m.d0) ∧ w'.cell? ⟨bl, ol + j * 4 + 1, none⟩ = some (.int .u32 m.d1) ∧ w'.cell? ⟨bl, ol + j * 4 + 2, none⟩ = some (.int .u32 m.d2) ∧ w'.cell? ⟨bl, ol + j * 4 + 3, none⟩ = some (.int .u32 m.d3)) (by kernel_rfl) (hkS _ hB0) (fun hHeld => ?_)
          clear hP hB hrl
          generalize wr.drew = W0 at *
          refine wpAnyH_take (i := 0) (oi := _) (v := ?vvq175) rfl (by kernel_rfl) (by kernel_rfl) (by kernel_rfl) (fun _ _ _ h => h) (Or.inl ⟨by kernel_rfl, ?hyq175⟩) hHeld ?restq175
          case hyq175 => intro w hSw; (try dsimp only at hSw); (try go_split_ands); go_simp; try with_reducible rfl
          try simp only [List.getElem_toArray, List.getElem_cons_zero, Act.put, List.setIfInBounds_toArray, List.set_cons_zero, List.set_cons_succ]
          refine wpAnyH_take (i := 1) (oi := _) (v := ?vvq176) rfl (by kernel_rfl) (by kernel_rfl) (by kernel_rfl) (fun _ _ _ h => h) (Or.inl ⟨by kernel_rfl, ?hyq176⟩) hHeld ?restq176
          case hyq176 => intro w hSw; (try dsimp only at hSw); (try go_split_ands); go_simp; try with_reducible rfl
          try simp only [List.getElem_toArray, List.getElem_cons_succ, List.getElem_cons_zero, Act.put, List.setIfInBounds_toArray, List.set_cons_zero, List.set_cons_succ]
          refine wpAnyH_take (i := 2) (oi := _) (v := ?vvq177) rfl (by kernel_rfl) (by kernel_rfl) (by kernel_rfl) (fun _ _ _ h => h) (Or.inl ⟨by kernel_rfl, ?hyq177⟩) hHeld ?restq177
          case hyq177 => intro w hSw; (try dsimp only at hSw); (try go_split_ands); go_simp; try with_reducible rfl
          try simp only [List.getElem_toArray, List.getElem_cons_succ, List.getElem_cons_zero, Act.put, List.setIfInBounds_toArray, List.set_cons_zero, List.set_cons_succ]
          refine wpAnyH_take (i := 3) (oi := _) (v := ?vvq178) rfl (by kernel_rfl) (by kernel_rfl) (by kernel_rfl) (fun _ _ _ h => h) (Or.inl ⟨by kernel_rfl, ?hyq178⟩) hHeld ?restq178
          case hyq178 => intro w hSw; (try dsimp only at hSw); (try go_split_ands); go_simp; try with_reducible rfl
          try simp only [List.getElem_toArray, List.getElem_cons_succ, List.getElem_cons_zero, Act.put, List.setIfInBounds_toArray, List.set_cons_zero, List.set_cons_succ]
          refine wpAnyH_take (i := 4) (oi := _) (v := ?vvq179) rfl (by kernel_rfl) (by kernel_rfl) (by kernel_rfl) (fun _ _ _ h => h) (Or.inl ⟨by kernel_rfl, ?hyq179⟩) hHeld ?restq179
          case hyq179 => intro w hSw; (try dsimp only at hSw); (try go_split_ands); go_simp; try with_reducible rfl
          try simp only [List.getElem_toArray, List.getElem_cons_succ, List.getElem_cons_zero, Act.put, List.setIfInBounds_toArray, List.set_cons_zero, List.set_cons_succ]
          refine wpAnyH_ready (rs := [5, 10, 11]) (by kernel_rfl) (by simp) ?_
          refine AllReadyH.cons (o := _) rfl (fun K hK => ?_) ?_
          · go_simp
            refine (cuse_no s m 0 0 1 W0 hs (hT0.below hB0) (by decide) (by decide) HH.out).mono ?_
            rintro e W180 ⟨rfl, hD180⟩
            go_wp2_with fail
            have hB180' := hB0.trans (hD180.mono hB0.size)
            refine hK.out _ _ (hkS _ hB180') (fun hHeld => ?_)
            clear hK K
            try simp only [List.getElem_toArray, List.getElem_cons_succ, List.getElem_cons_zero, Act.put, List.setIfInBounds_toArray, List.set_cons_zero, List.set_cons_succ]
            refine wpAnyH_take (i := 6) (oi := _) (v := ?vvq181) rfl (by kernel_rfl) (by kernel_rfl) (by kernel_rfl) (fun _ _ _ h => h) (Or.inl ⟨by kernel_rfl, ?hyq181⟩) hHeld ?restq181
            case hyq181 => intro w hSw; (try dsimp only at hSw); (try go_split_ands); go_simp; try with_reducible rfl
            try simp only [List.getElem_toArray, List.getElem_cons_succ, List.getElem_cons_zero, Act.put, List.setIfInBounds_toArray, List.set_cons_zero, List.set_cons_succ]
            refine wpAnyH_take (i := 7) (oi := _) (v := ?vvq182) rfl (by kernel_rfl) (by kernel_rfl) (by kernel_rfl) (fun _ _ _ h => h) (Or.inl ⟨by kernel_rfl, ?hyq182⟩) hHeld ?restq182
            case hyq182 => intro w hSw; (try dsimp only at hSw); (try go_split_ands); go_simp; try with_reducible rfl
            try simp only [List.getElem_toArray, List.getElem_cons_succ, List.getElem_cons_zero, Act.put, List.setIfInBounds_toArray, List.set_cons_zero, List.set_cons_succ]
            refine wpAnyH_take (i := 8) (oi := _) (v := ?vvq183) rfl (by kernel_rfl) (by kernel_rfl) (by kernel_rfl) (fun _ _ _ h => h) (Or.inl ⟨by kernel_rfl, ?hyq183⟩) hHeld ?restq183
            case hyq183 => intro w hSw; (try dsimp only at hSw); (try go_split_ands); go_simp; try with_reducible rfl
            try simp only [List.getElem_toArray, List.getElem_cons_succ, List.getElem_cons_zero, Act.put, List.setIfInBounds_toArray, List.set_cons_zero, List.set_cons_succ]
            refine wpAnyH_take (i := 9) (oi := _) (v := ?vvq184) rfl (by kernel_rfl) (by kernel_rfl) (by kernel_rfl) (fun _ _ _ h => h) (Or.inl ⟨by kernel_rfl, ?hyq184⟩) hHeld ?restq184
            case hyq184 => intro w hSw; (try dsimp only at hSw); (try go_split_ands); go_simp; try with_reducible rfl
            try simp only [List.getElem_toArray, List.getElem_cons_succ, List.getElem_cons_zero, Act.put, List.setIfInBounds_toArray, List.set_cons_zero, List.set_cons_succ]
            refine wpAnyH_ready (rs := [10, 11]) (by kernel_rfl) (by simp) ?_
            refine AllReadyH.cons (o := _) rfl (fun K hK => ?_) ?_
            · go_simp
              have hF185 := Box.new 30 [.int .u32 0, .int .u32 0, .int .u32 0, .int .u32 0, .int .i64 0, .int .i64 0] W180
              have hB185' := hB180'.alloc hB180'.size (.cells #[.int .u32 0, .int .u32 0, .int .u32 0, .int .u32 0, .int .i64 0, .int .i64 0] 30)
              have hge185 := hB180'.size
              generalize W180.alloc (.cells #[.int .u32 0, .int .u32 0, .int .u32 0, .int .u32 0, .int .i64 0, .int .i64 0] 30) = W185 at *
              generalize W180.heap.size = b185 at *
              refine hK.out _ _ (hkS _ hB185') (fun hHeld => ?_)
              clear hK K
              try simp only [List.getElem_toArray, List.getElem_cons_succ, List.getElem_cons_zero, Act.put, List.setIfInBounds_toArray, List.set_cons_zero, List.set_cons_succ]
              refine wpAnyH_ready (rs := [11]) (by kernel_rfl) (by simp) ?_
              refine AllReadyH.cons (o := _) rfl (fun K hK => ?_) AllReadyH.nil
              go_simp
              have hF186 := Box.new 38 [.int .i64 0, .slice none 0 0, .slice none 0 0] W185
              have hB186' := hB185'.alloc hB185'.size (.cells #[.int .i64 0, .slice none 0 0, .slice none 0 0] 38)
              have hge186 := hB185'.size
              have hO186 := hF185.al (.cells #[.int .i64 0, .slice none 0 0, .slice none 0 0] 38)
              have hne186 : b185 ≠ W185.heap.size := Nat.ne_of_lt hF185.lt
              generalize W185.alloc (.cells #[.int .i64 0, .slice none 0 0, .slice none 0 0] 38) = W186 at *
              generalize W185.heap.size = b186 at *
              refine hK.out _ _ (hkS _ hB186') (fun hHeld => ?_)
              clear hK K
              try simp only [List.getElem_toArray, List.getElem_cons_succ, List.getElem_cons_zero, Act.put, List.setIfInBounds_toArray, List.set_cons_zero, List.set_cons_succ]
              refine wpAnyH_ready (rs := [12]) (by kernel_rfl) (by simp) ?_
              refine AllReadyH.cons (o := _) rfl (fun K hK => ?_) AllReadyH.nil
              have z187_0 := hO186.cell (j := 0) (v := .int .u32 0) rfl
              have y187_0 := hO186.fz 0
              have z187_1 := hO186.cell (j := 1) (v := .int .u32 0) rfl
              have y187_1 := hO186.fz 1
              have z187_2 := hO186.cell (j := 2) (v := .int .u32 0) rfl
              have y187_2 := hO186.fz 2
              have z187_3 := hO186.cell (j := 3) (v := .int .u32 0) rfl
              have y187_3 := hO186.fz 3
              have z187_4 := hO186.cell (j := 4) (v := .int .i64 0) rfl
              have y187_4 := hO186.fz 4
              have z187_5 := hO186.cell (j := 5) (v := .int .i64 0) rfl
              have y187_5 := hO186.fz 5
              go_simp
              clear z187_0 y187_0 z187_1 y187_1 z187_2 y187_2 z187_3 y187_3 z187_4 y187_4 z187_5 y187_5
              have hA187 : Box 30 b185 [.int .u32 0, .int .u32 0, .int .u32 0, .int .u32 0, .int .i64 0, .int .i64 0] ((((((W186.setCell ⟨b185, 0, none⟩ (.int .u32 0)).setCell ⟨b185, 1, none⟩ (.int .u32 0)).setCell ⟨b185, 2, none⟩ (.int .u32 0)).setCell ⟨b185, 3, none⟩ (.int .u32 0)).setCell ⟨b185, 4, none⟩ (.int .i64 0)).setCell ⟨b185, 5, none⟩ (.int .i64 0)) := ((((((hO186.set 0 (.int .u32 0)).set 1 (.int .u32 0)).set 2 (.int .u32 0)).set 3 (.int .u32 0)).set 4 (.int .i64 0)).set 5 (.int .i64 0))
              have hX187 := ((((((hF186.far (a := ⟨b185, 0, none⟩) (Ne.symm hne186) (.int .u32 0)).far (a := ⟨b185, 1, none⟩) (Ne.symm hne186) (.int .u32 0)).far (a := ⟨b185, 2, none⟩) (Ne.symm hne186) (.int .u32 0)).far (a := ⟨b185, 3, none⟩) (Ne.symm hne186) (.int .u32 0)).far (a := ⟨b185, 4, none⟩) (Ne.symm hne186) (.int .i64 0)).far (a := ⟨b185, 5, none⟩) (Ne.symm hne186) (.int .i64 0))
              have hB187' := ((((((hB186'.setCell (p := ⟨b185, 0, none⟩) hge185 (.int .u32 0)).setCell (p := ⟨b185, 1, none⟩) hge185 (.int .u32 0)).setCell (p := ⟨b185, 2, none⟩) hge185 (.int .u32 0)).setCell (p := ⟨b185, 3, none⟩) hge185 (.int .u32 0)).setCell (p := ⟨b185, 4, none⟩) hge185 (.int .i64 0)).setCell (p := ⟨b185, 5, none⟩) hge185 (.int .i64 0))
              generalize ((((((W186.setCell ⟨b185, 0, none⟩ (.int .u32 0)).setCell ⟨b185, 1, none⟩ (.int .u32 0)).setCell ⟨b185, 2, none⟩ (.int .u32 0)).setCell ⟨b185, 3, none⟩ (.int .u32 0)).setCell ⟨b185, 4, none⟩ (.int .i64 0)).setCell ⟨b185, 5, none⟩ (.int .i64 0)) = W187 at *
              refine hK.out _ _ (hkS _ hB187') (fun hHeld => ?_)
              clear hK K
              try simp only [List.getElem_toArray, List.getElem_cons_succ, List.getElem_cons_zero, Act.put, List.setIfInBounds_toArray, List.set_cons_zero, List.set_cons_succ]
              refine wpAnyH_ready (rs := [13]) (by kernel_rfl) (by simp) ?_
              refine AllReadyH.cons (o := _) rfl (fun K hK => ?_) AllReadyH.nil
              have z188_0 := hX187.cell (j := 0) (v := .int .i64 0) rfl
              have y188_0 := hX187.fz 0
              have z188_1 := hX187.cell (j := 1) (v := .slice none 0 0) rfl
              have y188_1 := hX187.fz 1
              have z188_2 := hX187.cell (j := 2) (v := .slice none 0 0) rfl
              have y188_2 := hX187.fz 2
              go_simp
              clear z188_0 y188_0 z188_1 y188_1 z188_2 y188_2
              have hX188 : Box 38 b186 [.int .i64 0, .slice none 0 0, .slice none 0 0] (((W187.setCell ⟨b186, 0, none⟩ (.int .i64 0)).setCell ⟨b186, 1, none⟩ (.slice none 0 0)).setCell ⟨b186, 2, none⟩ (.slice none 0 0)) := (((hX187.set 0 (.int .i64 0)).set 1 (.slice none 0 0)).set 2 (.slice none 0 0))
              have hA188 := (((hA187.far (a := ⟨b186, 0, none⟩) hne186 (.int .i64 0)).far (a := ⟨b186, 1, none⟩) hne186 (.slice none 0 0)).far (a := ⟨b186, 2, none⟩) hne186 (.slice none 0 0))
              have hB188' := (((hB187'.setCell (p := ⟨b186, 0, none⟩) hge186 (.int .i64 0)).setCell (p := ⟨b186, 1, none⟩) hge186 (.slice none 0 0)).setCell (p := ⟨b186, 2, none⟩) hge186 (.slice none 0 0))
              generalize (((W187.setCell ⟨b186, 0, none⟩ (.int .i64 0)).setCell ⟨b186, 1, none⟩ (.slice none 0 0)).setCell ⟨b186, 2, none⟩ (.slice none 0 0)) = W188 at *
              refine hK.out _ _ (hkS _ hB188') (fun hHeld => ?_)
              clear hK K
              try simp only [List.getElem_toArray, List.getElem_cons_succ, List.getElem_cons_zero, Act.put, List.setIfInBounds_toArray, List.set_cons_zero, List.set_cons_succ]
              refine wpAnyH_take (i := 14) (oi := _) (v := ?vvq189) rfl (by kernel_rfl) (by kernel_rfl) (by kernel_rfl) (fun _ _ _ h => h) (Or.inl ⟨by kernel_rfl, ?hyq189⟩) hHeld ?restq189
              case hyq189 => intro w hSw; (try dsimp only at hSw); (try go_split_ands); go_simp; try with_reducible rfl
              try simp only [List.getElem_toArray, List.getElem_cons_succ, List.getElem_cons_zero, Act.put, List.setIfInBounds_toArray, List.set_cons_zero, List.set_cons_succ]
              refine wpAnyH_done (by kernel_rfl) ?_ _
              go_wp2_with fail
              go_meet
              exact ⟨b185, b186, rfl, rfl, rfl, hA188, hX188, hB188'⟩
            refine AllReadyH.cons (o := _) rfl (fun K hK => ?_) AllReadyH.nil
            · go_simp
              have hF190 := Box.new 38 [.int .i64 0, .slice none 0 0, .slice none 0 0] W180
              have hB190' := hB180'.alloc hB180'.size (.cells #[.int .i64 0, .slice none 0 0, .slice none 0 0] 38)
              have hge190 := hB180'.size
              generalize W180.alloc (.cells #[.int .i64 0, .slice none 0 0, .slice none 0 0] 38) = W190 at *
              generalize W180.heap.size = b190 at *
              refine hK.out _ _ (hkS _ hB190') (fun hHeld => ?_)
              clear hK K
              try simp only [List.getElem_toArray, List.getElem_cons_succ, List.getElem_cons_zero, Act.put, List.setIfInBounds_toArray, List.set_cons_zero, List.set_cons_succ]
              refine wpAnyH_ready (rs := [10]) (by kernel_rfl) (by simp) ?_
              refine AllReadyH.cons (o := _) rfl (fun K hK => ?_) AllReadyH.nil
              go_simp
              have hF191 := Box.new 30 [.int .u32 0, .int .u32 0, .int .u32 0, .int .u32 0, .int .i64 0, .int .i64 0] W190
              have hB191' := hB190'.alloc hB190'.size (.cells #[.int .u32 0, .int .u32 0, .int .u32 0, .int .u32 0, .int .i64 0, .int .i64 0] 30)
              have hge191 := hB190'.size
              have hO191 := hF190.al (.cells #[.int .u32 0, .int .u32 0, .int .u32 0, .int .u32 0, .int .i64 0, .int .i64 0] 30)
              have hne191 : b190 ≠ W190.heap.size := Nat.ne_of_lt hF190.lt
              generalize W190.alloc (.cells #[.int .u32 0, .int .u32 0, .int .u32 0, .int .u32 0, .int .i64 0, .int .i64 0] 30) = W191 at *
              generalize W190.heap.size = b191 at *
              refine hK.out _ _ (hkS _ hB191') (fun hHeld => ?_)
              clear hK K
              try simp only [List.getElem_toArray, List.getElem_cons_succ, List.getElem_cons_zero, Act.put, List.setIfInBounds_toArray, List.set_cons_zero, List.set_cons_succ]
              refine wpAnyH_ready (rs := [12]) (by kernel_rfl) (by simp) ?_
              refine AllReadyH.cons (o := _) rfl (fun K hK => ?_) AllReadyH.nil
              have z192_0 := hF191.cell (j := 0) (v := .int .u32 0) rfl
              have y192_0 := hF191.fz 0
              have z192_1 := hF191.cell (j := 1) (v := .int .u32 0) rfl
              have y192_1 := hF191.fz 1
              have z192_2 := hF191.cell (j := 2) (v := .int .u32 0) rfl
              have y192_2 := hF191.fz 2
              have z192_3 := hF191.cell (j := 3) (v := .int .u32 0) rfl
              have y192_3 := hF191.fz 3
              have z192_4 := hF191.cell (j := 4) (v := .int .i64 0) rfl
              have y192_4 := hF191.fz 4
              have z192_5 := hF191.cell (j := 5) (v := .int .i64 0) rfl
              have y192_5 := hF191.fz 5
              go_simp
              clear z192_0 y192_0 z192_1 y192_1 z192_2 y192_2 z192_3 y192_3 z192_4 y192_4 z192_5 y192_5
              have hA192 : Box 30 b191 [.int .u32 0, .int .u32 0, .int .u32 0, .int .u32 0, .int .i64 0, .int .i64 0] ((((((W191.setCell ⟨b191, 0, none⟩ (.int .u32 0)).setCell ⟨b191, 1, none⟩ (.int .u32 0)).setCell ⟨b191, 2, none⟩ (.int .u32 0)).setCell ⟨b191, 3, none⟩ (.int .u32 0)).setCell ⟨b191, 4, none⟩ (.int .i64 0)).setCell ⟨b191, 5, none⟩ (.int .i64 0)) := ((((((hF191.set 0 (.int .u32 0)).set 1 (.int .u32 0)).set 2 (.int .u32 0)).set 3 (.int .u32 0)).set 4 (.int .i64 0)).set 5 (.int .i64 0))
              have hX192 := ((((((hO191.far (a := ⟨b191, 0, none⟩) hne191 (.int .u32 0)).far (a := ⟨b191, 1, none⟩) hne191 (.int .u32 0)).far (a := ⟨b191, 2, none⟩) hne191 (.int .u32 0)).far (a := ⟨b191, 3, none⟩) hne191 (.int .u32 0)).far (a := ⟨b191, 4, none⟩) hne191 (.int .i64 0)).far (a := ⟨b191, 5, none⟩) hne191 (.int .i64 0))
              have hB192' := ((((((hB191'.setCell (p := ⟨b191, 0, none⟩) hge191 (.int .u32 0)).setCell (p := ⟨b191, 1, none⟩) hge191 (.int .u32 0)).setCell (p := ⟨b191, 2, none⟩) hge191 (.int .u32 0)).setCell (p := ⟨b191, 3, none⟩) hge191 (.int .u32 0)).setCell (p := ⟨b191, 4, none⟩) hge191 (.int .i64 0)).setCell (p := ⟨b191, 5, none⟩) hge191 (.int .i64 0))
              generalize ((((((W191.setCell ⟨b191, 0, none⟩ (.int .u32 0)).setCell ⟨b191, 1, none⟩ (.int .u32 0)).setCell ⟨b191, 2, none⟩ (.int .u32 0)).setCell ⟨b191, 3, none⟩ (.int .u32 0)).setCell ⟨b191, 4, none⟩ (.int .i64 0)).setCell ⟨b191, 5, none⟩ (.int .i64 0)) = W192 at *
              refine hK.out _ _ (hkS _ hB192') (fun hHeld => ?_)
              clear hK K
              try simp only [List.getElem_toArray, List.getElem_cons_succ, List.getElem_cons_zero, Act.put, List.setIfInBounds_toArray, List.set_cons_zero, List.set_cons_succ]
              refine wpAnyH_ready (rs := [13]) (by kernel_rfl) (by simp) ?_
              refine AllReadyH.cons (o := _) rfl (fun K hK => ?_) AllReadyH.nil
              have z193_0 := hX192.cell (j := 0) (v := .int .i64 0) rfl
              have y193_0 := hX192.fz 0
              have z193_1 := hX192.cell (j := 1) (v := .slice none 0 0) rfl
              have y193_1 := hX192.fz 1
              have z193_2 := hX192.cell (j := 2) (v := .slice none 0 0) rfl
              have y193_2 := hX192.fz 2
              go_simp
              clear z193_0 y193_0 z193_1 y193_1 z193_2 y193_2
              have hX193 : Box 38 b190 [.int .i64 0, .slice none 0 0, .slice none 0 0] (((W192.setCell ⟨b190, 0, none⟩ (.int .i64 0)).setCell ⟨b190, 1, none⟩ (.slice none 0 0)).setCell ⟨b190, 2, none⟩ (.slice none 0 0)) := (((hX192.set 0 (.int .i64 0)).set 1 (.slice none 0 0)).set 2 (.slice none 0 0))
              have hA193 := (((hA192.far (a := ⟨b190, 0, none⟩) (Ne.symm hne191) (.int .i64 0)).far (a := ⟨b190, 1, none⟩) (Ne.symm hne191) (.slice none 0 0)).far (a := ⟨b190, 2, none⟩) (Ne.symm hne191) (.slice none 0 0))
              have hB193' := (((hB192'.setCell (p := ⟨b190, 0, none⟩) hge190 (.int .i64 0)).setCell (p := ⟨b190, 1, none⟩) hge190 (.slice none 0 0)).setCell (p := ⟨b190, 2, none⟩) hge190 (.slice none 0 0))
              generalize (((W192.setCell ⟨b190, 0, none⟩ (.int .i64 0)).setCell ⟨b190, 1, none⟩ (.slice none 0 0)).setCell ⟨b190, 2, none⟩ (.slice none 0 0)) = W193 at *
              refine hK.out _ _ (hkS _ hB193') (fun hHeld => ?_)
              clear hK K
              try simp only [List.getElem_toArray, List.getElem_cons_succ, List.getElem_cons_zero, Act.put, List.setIfInBounds_toArray, List.set_cons_zero, List.set_cons_succ]
              refine wpAnyH_take (i := 14) (oi := _) (v := ?vvq194) rfl (by kernel_rfl) (by kernel_rfl) (by kernel_rfl) (fun _ _ _ h => h) (Or.inl ⟨by kernel_rfl, ?hyq194⟩) hHeld ?restq194
              case hyq194 => intro w hSw; (try dsimp only at hSw); (try go_split_ands); go_simp; try with_reducible rfl
              try simp only [List.getElem_toArray, List.getElem_cons_succ, List.getElem_cons_zero, Act.put, List.setIfInBounds_toArray, List.set_cons_zero, List.set_cons_succ]
              refine wpAnyH_done (by kernel_rfl) ?_ _
              go_wp2_with fail
              go_meet
              exact ⟨b191, b190, rfl, rfl, rfl, hA193, hX193, hB193'⟩
          refine AllReadyH.cons (o := _) rfl (fun K hK => ?_) ?_
          · go_simp
            have hF195 := Box.new 30 [.int .u32 0, .int .u32 0, .int .u32 0, .int .u32 0, .int .i64 0, .int .i64 0] W0
            have hB195' := hB0.alloc hB0.size (.cells #[.int .u32 0, .int .u32 0, .int .u32 0, .int .u32 0, .int .i64 0, .int .i64 0] 30)
            have hge195 := hB0.size
            generalize W0.alloc (.cells #[.int .u32 0, .int .u32 0, .int .u32 0, .int .u32 0, .int .i64 0, .int .i64 0] 30) = W195 at *
            generalize W0.heap.size = b195 at *
            refine hK.out _ _ (hkS _ hB195') (fun hHeld => ?_)
            clear hK K
            try simp only [List.getElem_toArray, List.getElem_cons_succ, List.getElem_cons_zero, Act.put, List.setIfInBounds_toArray, List.set_cons_zero, List.set_cons_succ]
            refine wpAnyH_ready (rs := [5, 11]) (by kernel_rfl) (by simp) ?_
            refine AllReadyH.cons (o := _) rfl (fun K hK => ?_) ?_
            · go_simp
              refine (cuse_no s m 0 0 1 W195 hs (hT0.below hB195') (by decide) (by decide) HH.out).mono ?_
              rintro e W196 ⟨rfl, hD196⟩
              go_wp2_with fail
              have hB196' := hB195'.trans (hD196.mono hB195'.size)
              have hA196 := hF195.on hD196
              refine hK.out _ _ (hkS _ hB196') (fun hHeld => ?_)
              clear hK K
              try simp only [List.getElem_toArray, List.getElem_cons_succ, List.getElem_cons_zero, Act.put, List.setIfInBounds_toArray, List.set_cons_zero, List.set_cons_succ]
              refine wpAnyH_take (i := 6) (oi := _) (v := ?vvq197) rfl (by kernel_rfl) (by kernel_rfl) (by kernel_rfl) (fun _ _ _ h => h) (Or.inl ⟨by kernel_rfl, ?hyq197⟩) hHeld ?restq197
              case hyq197 => intro w hSw; (try dsimp only at hSw); (try go_split_ands); go_simp; try with_reducible rfl
              try simp only [List.getElem_toArray, List.getElem_cons_succ, List.getElem_cons_zero, Act.put, List.setIfInBounds_toArray, List.set_cons_zero, List.set_cons_succ]
              refine wpAnyH_take (i := 7) (oi := _) (v := ?vvq198) rfl (by kernel_rfl) (by kernel_rfl) (by kernel_rfl) (fun _ _ _ h => h) (Or.inl ⟨by kernel_rfl, ?hyq198⟩) hHeld ?restq198
              case hyq198 => intro w hSw; (try dsimp only at hSw); (try go_split_ands); go_simp; try with_reducible rfl
              try simp only [List.getElem_toArray, List.getElem_cons_succ, List.getElem_cons_zero, Act.put, List.setIfInBounds_toArray, List.set_cons_zero, List.set_cons_succ]
              refine wpAnyH_take (i := 8) (oi := _) (v := ?vvq199) rfl (by kernel_rfl) (by kernel_rfl) (by kernel_rfl) (fun _ _ _ h => h) (Or.inl ⟨by kernel_rfl, ?hyq199⟩) hHeld ?restq199
              case hyq199 => intro w hSw; (try dsimp only at hSw); (try go_split_ands); go_simp; try with_reducible rfl
              try simp only [List.getElem_toArray, List.getElem_cons_succ, List.getElem_cons_zero, Act.put, List.setIfInBounds_toArray, List.set_cons_zero, List.set_cons_succ]
              refine wpAnyH_take (i := 9) (oi := _) (v := ?vvq200) rfl (by kernel_rfl) (by kernel_rfl) (by kernel_rfl) (fun _ _ _ h => h) (Or.inl ⟨by kernel_rfl, ?hyq200⟩) hHeld ?restq200
              case hyq200 => intro w hSw; (try dsimp only at hSw); (try go_split_ands); go_simp; try with_reducible rfl
              try simp only [List.getElem_toArray, List.getElem_cons_succ, List.getElem_cons_zero, Act.put, List.setIfInBounds_toArray, List.set_cons_zero, List.set_cons_succ]
              refine wpAnyH_ready (rs := [11]) (by kernel_rfl) (by simp) ?_
              refine AllReadyH.cons (o := _) rfl (fun K hK => ?_) AllReadyH.nil
              go_simp
              have hF201 := Box.new 38 [.int .i64 0, .slice none 0 0, .slice none 0 0] W196
              have hB201' := hB196'.alloc hB196'.size (.cells #[.int .i64 0, .slice none 0 0, .slice none 0 0] 38)
              have hge201 := hB196'.size
              have hO201 := hA196.al (.cells #[.int .i64 0, .slice none 0 0, .slice none 0 0] 38)
              have hne201 : b195 ≠ W196.heap.size := Nat.ne_of_lt hA196.lt
              generalize W196.alloc (.cells #[.int .i64 0, .slice none 0 0, .slice none 0 0] 38) = W201 at *
              generalize W196.heap.size = b201 at *
              refine hK.out _ _ (hkS _ hB201') (fun hHeld => ?_)
              clear hK K
              try simp only [List.getElem_toArray, List.getElem_cons_succ, List.getElem_cons_zero, Act.put, List.setIfInBounds_toArray, List.set_cons_zero, List.set_cons_succ]
              refine wpAnyH_ready (rs := [12]) (by kernel_rfl) (by simp) ?_
              refine AllReadyH.cons (o := _) rfl (fun K hK => ?_) AllReadyH.nil
              have z202_0 := hO201.cell (j := 0) (v := .int .u32 0) rfl
              have y202_0 := hO201.fz 0
              have z202_1 := hO201.cell (j := 1) (v := .int .u32 0) rfl
              have y202_1 := hO201.fz 1
              have z202_2 := hO201.cell (j := 2) (v := .int .u32 0) rfl
              have y202_2 := hO201.fz 2
              have z202_3 := hO201.cell (j := 3) (v := .int .u32 0) rfl
              have y202_3 := hO201.fz 3
              have z202_4 := hO201.cell (j := 4) (v := .int .i64 0) rfl
              have y202_4 := hO201.fz 4
              have z202_5 := hO201.cell (j := 5) (v := .int .i64 0) rfl
              have y202_5 := hO201.fz 5
              go_simp
              clear z202_0 y202_0 z202_1 y202_1 z202_2 y202_2 z202_3 y202_3 z202_4 y202_4 z202_5 y202_5
              have hA202 : Box 30 b195 [.int .u32 0, .int .u32 0, .int .u32 0, .int .u32 0, .int .i64 0, .int .i64 0] ((((((W201.setCell ⟨b195, 0, none⟩ (.int .u32 0)).setCell ⟨b195, 1, none⟩ (.int .u32 0)).setCell ⟨b195, 2, none⟩ (.int .u32 0)).setCell ⟨b195, 3, none⟩ (.int .u32 0)).setCell ⟨b195, 4, none⟩ (.int .i64 0)).setCell ⟨b195, 5, none⟩ (.int .i64 0)) := ((((((hO201.set 0 (.int .u32 0)).set 1 (.int .u32 0)).set 2 (.int .u32 0)).set 3 (.int .u32 0)).set 4 (.int .i64 0)).set 5 (.int .i64 0))
              have hX202 := ((((((hF201.far (a := ⟨b195, 0, none⟩) (Ne.symm hne201) (.int .u32 0)).far (a := ⟨b195, 1, none⟩) (Ne.symm hne201) (.int .u32 0)).far (a := ⟨b195, 2, none⟩) (Ne.symm hne201) (.int .u32 0)).far (a := ⟨b195, 3, none⟩) (Ne.symm hne201) (.int .u32 0)).far (a := ⟨b195, 4, none⟩) (Ne.symm hne201) (.int .i64 0)).far (a := ⟨b195, 5, none⟩) (Ne.symm hne201) (.int .i64 0))
              have hB202' := ((((((hB201'.setCell (p := ⟨b195, 0, none⟩) hge195 (.int .u32 0)).setCell (p := ⟨b195, 1, none⟩) hge195 (.int .u32 0)).setCell (p := ⟨b195, 2, none⟩) hge195 (.int .u32 0)).setCell (p := ⟨b195, 3, none⟩) hge195 (.int .u32 0)).setCell (p := ⟨b195, 4, none⟩) hge195 (.int .i64 0)).setCell (p := ⟨b195, 5, none⟩) hge195 (.int .i64 0))
              generalize ((((((W201.setCell ⟨b195, 0, none⟩ (.int .u32 0)).setCell ⟨b195, 1, none⟩ (.int .u32 0)).setCell ⟨b195, 2, none⟩ (.int .u32 0)).setCell ⟨b195, 3, none⟩ (.int .u32 0)).setCell ⟨b195, 4, none⟩ (.int .i64 0)).setCell ⟨b195, 5, none⟩ (.int .i64 0)) = W202 at *
              refine hK.out _ _ (hkS _ hB202') (fun hHeld => ?_)
              clear hK K
              try simp only [List.getElem_toArray, List.getElem_cons_succ, List.getElem_cons_zero, Act.put, List.setIfInBounds_toArray, List.set_cons_zero, List.set_cons_succ]
              refine wpAnyH_ready (rs := [13]) (by kernel_rfl) (by simp) ?_
              refine AllReadyH.cons (o := _) rfl (fun K hK => ?_) AllReadyH.nil
              have z203_0 := hX202.cell (j := 0) (v := .int .i64 0) rfl
              have y203_0 := hX202.fz 0
              have z203_1 := hX202.cell (j := 1) (v := .slice none 0 0) rfl
              have y203_1 := hX202.fz 1
              have z203_2 := hX202.cell (j := 2) (v := .slice none 0 0) rfl
              have y203_2 := hX202.fz 2
              go_simp
              clear z203_0 y203_0 z203_1 y203_1 z203_2 y203_2
              have hX203 : Box 38 b201 [.int .i64 0, .slice none 0 0, .slice none 0 0] (((W202.setCell ⟨b201, 0, none⟩ (.int .i64 0)).setCell ⟨b201, 1, none⟩ (.slice none 0 0)).setCell ⟨b201, 2, none⟩ (.slice none 0 0)) := (((hX202.set 0 (.int .i64 0)).set 1 (.slice none 0 0)).set 2 (.slice none 0 0))
              have hA203 := (((hA202.far (a := ⟨b201, 0, none⟩) hne201 (.int .i64 0)).far (a := ⟨b201, 1, none⟩) hne201 (.slice none 0 0)).far (a := ⟨b201, 2, none⟩) hne201 (.slice none 0 0))
              have hB203' := (((hB202'.setCell (p := ⟨b201, 0, none⟩) hge201 (.int .i64 0)).setCell (p := ⟨b201, 1, none⟩) hge201 (.slice none 0 0)).setCell (p := ⟨b201, 2, none⟩) hge201 (.slice none 0 0))
              generalize (((W202.setCell ⟨b201, 0, none⟩ (.int .i64 0)).setCell ⟨b201, 1, none⟩ (.slice none 0 0)).setCell ⟨b201, 2, none⟩ (.slice none 0 0)) = W203 at *
              refine hK.out _ _ (hkS _ hB203') (fun hHeld => ?_)
              clear hK K
              try simp only [List.getElem_toArray, List.getElem_cons_succ, List.getElem_cons_zero, Act.put, List.setIfInBounds_toArray, List.set_cons_zero, List.set_cons_succ]
              refine wpAnyH_take (i := 14) (oi := _) (v := ?vvq204) rfl (by kernel_rfl) (by kernel_rfl) (by kernel_rfl) (fun _ _ _ h => h) (Or.inl ⟨by kernel_rfl, ?hyq204⟩) hHeld ?restq204
              case hyq204 => intro w hSw; (try dsimp only at hSw); (try go_split_ands); go_simp; try with_reducible rfl
              try simp only [List.getElem_toArray, List.getElem_cons_succ, List.getElem_cons_zero, Act.put, List.setIfInBounds_toArray, List.set_cons_zero, List.set_cons_succ]
              refine wpAnyH_done (by kernel_rfl) ?_ _
              go_wp2_with fail
              go_meet
              exact ⟨b195, b201, rfl, rfl, rfl, hA203, hX203, hB203'⟩
            refine AllReadyH.cons (o := _) rfl (fun K hK => ?_) AllReadyH.nil
            · go_simp
              have hF205 := Box.new 38 [.int .i64 0, .slice none 0 0, .slice none 0 0] W195
              have hB205' := hB195'.alloc hB195'.size (.cells #[.int .i64 0, .slice none 0 0, .slice none 0 0] 38)
              have hge205 := hB195'.size
              have hO205 := hF195.al (.cells #[.int .i64 0, .slice none 0 0, .slice none 0 0] 38)
              have hne205 : b195 ≠ W195.heap.size := Nat.ne_of_lt hF195.lt
              generalize W195.alloc (.cells #[.int .i64 0, .slice none 0 0, .slice none 0 0] 38) = W205 at *
              generalize W195.heap.size = b205 at *
              refine hK.out _ _ (hkS _ hB205') (fun hHeld => ?_)
              clear hK K
              try simp only [List.getElem_toArray, List.getElem_cons_succ, List.getElem_cons_zero, Act.put, List.setIfInBounds_toArray, List.set_cons_zero, List.set_cons_succ]
              refine wpAnyH_ready (rs := [5]) (by kernel_rfl) (by simp) ?_
              refine AllReadyH.cons (o := _) rfl (fun K hK => ?_) AllReadyH.nil
              go_simp
              refine (cuse_no s m 0 0 1 W205 hs (hT0.below hB205') (by decide) (by decide) HH.out).mono ?_
              rintro e W206 ⟨rfl, hD206⟩
              go_wp2_with fail
              have hB206' := hB205'.trans (hD206.mono hB205'.size)
              have hA206 := hO205.on hD206
              have hX206 := hF205.on hD206
              refine hK.out _ _ (hkS _ hB206') (fun hHeld => ?_)
              clear hK K
              try simp only [List.getElem_toArray, List.getElem_cons_succ, List.getElem_cons_zero, Act.put, List.setIfInBounds_toArray, List.set_cons_zero, List.set_cons_succ]
              refine wpAnyH_take (i := 6) (oi := _) (v := ?vvq207) rfl (by kernel_rfl) (by kernel_rfl) (by kernel_rfl) (fun _ _ _ h => h) (Or.inl ⟨by kernel_rfl, ?hyq207⟩) hHeld ?restq207
              case hyq207 => intro w hSw; (try dsimp only at hSw); (try go_split_ands); go_simp; try with_reducible rfl
              try simp only [List.getElem_toArray, List.getElem_cons_succ, List.getElem_cons_zero, Act.put, List.setIfInBounds_toArray, List.set_cons_zero, List.set_cons_succ]
              refine wpAnyH_take (i := 7) (oi := _) (v := ?vvq208) rfl (by kernel_rfl) (by kernel_rfl) (by kernel_rfl) (fun _ _ _ h => h) (Or.inl ⟨by kernel_rfl, ?hyq208⟩) hHeld ?restq208
              case hyq208 => intro w hSw; (try dsimp only at hSw); (try go_split_ands); go_simp; try with_reducible rfl
              try simp only [List.getElem_toArray, List.getElem_cons_succ, List.getElem_cons_zero, Act.put, List.setIfInBounds_toArray, List.set_cons_zero, List.set_cons_succ]
              refine wpAnyH_take (i := 8) (oi := _) (v := ?vvq209) rfl (by kernel_rfl) (by kernel_rfl) (by kernel_rfl) (fun _ _ _ h => h) (Or.inl ⟨by kernel_rfl, ?hyq209⟩) hHeld ?restq209
              case hyq209 => intro w hSw; (try dsimp only at hSw); (try go_split_ands); go_simp; try with_reducible rfl
              try simp only [List.getElem_toArray, List.getElem_cons_succ, List.getElem_cons_zero, Act.put, List.setIfInBounds_toArray, List.set_cons_zero, List.set_cons_succ]
              refine wpAnyH_take (i := 9) (oi := _) (v := ?vvq210) rfl (by kernel_rfl) (by kernel_rfl) (by kernel_rfl) (fun _ _ _ h => h) (Or.inl ⟨by kernel_rfl, ?hyq210⟩) hHeld ?restq210
              case hyq210 => intro w hSw; (try dsimp only at hSw); (try go_split_ands); go_simp; try with_reducible rfl
              try simp only [List.getElem_toArray, List.getElem_cons_succ, List.getElem_cons_zero, Act.put, List.setIfInBounds_toArray, List.set_cons_zero, List.set_cons_succ]
              refine wpAnyH_ready (rs := [12]) (by kernel_rfl) (by simp) ?_
              refine AllReadyH.cons (o := _) rfl (fun K hK => ?_) AllReadyH.nil
              have z211_0 := hA206.cell (j := 0) (v := .int .u32 0) rfl
              have y211_0 := hA206.fz 0
              have z211_1 := hA206.cell (j := 1) (v := .int .u32 0) rfl
              have y211_1 := hA206.fz 1
              have z211_2 := hA206.cell (j := 2) (v := .int .u32 0) rfl
              have y211_2 := hA206.fz 2
              have z211_3 := hA206.cell (j := 3) (v := .int .u32 0) rfl
              have y211_3 := hA206.fz 3
              have z211_4 := hA206.cell (j := 4) (v := .int .i64 0) rfl
              have y211_4 := hA206.fz 4
              have z211_5 := hA206.cell (j := 5) (v := .int .i64 0) rfl
              have y211_5 := hA206.fz 5
              go_simp
              clear z211_0 y211_0 z211_1 y211_1 z211_2 y211_2 z211_3 y211_3 z211_4 y211_4 z211_5 y211_5
              have hA211 : Box 30 b195 [.int .u32 0, .int .u32 0, .int .u32 0, .int .u32 0, .int .i64 0, .int .i64 0] ((((((W206.setCell ⟨b195, 0, none⟩ (.int .u32 0)).setCell ⟨b195, 1, none⟩ (.int .u32 0)).setCell ⟨b195, 2, none⟩ (.int .u32 0)).setCell ⟨b195, 3, none⟩ (.int .u32 0)).setCell ⟨b195, 4, none⟩ (.int .i64 0)).setCell ⟨b195, 5, none⟩ (.int .i64 0)) := ((((((hA206.set 0 (.int .u32 0)).set 1 (.int .u32 0)).set 2 (.int .u32 0)).set 3 (.int .u32 0)).set 4 (.int .i64 0)).set 5 (.int .i64 0))
              have hX211 := ((((((hX206.far (a := ⟨b195, 0, none⟩) (Ne.symm hne205) (.int .u32 0)).far (a := ⟨b195, 1, none⟩) (Ne.symm hne205) (.int .u32 0)).far (a := ⟨b195, 2, none⟩) (Ne.symm hne205) (.int .u32 0)).far (a := ⟨b195, 3, none⟩) (Ne.symm hne205) (.int .u32 0)).far (a := ⟨b195, 4, none⟩) (Ne.symm hne205) (.int .i64 0)).far (a := ⟨b195, 5, none⟩) (Ne.symm hne205) (.int .i64 0))
              have hB211' := ((((((hB206'.setCell (p := ⟨b195, 0, none⟩) hge195 (.int .u32 0)).setCell (p := ⟨b195, 1, none⟩) hge195 (.int .u32 0)).setCell (p := ⟨b195, 2, none⟩) hge195 (.int .u32 0)).setCell (p := ⟨b195, 3, none⟩) hge195 (.int .u32 0)).setCell (p := ⟨b195, 4, none⟩) hge195 (.int .i64 0)).setCell (p := ⟨b195, 5, none⟩) hge195 (.int .i64 0))
              generalize ((((((W206.setCell ⟨b195, 0, none⟩ (.int .u32 0)).setCell ⟨b195, 1, none⟩ (.int .u32 0)).setCell ⟨b195, 2, none⟩ (.int .u32 0)).setCell ⟨b195, 3, none⟩ (.int .u32 0)).setCell ⟨b195, 4, none⟩ (.int .i64 0)).setCell ⟨b195, 5, none⟩ (.int .i64 0)) = W211 at *
              refine hK.out _ _ (hkS _ hB211') (fun hHeld => ?_)
              clear hK K
              try simp only [List.getElem_toArray, List.getElem_cons_succ, List.getElem_cons_zero, Act.put, List.setIfInBounds_toArray, List.set_cons_zero, List.set_cons_succ]
              refine wpAnyH_ready (rs := [13]) (by kernel_rfl) (by simp) ?_
              refine AllReadyH.cons (o := _) rfl (fun K hK => ?_) AllReadyH.nil
              have z212_0 := hX211.cell (j := 0) (v := .int .i64 0) rfl
              have y212_0 := hX211.fz 0
              have z212_1 := hX211.cell (j := 1) (v := .slice none 0 0) rfl
              have y212_1 := hX211.fz 1
              have z212_2 := hX211.cell (j := 2) (v := .slice none 0 0) rfl
              have y212_2 := hX211.fz 2
              go_simp
              clear z212_0 y212_0 z212_1 y212_1 z212_2 y212_2
              have hX212 : Box 38 b205 [.int .i64 0, .slice none 0 0, .slice none 0 0] (((W211.setCell ⟨b205, 0, none⟩ (.int .i64 0)).setCell ⟨b205, 1, none⟩ (.slice none 0 0)).setCell ⟨b205, 2, none⟩ (.slice none 0 0)) := (((hX211.set 0 (.int .i64 0)).set 1 (.slice none 0 0)).set 2 (.slice none 0 0))
              have hA212 := (((hA211.far (a := ⟨b205, 0, none⟩) hne205 (.int .i64 0)).far (a := ⟨b205, 1, none⟩) hne205 (.slice none 0 0)).far (a := ⟨b205, 2, none⟩) hne205 (.slice none 0 0))
              have hB212' := (((hB211'.setCell (p := ⟨b205, 0, none⟩) hge205 (.int .i64 0)).setCell (p := ⟨b205, 1, none⟩) hge205 (.slice none 0 0)).setCell (p := ⟨b205, 2, none⟩) hge205 (.slice none 0 0))
              generalize (((W211.setCell ⟨b205, 0, none⟩ (.int .i64 0)).setCell ⟨b205, 1, none⟩ (.slice none 0 0)).setCell ⟨b205, 2, none⟩ (.slice none 0 0)) = W212 at *
              refine hK.out _ _ (hkS _ hB212') (fun hHeld => ?_)
              clear hK K
              try simp only [List.getElem_toArray, List.getElem_cons_succ, List.getElem_cons_zero, Act.put, List.setIfInBounds_toArray, List.set_cons_zero, List.set_cons_succ]
              refine wpAnyH_take (i := 14) (oi := _) (v := ?vvq213) rfl (by kernel_rfl) (by kernel_rfl) (by kernel_rfl) (fun _ _ _ h => h) (Or.inl ⟨by kernel_rfl, ?hyq213⟩) hHeld ?restq213
              case hyq213 => intro w hSw; (try dsimp only at hSw); (try go_split_ands); go_simp; try with_reducible rfl
              try simp only [List.getElem_toArray, List.getElem_cons_succ, List.getElem_cons_zero, Act.put, List.setIfInBounds_toArray, List.set_cons_zero, List.set_cons_succ]
              refine wpAnyH_done (by kernel_rfl) ?_ _
              go_wp2_with fail
              go_meet
              exact ⟨b195, b205, rfl, rfl, rfl, hA212, hX212, hB212'⟩
          refine AllReadyH.cons (o := _) rfl (fun K hK => ?_) AllReadyH.nil
          · go_simp
            have hF214 := Box.new 38 [.int .i64 0, .slice none 0 0, .slice none 0 0] W0
            have hB214' := hB0.alloc hB0.size (.cells #[.int .i64 0, .slice none 0 0, .slice none 0 0] 38)
            have hge214 := hB0.size
            generalize W0.alloc (.cells #[.int .i64 0, .slice none 0 0, .slice none 0 0] 38) = W214 at *
            generalize W0.heap.size = b214 at *
            refine hK.out _ _ (hkS _ hB214') (fun hHeld => ?_)
            clear hK K
            try simp only [List.getElem_toArray, List.getElem_cons_succ, List.getElem_cons_zero, Act.put, List.setIfInBounds_toArray, List.set_cons_zero, List.set_cons_succ]
            refine wpAnyH_ready (rs := [5, 10]) (by kernel_rfl) (by simp) ?_
            refine AllReadyH.cons (o := _) rfl (fun K hK => ?_) ?_
            · go_simp
              refine (cuse_no s m 0 0 1 W214 hs (hT0.below hB214') (by decide) (by decide) HH.out).mono ?_
              rintro e W215 ⟨rfl, hD215⟩
              go_wp2_with fail
              have hB215' := hB214'.trans (hD215.mono hB214'.size)
              have hX215 := hF214.on hD215
              refine hK.out _ _ (hkS _ hB215') (fun hHeld => ?_)
              clear hK K
              try simp only [List.getElem_toArray, List.getElem_cons_succ, List.getElem_cons_zero, Act.put, List.setIfInBounds_toArray, List.set_cons_zero, List.set_cons_succ]
              refine wpAnyH_take (i := 6) (oi := _) (v := ?vvq216) rfl (by kernel_rfl) (by kernel_rfl) (by kernel_rfl) (fun _ _ _ h => h) (Or.inl ⟨by kernel_rfl, ?hyq216⟩) hHeld ?restq216
              case hyq216 => intro w hSw; (try dsimp only at hSw); (try go_split_ands); go_simp; try with_reducible rfl
              try simp only [List.getElem_toArray, List.getElem_cons_succ, List.getElem_cons_zero, Act.put, List.setIfInBounds_toArray, List.set_cons_zero, List.set_cons_succ]
              refine wpAnyH_take (i := 7) (oi := _) (v := ?vvq217) rfl (by kernel_rfl) (by kernel_rfl) (by kernel_rfl) (fun _ _ _ h => h) (Or.inl ⟨by kernel_rfl, ?hyq217⟩) hHeld ?restq217
              case hyq217 => intro w hSw; (try dsimp only at hSw); (try go_split_ands); go_simp; try with_reducible rfl
              try simp only [List.getElem_toArray, List.getElem_cons_succ, List.getElem_cons_zero, Act.put, List.setIfInBounds_toArray, List.set_cons_zero, List.set_cons_succ]
              refine wpAnyH_take (i := 8) (oi := _) (v := ?vvq218) rfl (by kernel_rfl) (by kernel_rfl) (by kernel_rfl) (fun _ _ _ h => h) (Or.inl ⟨by kernel_rfl, ?hyq218⟩) hHeld ?restq218
              case hyq218 => intro w hSw; (try dsimp only at hSw); (try go_split_ands); go_simp; try with_reducible rfl
              try simp only [List.getElem_toArray, List.getElem_cons_succ, List.getElem_cons_zero, Act.put, List.setIfInBounds_toArray, List.set_cons_zero, List.set_cons_succ]
              refine wpAnyH_take (i := 9) (oi := _) (v := ?vvq219) rfl (by kernel_rfl) (by kernel_rfl) (by kernel_rfl) (fun _ _ _ h => h) (Or.inl ⟨by kernel_rfl, ?hyq219⟩) hHeld ?restq219
              case hyq219 => intro w hSw; (try dsimp only at hSw); (try go_split_ands); go_simp; try with_reducible rfl
              try simp only [List.getElem_toArray, List.getElem_cons_succ, List.getElem_cons_zero, Act.put, List.setIfInBounds_toArray, List.set_cons_zero, List.set_cons_succ]
              refine wpAnyH_ready (rs := [10]) (by kernel_rfl) (by simp) ?_
              refine AllReadyH.cons (o := _) rfl (fun K hK => ?_) AllReadyH.nil
              go_simp
              have hF220 := Box.new 30 [.int .u32 0, .int .u32 0, .int .u32 0, .int .u32 0, .int .i64 0, .int .i64 0] W215
              have hB220' := hB215'.alloc hB215'.size (.cells #[.int .u32 0, .int .u32 0, .int .u32 0, .int .u32 0, .int .i64 0, .int .i64 0] 30)
              have hge220 := hB215'.size
              have hO220 := hX215.al (.cells #[.int .u32 0, .int .u32 0, .int .u32 0, .int .u32 0, .int .i64 0, .int .i64 0] 30)
              have hne220 : b214 ≠ W215.heap.size := Nat.ne_of_lt hX215.lt
              generalize W215.alloc (.cells #[.int .u32 0, .int .u32 0, .int .u32 0, .int .u32 0, .int .i64 0, .int .i64 0] 30) = W220 at *
              generalize W215.heap.size = b220 at *
              refine hK.out _ _ (hkS _ hB220') (fun hHeld => ?_)
              clear hK K
              try simp only [List.getElem_toArray, List.getElem_cons_succ, List.getElem_cons_zero, Act.put, List.setIfInBounds_toArray, List.set_cons_zero, List.set_cons_succ]
              refine wpAnyH_ready (rs := [12]) (by kernel_rfl) (by simp) ?_
              refine AllReadyH.cons (o := _) rfl (fun K hK => ?_) AllReadyH.nil
              have z221_0 := hF220.cell (j := 0) (v := .int .u32 0) rfl
              have y221_0 := hF220.fz 0
              have z221_1 := hF220.cell (j := 1) (v := .int .u32 0) rfl
              have y221_1 := hF220.fz 1
              have z221_2 := hF220.cell (j := 2) (v := .int .u32 0) rfl
              have y221_2 := hF220.fz 2
              have z221_3 := hF220.cell (j := 3) (v := .int .u32 0) rfl
              have y221_3 := hF220.fz 3
              have z221_4 := hF220.cell (j := 4) (v := .int .i64 0) rfl
              have y221_4 := hF220.fz 4
              have z221_5 := hF220.cell (j := 5) (v := .int .i64 0) rfl
              have y221_5 := hF220.fz 5
              go_simp
              clear z221_0 y221_0 z221_1 y221_1 z221_2 y221_2 z221_3 y221_3 z221_4 y221_4 z221_5 y221_5
              have hA221 : Box 30 b220 [.int .u32 0, .int .u32 0, .int .u32 0, .int .u32 0, .int .i64 0, .int .i64 0] ((((((W220.setCell ⟨b220, 0, none⟩ (.int .u32 0)).setCell ⟨b220, 1, none⟩ (.int .u32 0)).setCell ⟨b220, 2, none⟩ (.int .u32 0)).setCell ⟨b220, 3, none⟩ (.int .u32 0)).setCell ⟨b220, 4, none⟩ (.int .i64 0)).setCell ⟨b220, 5, none⟩ (.int .i64 0)) := ((((((hF220.set 0 (.int .u32 0)).set 1 (.int .u32 0)).set 2 (.int .u32 0)).set 3 (.int .u32 0)).set 4 (.int .i64 0)).set 5 (.int .i64 0))
              have hX221 := ((((((hO220.far (a := ⟨b220, 0, none⟩) hne220 (.int .u32 0)).far (a := ⟨b220, 1, none⟩) hne220 (.int .u32 0)).far (a := ⟨b220, 2, none⟩) hne220 (.int .u32 0)).far (a := ⟨b220, 3, none⟩) hne220 (.int .u32 0)).far (a := ⟨b220, 4, none⟩) hne220 (.int .i64 0)).far (a := ⟨b220, 5, none⟩) hne220 (.int .i64 0))
              have hB221' := ((((((hB220'.setCell (p := ⟨b220, 0, none⟩) hge220 (.int .u32 0)).setCell (p := ⟨b220, 1, none⟩) hge220 (.int .u32 0)).setCell (p := ⟨b220, 2, none⟩) hge220 (.int .u32 0)).setCell (p := ⟨b220, 3, none⟩) hge220 (.int .u32 0)).setCell (p := ⟨b220, 4, none⟩) hge220 (.int .i64 0)).setCell (p := ⟨b220, 5, none⟩) hge220 (.int .i64 0))
              generalize ((((((W220.setCell ⟨b220, 0, none⟩ (.int .u32 0)).setCell ⟨b220, 1, none⟩ (.int .u32 0)).setCell ⟨b220, 2, none⟩ (.int .u32 0)).setCell ⟨b220, 3, none⟩ (.int .u32 0)).setCell ⟨b220, 4, none⟩ (.int .i64 0)).setCell ⟨b220, 5, none⟩ (.int .i64 0)) = W221 at *
              refine hK.out _ _ (hkS _ hB221') (fun hHeld => ?_)
              clear hK K
              try simp only [List.getElem_toArray, List.getElem_cons_succ, List.getElem_cons_zero, Act.put, List.setIfInBounds_toArray, List.set_cons_zero, List.set_cons_succ]
              refine wpAnyH_ready (rs := [13]) (by kernel_rfl) (by simp) ?_
              refine AllReadyH.cons (o := _) rfl (fun K hK => ?_) AllReadyH.nil
              have z222_0 := hX221.cell (j := 0) (v := .int .i64 0) rfl
              have y222_0 := hX221.fz 0
              have z222_1 := hX221.cell (j := 1) (v := .slice none 0 0) rfl
              have y222_1 := hX221.fz 1
              have z222_2 := hX221.cell (j := 2) (v := .slice none 0 0) rfl
              have y222_2 := hX221.fz 2
              go_simp
              clear z222_0 y222_0 z222_1 y222_1 z222_2 y222_2
              have hX222 : Box 38 b214 [.int .i64 0, .slice none 0 0, .slice none 0 0] (((W221.setCell ⟨b214, 0, none⟩ (.int .i64 0)).setCell ⟨b214, 1, none⟩ (.slice none 0 0)).setCell ⟨b214, 2, none⟩ (.slice none 0 0)) := (((hX221.set 0 (.int .i64 0)).set 1 (.slice none 0 0)).set 2 (.slice none 0 0))
              have hA222 := (((hA221.far (a := ⟨b214, 0, none⟩) (Ne.symm hne220) (.int .i64 0)).far (a := ⟨b214, 1, none⟩) (Ne.symm hne220) (.slice none 0 0)).far (a := ⟨b214, 2, none⟩) (Ne.symm hne220) (.slice none 0 0))
              have hB222' := (((hB221'.setCell (p := ⟨b214, 0, none⟩) hge214 (.int .i64 0)).setCell (p := ⟨b214, 1, none⟩) hge214 (.slice none 0 0)).setCell (p := ⟨b214, 2, none⟩) hge214 (.slice none 0 0))
              generalize (((W221.setCell ⟨b214, 0, none⟩ (.int .i64 0)).setCell ⟨b214, 1, none⟩ (.slice none 0 0)).setCell ⟨b214, 2, none⟩ (.slice none 0 0)) = W222 at *
              refine hK.out _ _ (hkS _ hB222') (fun hHeld => ?_)
              clear hK K
              try simp only [List.getElem_toArray, List.getElem_cons_succ, List.getElem_cons_zero, Act.put, List.setIfInBounds_toArray, List.set_cons_zero, List.set_cons_succ]
              refine wpAnyH_take (i := 14) (oi := _) (v := ?vvq223) rfl (by kernel_rfl) (by kernel_rfl) (by kernel_rfl) (fun _ _ _ h => h) (Or.inl ⟨by kernel_rfl, ?hyq223⟩) hHeld ?restq223
              case hyq223 => intro w hSw; (try dsimp only at hSw); (try go_split_ands); go_simp; try with_reducible rfl
              try simp only [List.getElem_toArray, List.getElem_cons_succ, List.getElem_cons_zero, Act.put, List.setIfInBounds_toArray, List.set_cons_zero, List.set_cons_succ]
              refine wpAnyH_done (by kernel_rfl) ?_ _
              go_wp2_with fail
              go_meet
              exact ⟨b220, b214, rfl, rfl, rfl, hA222, hX222, hB222'⟩
            refine AllReadyH.cons (o := _) rfl (fun K hK => ?_) AllReadyH.nil
            · go_simp
              have hF224 := Box.new 30 [.int .u32 0, .int .u32 0, .int .u32 0, .int .u32 0, .int .i64 0, .int .i64 0] W214
              have hB224' := hB214'.alloc hB214'.size (.cells #[.int .u32 0, .int .u32 0, .int .u32 0, .int .u32 0, .int .i64 0, .int .i64 0] 30)
              have hge224 := hB214'.size
              have hO224 := hF214.al (.cells #[.int .u32 0, .int .u32 0, .int .u32 0, .int .u32 0, .int .i64 0, .int .i64 0] 30)
              have hne224 : b214 ≠ W214.heap.size := Nat.ne_of_lt hF214.lt
              generalize W214.alloc (.cells #[.int .u32 0, .int .u32 0, .int .u32 0, .int .u32 0, .int .i64 0, .int .i64 0] 30) = W224 at *
              generalize W214.heap.size = b224 at *
              refine hK.out _ _ (hkS _ hB224') (fun hHeld => ?_)
              clear hK K
              try simp only [List.getElem_toArray, List.getElem_cons_succ, List.getElem_cons_zero, Act.put, List.setIfInBounds_toArray, List.set_cons_zero, List.set_cons_succ]
              refine wpAnyH_ready (rs := [5]) (by kernel_rfl) (by simp) ?_
              refine AllReadyH.cons (o := _) rfl (fun K hK => ?_) AllReadyH.nil
              go_simp
              refine (cuse_no s m 0 0 1 W224 hs (hT0.below hB224') (by decide) (by decide) HH.out).mono ?_
              rintro e W225 ⟨rfl, hD225⟩
              go_wp2_with fail
              have hB225' := hB224'.trans (hD225.mono hB224'.size)
              have hA225 := hF224.on hD225
              have hX225 := hO224.on hD225
              refine hK.out _ _ (hkS _ hB225') (fun hHeld => ?_)
              clear hK K
              try simp only [List.getElem_toArray, List.getElem_cons_succ, List.getElem_cons_zero, Act.put, List.setIfInBounds_toArray, List.set_cons_zero, List.set_cons_succ]
              refine wpAnyH_take (i := 6) (oi := _) (v := ?vvq226) rfl (by kernel_rfl) (by kernel_rfl) (by kernel_rfl) (fun _ _ _ h => h) (Or.inl ⟨by kernel_rfl, ?hyq226⟩) hHeld ?restq226
              case hyq226 => intro w hSw; (try dsimp only at hSw); (try go_split_ands); go_simp; try with_reducible rfl
              try simp only [List.getElem_toArray, List.getElem_cons_succ, List.getElem_cons_zero, Act.put, List.setIfInBounds_toArray, List.set_cons_zero, List.set_cons_succ]
              refine wpAnyH_take (i := 7) (oi := _) (v := ?vvq227) rfl (by kernel_rfl) (by kernel_rfl) (by kernel_rfl) (fun _ _ _ h => h) (Or.inl ⟨by kernel_rfl, ?hyq227⟩) hHeld ?restq227
              case hyq227 => intro w hSw; (try dsimp only at hSw); (try go_split_ands); go_simp; try with_reducible rfl
              try simp only [List.getElem_toArray, List.getElem_cons_succ, List.getElem_cons_zero, Act.put, List.setIfInBounds_toArray, List.set_cons_zero, List.set_cons_succ]
              refine wpAnyH_take (i := 8) (oi := _) (v := ?vvq228) rfl (by kernel_rfl) (by kernel_rfl) (by kernel_rfl) (fun _ _ _ h => h) (Or.inl ⟨by kernel_rfl, ?hyq228⟩) hHeld ?restq228
              case hyq228 => intro w hSw; (try dsimp only at hSw); (try go_split_ands); go_simp; try with_reducible rfl
              try simp only [List.getElem_toArray, List.getElem_cons_succ, List.getElem_cons_zero, Act.put, List.setIfInBounds_toArray, List.set_cons_zero, List.set_cons_succ]
              refine wpAnyH_take (i := 9) (oi := _) (v := ?vvq229) rfl (by kernel_rfl) (by kernel_rfl) (by kernel_rfl) (fun _ _ _ h => h) (Or.inl ⟨by kernel_rfl, ?hyq229⟩) hHeld ?restq229
              case hyq229 => intro w hSw; (try dsimp only at hSw); (try go_split_ands); go_simp; try with_reducible rfl
              try simp only [List.getElem_toArray, List.getElem_cons_succ, List.getElem_cons_zero, Act.put, List.setIfInBounds_toArray, List.set_cons_zero, List.set_cons_succ]
              refine wpAnyH_ready (rs := [12]) (by kernel_rfl) (by simp) ?_
              refine AllReadyH.cons (o := _) rfl (fun K hK => ?_) AllReadyH.nil
              have z230_0 := hA225.cell (j := 0) (v := .int .u32 0) rfl
              have y230_0 := hA225.fz 0
              have z230_1 := hA225.cell (j := 1) (v := .int .u32 0) rfl
              have y230_1 := hA225.fz 1
              have z230_2 := hA225.cell (j := 2) (v := .int .u32 0) rfl
              have y230_2 := hA225.fz 2
              have z230_3 := hA225.cell (j := 3) (v := .int .u32 0) rfl
              have y230_3 := hA225.fz 3
              have z230_4 := hA225.cell (j := 4) (v := .int .i64 0) rfl
              have y230_4 := hA225.fz 4
              have z230_5 := hA225.cell (j := 5) (v := .int .i64 0) rfl
              have y230_5 := hA225.fz 5
              go_simp
              clear z230_0 y230_0 z230_1 y230_1 z230_2 y230_2 z230_3 y230_3 z230_4 y230_4 z230_5 y230_5
              have hA230 : Box 30 b224 [.int .u32 0, .int .u32 0, .int .u32 0, .int .u32 0, .int .i64 0, .int .i64 0] ((((((W225.setCell ⟨b224, 0, none⟩ (.int .u32 0)).setCell ⟨b224, 1, none⟩ (.int .u32 0)).setCell ⟨b224, 2, none⟩ (.int .u32 0)).setCell ⟨b224, 3, none⟩ (.int .u32 0)).setCell ⟨b224, 4, none⟩ (.int .i64 0)).setCell ⟨b224, 5, none⟩ (.int .i64 0)) := ((((((hA225.set 0 (.int .u32 0)).set 1 (.int .u32 0)).set 2 (.int .u32 0)).set 3 (.int .u32 0)).set 4 (.int .i64 0)).set 5 (.int .i64 0))
              have hX230 := ((((((hX225.far (a := ⟨b224, 0, none⟩) hne224 (.int .u32 0)).far (a := ⟨b224, 1, none⟩) hne224 (.int .u32 0)).far (a := ⟨b224, 2, none⟩) hne224 (.int .u32 0)).far (a := ⟨b224, 3, none⟩) hne224 (.int .u32 0)).far (a := ⟨b224, 4, none⟩) hne224 (.int .i64 0)).far (a := ⟨b224, 5, none⟩) hne224 (.int .i64 0))
              have hB230' := ((((((hB225'.setCell (p := ⟨b224, 0, none⟩) hge224 (.int .u32 0)).setCell (p := ⟨b224, 1, none⟩) hge224 (.int .u32 0)).setCell (p := ⟨b224, 2, none⟩) hge224 (.int .u32 0)).setCell (p := ⟨b224, 3, none⟩) hge224 (.int .u32 0)).setCell (p := ⟨b224, 4, none⟩) hge224 (.int .i64 0)).setCell (p := ⟨b224, 5, none⟩) hge224 (.int .i64 0))
              generalize ((((((W225.setCell ⟨b224, 0, none⟩ (.int .u32 0)).setCell ⟨b224, 1, none⟩ (.int .u32 0)).setCell ⟨b224, 2, none⟩ (.int .u32 0)).setCell ⟨b224, 3, none⟩ (.int .u32 0)).setCell ⟨b224, 4, none⟩ (.int .i64 0)).setCell ⟨b224, 5, none⟩ (.int .i64 0)) = W230 at *
              refine hK.out _ _ (hkS _ hB230') (fun hHeld => ?_)
              clear hK K
              try simp only [List.getElem_toArray, List.getElem_cons_succ, List.getElem_cons_zero, Act.put, List.setIfInBounds_toArray, List.set_cons_zero, List.set_cons_succ]
              refine wpAnyH_ready (rs := [13]) (by kernel_rfl) (by simp) ?_
              refine AllReadyH.cons (o := _) rfl (fun K hK => ?_) AllReadyH.nil
              have z231_0 := hX230.cell (j := 0) (v := .int .i64 0) rfl
              have y231_0 := hX230.fz 0
              have z231_1 := hX230.cell (j := 1) (v := .slice none 0 0) rfl
              have y231_1 := hX230.fz 1
              have z231_2 := hX230.cell (j := 2) (v := .slice none 0 0) rfl
              have y231_2 := hX230.fz 2
              go_simp
              clear z231_0 y231_0 z231_1 y231_1 z231_2 y231_2
              have hX231 : Box 38 b214 [.int .i64 0, .slice none 0 0, .slice none 0 0] (((W230.setCell ⟨b214, 0, none⟩ (.int .i64 0)).setCell ⟨b214, 1, none⟩ (.slice none 0 0)).setCell ⟨b214, 2, none⟩ (.slice none 0 0)) := (((hX230.set 0 (.int .i64 0)).set 1 (.slice none 0 0)).set 2 (.slice none 0 0))
              have hA231 := (((hA230.far (a := ⟨b214, 0, none⟩) (Ne.symm hne224) (.int .i64 0)).far (a := ⟨b214, 1, none⟩) (Ne.symm hne224) (.slice none 0 0)).far (a := ⟨b214, 2, none⟩) (Ne.symm hne224) (.slice none 0 0))
              have hB231' := (((hB230'.setCell (p := ⟨b214, 0, none⟩) hge214 (.int .i64 0)).setCell (p := ⟨b214, 1, none⟩) hge214 (.slice none 0 0)).setCell (p := ⟨b214, 2, none⟩) hge214 (.slice none 0 0))
              generalize (((W230.setCell ⟨b214, 0, none⟩ (.int .i64 0)).setCell ⟨b214, 1, none⟩ (.slice none 0 0)).setCell ⟨b214, 2, none⟩ (.slice none 0 0)) = W231 at *
              refine hK.out _ _ (hkS _ hB231') (fun hHeld => ?_)
              clear hK K
              try simp only [List.getElem_toArray, List.getElem_cons_succ, List.getElem_cons_zero, Act.put, List.setIfInBounds_toArray, List.set_cons_zero, List.set_cons_succ]
              refine wpAnyH_take (i := 14) (oi := _) (v := ?vvq232) rfl (by kernel_rfl) (by kernel_rfl) (by kernel_rfl) (fun _ _ _ h => h) (Or.inl ⟨by kernel_rfl, ?hyq232⟩) hHeld ?restq232
              case hyq232 => intro w hSw; (try dsimp only at hSw); (try go_split_ands); go_simp; try with_reducible rfl
              try simp only [List.getElem_toArray, List.getElem_cons_succ, List.getElem_cons_zero, Act.put, List.setIfInBounds_toArray, List.set_cons_zero, List.set_cons_succ]
              refine wpAnyH_done (by kernel_rfl) ?_ _
              go_wp2_with fail
              go_meet
              exact ⟨b224, b214, rfl, rfl, rfl, hA231, hX231, hB231'⟩
        case rest =>
          obtain ⟨ba, bb, rfl, rfl, rfl, hA, hX, hD⟩ := hcut
          replace hN := hN.on hD
          replace hP := hP.on hD
          clear hrl
          replace hB := hB.trans (hD.mono hB.size)
          replace hT := hT.below hD
          have c0 := hA.cell (j := 0) (v := .int .u32 0) rfl
          have c1 := hA.cell (j := 1) (v := .int .u32 0) rfl
          have c2 := hA.cell (j := 2) (v := .int .u32 0) rfl
          have c3 := hA.cell (j := 3) (v := .int .u32 0) rfl
          have c4 := hA.cell (j := 4) (v := .int .i64 0) rfl
          have c5 := hA.cell (j := 5) (v := .int .i64 0) rfl
          go_wp2_with fail
          replace hN : Box 30 (w3.heap.size) [.int .u32 s.d0, .int .u32 s.d1, .int .u32 s.d2, .int .u32 s.d3, .int .i64 0, .int .i64 ((min (j + 1) 1 : Nat) : Int)] wc := by rw [show min (j + 1) 1 = 1 by omega]; exact hN
          go_roundg (n - (j + 1))
          case measure => omega
          case rel => exact ⟨j + 1, rfl, by omega, by go_num, hN, hP, hB⟩
    · have hjn : j = n := by omega
      subst hjn
      go_wp2_with fail
      go_ret
      exact ⟨rfl, hB⟩
end Go.Proofs.YtdphhpmkcalahaaDoor
