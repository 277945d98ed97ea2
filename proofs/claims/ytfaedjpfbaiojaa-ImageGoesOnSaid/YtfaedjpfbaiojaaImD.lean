/-
  The document's Read of bytes that are an image's (written by gen_imD.py).
-/
import Derived.Test.YtfaedjpfbaiojaaImC
import Derived.Deep.AppendLies
namespace Go.Proofs.Ytfaedjpfbaiojaa
open Go.RowKit

theorem rword_val (s : ByteArray) (k : Nat) (x : Int) (w : World) (h : k + 4 ≤ s.size) (hs : s.size ≤ 1000000) (hx : fw s[k] s[k+1] s[k+2] s[k+3] = x) : Calls Try.prog 25 #[.string s, .int .i64 (k : Int)] w fun e w' => e = .returned (.int .u32 x) ∧ Below w.heap.size w w' := by
  subst hx; exact rword_any s k w h hs
/-- The bytes of an image of these words. -/
structure ImgAt (s : ByteArray) (n : Nat) (d : Int) (xs : List Int) : Prop where
  sz : s.size = 12 + 4 * n
  hn : n ≤ 16384
  hd : 0 ≤ d ∧ d ≤ 32768
  b0 : (s[0]'(by omega)).toNat = 83
  b1 : (s[1]'(by omega)).toNat = 69
  b2 : (s[2]'(by omega)).toNat = 69
  b3 : (s[3]'(by omega)).toNat = 68
  nw : fw (s[4]'(by omega)) (s[5]'(by omega)) (s[6]'(by omega)) (s[7]'(by omega)) = (n : Int)
  dw : fw (s[8]'(by omega)) (s[9]'(by omega)) (s[10]'(by omega)) (s[11]'(by omega)) = d
  len : xs.length = n
  ws : ∀ (k : Nat) (h : k < n), fw (s[12 + 4 * k]'(by omega)) (s[12 + 4 * k + 1]'(by omega)) (s[12 + 4 * k + 2]'(by omega)) (s[12 + 4 * k + 3]'(by omega)) = xs.getD k 0
theorem OwnsW.on {B : Nat} {v : Value} {xs : List Int} {w w' : World} (h : OwnsW B v xs w) (hB : Below w.heap.size w w') : OwnsW B v xs w' :=
  World.ownsRow.kept (row := none) h ⟨hB.os, hB.tape, hB.output, hB.size, fun k hk _ => hB.block k hk⟩ (Classical.em _)
theorem OwnsW.put {B b : Nat} {v : Value} {xs : List Int} {w : World} (h : OwnsW B v xs w) (hb : b < B) (a : Addr) (ha : a.block = b) (u : Value) : OwnsW B v xs (w.setCell a u) := by
  have hne : v.ownBlock ≠ some b := fun e => by have := (World.ownsRow.lt h b e).1; omega
  exact World.ownsRow.kept (row := some b) h ⟨rfl, rfl, rfl, by simp [World.setCell], fun k _ hk => Below.heap_setCell _ _ _ _ (fun e => hk (by rw [← ha, e]))⟩ (Or.inr hne)
theorem OwnsW.snoc {B : Nat} {v : Value} {l : List Int} {x : Int} {w : World} (h : w.ownsRow B 35 1 v (l.length + 1) (wCells l ++ [.int .u32 x])) : OwnsW B v (l ++ [x]) w := by
  unfold OwnsW
  rw [List.length_append]
  have : wCells (l ++ [x]) = wCells l ++ [.int .u32 x] := by simp [wCells]
  rw [this]; exact h
theorem take_snocW (xs : List Int) (k : Nat) (h : k < xs.length) : xs.take (k + 1) = xs.take k ++ [xs.getD k 0] := by
  rw [List.take_add_one, List.getD_eq_getElem?_getD, List.getElem?_eq_getElem h]; rfl
set_option maxHeartbeats 8000000 in
set_option maxRecDepth 100000 in
theorem rread8_yes (s : ByteArray) (n : Nat) (d : Int) (xs : List Int) (w : World) (hI : ImgAt s n d xs) : Calls Try.prog 18 #[.string s] w fun e w' => (∃ p c, e = .returned (.tuple #[.agg #[.slice p n c, .int .i64 d], .int .i64 0]) ∧ RdW w' (.slice p n c) xs) ∧ Below w.heap.size w w' := by
  obtain ⟨hsz, hn, ⟨hd0, hd1⟩, b0, b1, b2, b3, hnw, hdw, hlen, hws⟩ := hI
  obtain ⟨i0, hi, hz0, hz1, hz2⟩ := info_parts info_u32
  have hsm : s.size ≤ 1000000 := by omega
  have HWS : Hid (∀ (k : Nat) (hk : k < n) (w : World), Calls Try.prog 25 #[.string s, .int .i64 (12 + 4 * (k : Int))] w fun e w' => e = .returned (.int .u32 (xs.getD k 0)) ∧ Below w.heap.size w w') := fun k hk w => by have h := rword_val s (12 + 4 * k) (xs.getD k 0) w (by omega) hsm (hws k hk); rw [show ((12 + 4 * k : Nat) : Int) = 12 + 4 * (k : Int) by omega] at h; exact h
  have HNW : Hid (∀ w : World, Calls Try.prog 25 #[.string s, .int .i64 4] w fun e w' => e = .returned (.int .u32 (n : Int)) ∧ Below w.heap.size w w') := fun w => rword_val s 4 n w (by omega) hsm hnw
  have HDW : Hid (∀ w : World, Calls Try.prog 25 #[.string s, .int .i64 8] w fun e w' => e = .returned (.int .u32 d) ∧ Below w.heap.size w w') := fun w => rword_val s 8 d w (by omega) hsm hdw
  have hl12 : decide ((s.size : Int) < 12) = false := decide_eq_false (by omega)
  have j0 : (0 : Int) < (s.size : Int) := by omega
  have j1 : (1 : Int) < (s.size : Int) := by omega
  have j2 : (2 : Int) < (s.size : Int) := by omega
  have j3 : (3 : Int) < (s.size : Int) := by omega
  have n0 : 0 < s.size := by omega
  have n1 : 1 < s.size := by omega
  have n2 : 2 < s.size := by omega
  have n3 : 3 < s.size := by omega
  have g1 : decide ((16384 : Int) < (n : Int)) = false := decide_eq_false (by omega)
  have g2 : decide ((32768 : Int) < d) = false := decide_eq_false (by omega)
  have g4 : ((s.size : Int) != 12 + 4 * (n : Int)) = false := by rw [bne_eq_false_iff_eq]; omega
  have g3 : ((s.size : Int) == 12 + 4 * (n : Int)) = true := by rw [beq_iff_eq]; omega
  have HSZ := Lib.hid hsz
  have HLN := Lib.hid hlen
  have HNN := Lib.hid hn
  have c0 : (s[0]'n0).toNat = 83 := b0
  have c1 : (s[1]'n1).toNat = 69 := b1
  have c2 : (s[2]'n2).toNat = 69 := b2
  have c3 : (s[3]'n3).toNat = 68 := b3
  clear b0 b1 b2 b3 hws hnw hdw hlen hsz
  obtain ⟨w1, hw1⟩ : ∃ w', w.alloc (.cells #[.slice none 0 0, .int .i64 0] 24) = w' := ⟨_, rfl⟩
  have hR : Box 24 w.heap.size [.slice none 0 0, .int .i64 0] w1 := by rw [← hw1]; exact Box.new 24 [.slice none 0 0, .int .i64 0] w
  have hD : Below w.heap.size w w1 := by rw [← hw1]; exact (Below.refl _ _).alloc (Nat.le_refl _) _
  have hB := hD
  clear hD
  go_enter Try.func18, Try.ntmps18
  go_wp2_with fail
  clear hw1
  refine (HNW.out w1).mono ?_
  rintro e w2 ⟨rfl, hD⟩
  replace hR := hR.on hD
  replace hB := hB.trans (hD.mono hB.size)
  clear hD
  go_wp2_with fail
  refine (HDW.out w2).mono ?_
  rintro e w3 ⟨rfl, hD⟩
  replace hR := hR.on hD
  replace hB := hB.trans (hD.mono hB.size)
  clear hD
  have hRM : w.heap.size < w3.heap.size := hR.lt
  obtain ⟨w4, hw4⟩ : ∃ w', w3.alloc (.cells #[.slice none 0 0, .int .i64 d] 24) = w' := ⟨_, rfl⟩
  have hM : Box 24 w3.heap.size [.slice none 0 0, .int .i64 d] w4 := by rw [← hw4]; exact Box.new 24 [.slice none 0 0, .int .i64 d] w3
  have hD : Below w3.heap.size w3 w4 := by rw [← hw4]; exact (Below.refl _ _).alloc (Nat.le_refl _) _
  replace hR := hR.on hD
  replace hB := hB.trans (hD.mono hB.size)
  clear hD
  have hbM := hM.lt
  go_wp2_with fail
  clear hw4
  have hbB : w3.heap.size < w4.heap.size := hM.lt
  have hO0 : OwnsW w4.heap.size (.slice none 0 0) (xs.take 0) w4 := World.ownsRow_nil _ _ _ _
  have hRl := hR.lt
  have hbw4 : w.heap.size ≤ w4.heap.size := Nat.le_of_lt hRl
  go_loopw [7] (fun i wr => ∃ (k : Nat) (v : Value), k ≤ n ∧ i = .int .i64 (k : Int) ∧ OwnsW w4.heap.size v (xs.take k) wr ∧ Box 24 w3.heap.size [v, .int .i64 d] wr ∧ Box 24 w.heap.size [.slice none 0 0, .int .i64 0] wr ∧ Below w.heap.size w wr ∧ w4.heap.size ≤ wr.heap.size) (fun i _ => n - (intOf i).toNat)
  case atStart => exact ⟨0, _, Nat.zero_le _, rfl, hO0, hM, hR, hB, Nat.le_refl _⟩
  case round =>
    clear hO0 hM hR hB
    obtain ⟨k, v, hk, rfl, hO, hM, hR, hB, hle⟩ := hrel
    by_cases hlt : k < n
    · have hkd : decide ((k : Int) < (n : Int)) = true := decide_eq_true (by omega)
      have hm0 := hM.cell (j := 0) (v := v) rfl
      have hm0' : wr.drew.cell? ⟨w3.heap.size, 0, none⟩ = some v := hm0
      have hf0 := hM.fz 0
      have hCW := HWS.out k hlt
      have hOl : (xs.take k).length = k := by rw [List.length_take, HLN.out]; omega
      obtain ⟨y, hy⟩ : ∃ y, xs.getD k 0 = y := ⟨_, rfl⟩
      rw [hy] at hCW
      have HCW := Lib.hid hCW
      have HY := Lib.hid hy
      clear hCW hy
      have q1 : IntKind.i64.wrap (4 * (k : Int)) = 4 * (k : Int) := IntWalk.i64_in _ (by omega)
      have q2 : IntKind.i64.wrap (12 + 4 * (k : Int)) = 12 + 4 * (k : Int) := IntWalk.i64_in _ (by omega)
      go_wp2_with fail
      have hOw : wr.drew.ownsRow w4.heap.size 35 1 v k (wCells (xs.take k)) := by have h := hO; unfold OwnsW at h; rw [hOl] at h; exact h
      have hMw : Box 24 w3.heap.size [v, .int .i64 d] wr.drew := hM
      have hRw : Box 24 w.heap.size [.slice none 0 0, .int .i64 0] wr.drew := hR
      have hBw : Below w.heap.size w wr.drew := hB.drew
      have hlw : w4.heap.size ≤ wr.drew.heap.size := hle
      have hHeld : True := trivial
      clear hO hM hR hB hle hm0 hm0' hf0
      refine wp_region_held_drew (S := fun _ => True) (by kernel_rfl) trivial (fun hHeld => ?_)
      generalize wr.drew = W0 at *
      refine wpAnyH_take (i := 0) (oi := _) (v := ?vvz1) rfl (by kernel_rfl) (by kernel_rfl) (by kernel_rfl) (fun _ _ _ h => h) (Or.inl ⟨by kernel_rfl, ?hyz1⟩) hHeld ?restz1
      case hyz1 => intro w hSw; go_simp; try with_reducible rfl
      try simp only [List.getElem_toArray, List.getElem_cons_zero, Act.put, List.setIfInBounds_toArray, List.set_cons_zero, List.set_cons_succ]
      refine wpAnyH_take (i := 2) (oi := _) (v := ?vvz2) rfl (by kernel_rfl) (by kernel_rfl) (by kernel_rfl) (fun _ _ _ h => h) (Or.inl ⟨by kernel_rfl, ?hyz2⟩) hHeld ?restz2
      case hyz2 => intro w hSw; go_simp; try with_reducible rfl
      try simp only [List.getElem_toArray, List.getElem_cons_succ, List.getElem_cons_zero, Act.put, List.setIfInBounds_toArray, List.set_cons_zero, List.set_cons_succ]
      refine wpAnyH_take (i := 3) (oi := _) (v := ?vvz3) rfl (by kernel_rfl) (by kernel_rfl) (by kernel_rfl) (fun _ _ _ h => h) (Or.inl ⟨by kernel_rfl, ?hyz3⟩) hHeld ?restz3
      case hyz3 => intro w hSw; go_simp; try with_reducible rfl
      try simp only [List.getElem_toArray, List.getElem_cons_succ, List.getElem_cons_zero, Act.put, List.setIfInBounds_toArray, List.set_cons_zero, List.set_cons_succ]
      refine wpAnyH_take (i := 4) (oi := _) (v := ?vvz4) rfl (by kernel_rfl) (by kernel_rfl) (by kernel_rfl) (fun _ _ _ h => h) (Or.inl ⟨by kernel_rfl, ?hyz4⟩) hHeld ?restz4
      case hyz4 => intro w hSw; go_simp; try with_reducible rfl
      try simp only [List.getElem_toArray, List.getElem_cons_succ, List.getElem_cons_zero, Act.put, List.setIfInBounds_toArray, List.set_cons_zero, List.set_cons_succ]
      refine wpAnyH_take (i := 5) (oi := _) (v := ?vvz5) rfl (by kernel_rfl) (by kernel_rfl) (by kernel_rfl) (fun _ _ _ h => h) (Or.inl ⟨by kernel_rfl, ?hyz5⟩) hHeld ?restz5
      case hyz5 => intro w hSw; go_simp; try with_reducible rfl
      try simp only [List.getElem_toArray, List.getElem_cons_succ, List.getElem_cons_zero, Act.put, List.setIfInBounds_toArray, List.set_cons_zero, List.set_cons_succ]
      refine wpAnyH_ready (rs := [1, 6]) (by kernel_rfl) (by simp) ?_
      refine AllReadyH.cons (o := _) rfl (fun K hK => ?_) ?_
      · have hm := hMw.cell (j := 0) (v := v) rfl
        go_simp
        refine hK.out _ _ trivial (fun hHeld => ?_)
        clear hK K
        try simp only [List.getElem_toArray, List.getElem_cons_succ, List.getElem_cons_zero, Act.put, List.setIfInBounds_toArray, List.set_cons_zero, List.set_cons_succ]
        refine wpAnyH_ready (rs := [6]) (by kernel_rfl) (by simp) ?_
        refine AllReadyH.cons (o := _) rfl (fun K hK => ?_) AllReadyH.nil
        go_simp
        refine (HCW.out W0).mono ?_
        rintro e W7 ⟨rfl, hD⟩
        go_wp2_with fail
        replace hOw := World.ownsRow.kept (row := none) hOw ⟨hD.os, hD.tape, hD.output, hD.size, fun k hk _ => hD.block k hk⟩ (Classical.em _)
        replace hMw := hMw.on hD
        replace hRw := hRw.on hD
        replace hBw := hBw.trans (hD.mono hBw.size)
        replace hlw := Nat.le_trans hlw hD.size
        clear hD
        refine hK.out _ _ trivial (fun hHeld => ?_)
        clear hK K
        try simp only [List.getElem_toArray, List.getElem_cons_succ, List.getElem_cons_zero, Act.put, List.setIfInBounds_toArray, List.set_cons_zero, List.set_cons_succ]
        refine wpAnyH_ready (rs := [7]) (by kernel_rfl) (by simp) ?_
        refine AllReadyH.cons (o := _) rfl (fun K hK => ?_) AllReadyH.nil
        go_simp
        have hN := Box.new 35 [.int .u32 y] W7
        replace hOw := hOw.alloc (.cells #[.int .u32 y] 35)
        replace hMw := hMw.al (.cells #[.int .u32 y] 35)
        replace hRw := hRw.al (.cells #[.int .u32 y] 35)
        replace hBw := hBw.alloc hBw.size (.cells #[.int .u32 y] 35)
        have hlw2 : w4.heap.size ≤ (W7.alloc (.cells #[.int .u32 y] 35)).heap.size := by simp; omega
        generalize W7.alloc (.cells #[.int .u32 y] 35) = W8 at *
        generalize W7.heap.size = bn at *
        refine hK.out _ _ trivial (fun hHeld => ?_)
        clear hK K
        try simp only [List.getElem_toArray, List.getElem_cons_succ, List.getElem_cons_zero, Act.put, List.setIfInBounds_toArray, List.set_cons_zero, List.set_cons_succ]
        refine wpAnyH_ready (rs := [8]) (by kernel_rfl) (by simp) ?_
        refine AllReadyH.cons (o := _) rfl (fun K hK => ?_) AllReadyH.nil
        refine step_append_lies _ (by rfl) _ _ _ (by rfl) w4.heap.size 35 i0 _ 1 4 Try.underlying22 hi hz0 hz1 hz2 rfl (by omega) v k (wCells (xs.take k)) (by rfl) hOw ⟨bn, 0, none⟩ 1 1 [.int .u32 y] (by rfl) (by rfl) (World.news_of_block (cs := #[.int .u32 y]) (t := 35) (fr := (0, 0)) hN) (by simp [Value.oneCell']) (by omega) (by unfold maxLen; omega) (by omega) hlw2 W8.heap.size rfl ?_
        intro gg gcap W9 hown5 hgrow hat hlt5
        have hC5 : Below w4.heap.size W8 W9 := (Below.refl _ _).grown hgrow hlw2 (fun k hk => (World.ownsRow.lt hOw k hk).1)
        replace hMw := hMw.thr hC5 hbB
        replace hRw := hRw.thr hC5 hRl
        replace hBw := hBw.trans (hC5.mono hbw4)
        have hlw3 := Nat.le_trans hlw2 hC5.size
        clear hOw hgrow hC5 hat hlt5 hlw2 hN
        refine hK.out _ _ trivial (fun hHeld => ?_)
        clear hK K
        try simp only [List.getElem_toArray, List.getElem_cons_succ, List.getElem_cons_zero, Act.put, List.setIfInBounds_toArray, List.set_cons_zero, List.set_cons_succ]
        refine wpAnyH_take (i := 9) (oi := _) (v := ?vvz10) rfl (by kernel_rfl) (by kernel_rfl) (by kernel_rfl) (fun _ _ _ h => h) (Or.inl ⟨by kernel_rfl, ?hyz10⟩) hHeld ?restz10
        case hyz10 => intro w hSw; go_simp; try with_reducible rfl
        try simp only [List.getElem_toArray, List.getElem_cons_succ, List.getElem_cons_zero, Act.put, List.setIfInBounds_toArray, List.set_cons_zero, List.set_cons_succ]
        refine wpAnyH_ready (rs := [10]) (by kernel_rfl) (by simp) ?_
        refine AllReadyH.cons (o := _) rfl (fun K hK => ?_) AllReadyH.nil
        have hm := hMw.cell (j := 0) (v := v) rfl
        have hf := hMw.fz 0
        go_simp
        refine hK.out _ _ trivial (fun hHeld => ?_)
        clear hK K
        try simp only [List.getElem_toArray, List.getElem_cons_succ, List.getElem_cons_zero, Act.put, List.setIfInBounds_toArray, List.set_cons_zero, List.set_cons_succ]
        refine wpAnyH_done (by kernel_rfl) ?_ _
        have hO6 : OwnsW w4.heap.size (.slice (some ⟨gg, 0, none⟩) (k + 1) gcap) (xs.take (k + 1)) W9 := by
          rw [take_snocW xs k (by rw [HLN.out]; exact hlt), HY.out]
          exact OwnsW.snoc (by rw [hOl]; exact hown5)
        have hO7 := hO6.put hbB ⟨w3.heap.size, 0, none⟩ rfl (.slice (some ⟨gg, 0, none⟩) (k + 1) gcap)
        have hM7 := hMw.set 0 (.slice (some ⟨gg, 0, none⟩) (k + 1) gcap)
        have hR7 := hRw.far (a := ⟨w3.heap.size, 0, none⟩) (Nat.ne_of_lt hRM) (.slice (some ⟨gg, 0, none⟩) (k + 1) gcap)
        have hB7 := hBw.setCell (p := ⟨w3.heap.size, 0, none⟩) (Nat.le_of_lt hRM) (.slice (some ⟨gg, 0, none⟩) (k + 1) gcap)
        have hl7 : w4.heap.size ≤ (W9.setCell ⟨w3.heap.size, 0, none⟩ (.slice (some ⟨gg, 0, none⟩) (k + 1) gcap)).heap.size := by simp [World.setCell]; omega
        clear hO6 hown5 hMw hRw hBw hlw hlw3 hm hf
        go_wp2_with fail
        go_roundw
        case rel => exact ⟨k + 1, _, by omega, by go_num, hO7, hM7, hR7, hB7, hl7⟩
        case measure => simp [intOf]; omega
      refine AllReadyH.cons (o := _) rfl (fun K hK => ?_) AllReadyH.nil
      · go_simp
        refine (HCW.out W0).mono ?_
        rintro e W12 ⟨rfl, hD⟩
        go_wp2_with fail
        replace hOw := World.ownsRow.kept (row := none) hOw ⟨hD.os, hD.tape, hD.output, hD.size, fun k hk _ => hD.block k hk⟩ (Classical.em _)
        replace hMw := hMw.on hD
        replace hRw := hRw.on hD
        replace hBw := hBw.trans (hD.mono hBw.size)
        replace hlw := Nat.le_trans hlw hD.size
        clear hD
        refine hK.out _ _ trivial (fun hHeld => ?_)
        clear hK K
        try simp only [List.getElem_toArray, List.getElem_cons_succ, List.getElem_cons_zero, Act.put, List.setIfInBounds_toArray, List.set_cons_zero, List.set_cons_succ]
        refine wpAnyH_ready (rs := [1, 7]) (by kernel_rfl) (by simp) ?_
        refine AllReadyH.cons (o := _) rfl (fun K hK => ?_) ?_
        · have hm := hMw.cell (j := 0) (v := v) rfl
          go_simp
          refine hK.out _ _ trivial (fun hHeld => ?_)
          clear hK K
          try simp only [List.getElem_toArray, List.getElem_cons_succ, List.getElem_cons_zero, Act.put, List.setIfInBounds_toArray, List.set_cons_zero, List.set_cons_succ]
          refine wpAnyH_ready (rs := [7]) (by kernel_rfl) (by simp) ?_
          refine AllReadyH.cons (o := _) rfl (fun K hK => ?_) AllReadyH.nil
          go_simp
          have hN := Box.new 35 [.int .u32 y] W12
          replace hOw := hOw.alloc (.cells #[.int .u32 y] 35)
          replace hMw := hMw.al (.cells #[.int .u32 y] 35)
          replace hRw := hRw.al (.cells #[.int .u32 y] 35)
          replace hBw := hBw.alloc hBw.size (.cells #[.int .u32 y] 35)
          have hlw2 : w4.heap.size ≤ (W12.alloc (.cells #[.int .u32 y] 35)).heap.size := by simp; omega
          generalize W12.alloc (.cells #[.int .u32 y] 35) = W14 at *
          generalize W12.heap.size = bn at *
          refine hK.out _ _ trivial (fun hHeld => ?_)
          clear hK K
          try simp only [List.getElem_toArray, List.getElem_cons_succ, List.getElem_cons_zero, Act.put, List.setIfInBounds_toArray, List.set_cons_zero, List.set_cons_succ]
          refine wpAnyH_ready (rs := [8]) (by kernel_rfl) (by simp) ?_
          refine AllReadyH.cons (o := _) rfl (fun K hK => ?_) AllReadyH.nil
          refine step_append_lies _ (by rfl) _ _ _ (by rfl) w4.heap.size 35 i0 _ 1 4 Try.underlying22 hi hz0 hz1 hz2 rfl (by omega) v k (wCells (xs.take k)) (by rfl) hOw ⟨bn, 0, none⟩ 1 1 [.int .u32 y] (by rfl) (by rfl) (World.news_of_block (cs := #[.int .u32 y]) (t := 35) (fr := (0, 0)) hN) (by simp [Value.oneCell']) (by omega) (by unfold maxLen; omega) (by omega) hlw2 W14.heap.size rfl ?_
          intro gg gcap W15 hown5 hgrow hat hlt5
          have hC5 : Below w4.heap.size W14 W15 := (Below.refl _ _).grown hgrow hlw2 (fun k hk => (World.ownsRow.lt hOw k hk).1)
          replace hMw := hMw.thr hC5 hbB
          replace hRw := hRw.thr hC5 hRl
          replace hBw := hBw.trans (hC5.mono hbw4)
          have hlw3 := Nat.le_trans hlw2 hC5.size
          clear hOw hgrow hC5 hat hlt5 hlw2 hN
          refine hK.out _ _ trivial (fun hHeld => ?_)
          clear hK K
          try simp only [List.getElem_toArray, List.getElem_cons_succ, List.getElem_cons_zero, Act.put, List.setIfInBounds_toArray, List.set_cons_zero, List.set_cons_succ]
          refine wpAnyH_take (i := 9) (oi := _) (v := ?vvz16) rfl (by kernel_rfl) (by kernel_rfl) (by kernel_rfl) (fun _ _ _ h => h) (Or.inl ⟨by kernel_rfl, ?hyz16⟩) hHeld ?restz16
          case hyz16 => intro w hSw; go_simp; try with_reducible rfl
          try simp only [List.getElem_toArray, List.getElem_cons_succ, List.getElem_cons_zero, Act.put, List.setIfInBounds_toArray, List.set_cons_zero, List.set_cons_succ]
          refine wpAnyH_ready (rs := [10]) (by kernel_rfl) (by simp) ?_
          refine AllReadyH.cons (o := _) rfl (fun K hK => ?_) AllReadyH.nil
          have hm := hMw.cell (j := 0) (v := v) rfl
          have hf := hMw.fz 0
          go_simp
          refine hK.out _ _ trivial (fun hHeld => ?_)
          clear hK K
          try simp only [List.getElem_toArray, List.getElem_cons_succ, List.getElem_cons_zero, Act.put, List.setIfInBounds_toArray, List.set_cons_zero, List.set_cons_succ]
          refine wpAnyH_done (by kernel_rfl) ?_ _
          have hO6 : OwnsW w4.heap.size (.slice (some ⟨gg, 0, none⟩) (k + 1) gcap) (xs.take (k + 1)) W15 := by
            rw [take_snocW xs k (by rw [HLN.out]; exact hlt), HY.out]
            exact OwnsW.snoc (by rw [hOl]; exact hown5)
          have hO7 := hO6.put hbB ⟨w3.heap.size, 0, none⟩ rfl (.slice (some ⟨gg, 0, none⟩) (k + 1) gcap)
          have hM7 := hMw.set 0 (.slice (some ⟨gg, 0, none⟩) (k + 1) gcap)
          have hR7 := hRw.far (a := ⟨w3.heap.size, 0, none⟩) (Nat.ne_of_lt hRM) (.slice (some ⟨gg, 0, none⟩) (k + 1) gcap)
          have hB7 := hBw.setCell (p := ⟨w3.heap.size, 0, none⟩) (Nat.le_of_lt hRM) (.slice (some ⟨gg, 0, none⟩) (k + 1) gcap)
          have hl7 : w4.heap.size ≤ (W15.setCell ⟨w3.heap.size, 0, none⟩ (.slice (some ⟨gg, 0, none⟩) (k + 1) gcap)).heap.size := by simp [World.setCell]; omega
          clear hO6 hown5 hMw hRw hBw hlw hlw3 hm hf
          go_wp2_with fail
          go_roundw
          case rel => exact ⟨k + 1, _, by omega, by go_num, hO7, hM7, hR7, hB7, hl7⟩
          case measure => simp [intOf]; omega
        refine AllReadyH.cons (o := _) rfl (fun K hK => ?_) AllReadyH.nil
        · go_simp
          have hN := Box.new 35 [.int .u32 y] W12
          replace hOw := hOw.alloc (.cells #[.int .u32 y] 35)
          replace hMw := hMw.al (.cells #[.int .u32 y] 35)
          replace hRw := hRw.al (.cells #[.int .u32 y] 35)
          replace hBw := hBw.alloc hBw.size (.cells #[.int .u32 y] 35)
          have hlw2 : w4.heap.size ≤ (W12.alloc (.cells #[.int .u32 y] 35)).heap.size := by simp; omega
          generalize W12.alloc (.cells #[.int .u32 y] 35) = W18 at *
          generalize W12.heap.size = bn at *
          refine hK.out _ _ trivial (fun hHeld => ?_)
          clear hK K
          try simp only [List.getElem_toArray, List.getElem_cons_succ, List.getElem_cons_zero, Act.put, List.setIfInBounds_toArray, List.set_cons_zero, List.set_cons_succ]
          refine wpAnyH_ready (rs := [1]) (by kernel_rfl) (by simp) ?_
          refine AllReadyH.cons (o := _) rfl (fun K hK => ?_) AllReadyH.nil
          have hm := hMw.cell (j := 0) (v := v) rfl
          go_simp
          refine hK.out _ _ trivial (fun hHeld => ?_)
          clear hK K
          try simp only [List.getElem_toArray, List.getElem_cons_succ, List.getElem_cons_zero, Act.put, List.setIfInBounds_toArray, List.set_cons_zero, List.set_cons_succ]
          refine wpAnyH_ready (rs := [8]) (by kernel_rfl) (by simp) ?_
          refine AllReadyH.cons (o := _) rfl (fun K hK => ?_) AllReadyH.nil
          refine step_append_lies _ (by rfl) _ _ _ (by rfl) w4.heap.size 35 i0 _ 1 4 Try.underlying22 hi hz0 hz1 hz2 rfl (by omega) v k (wCells (xs.take k)) (by rfl) hOw ⟨bn, 0, none⟩ 1 1 [.int .u32 y] (by rfl) (by rfl) (World.news_of_block (cs := #[.int .u32 y]) (t := 35) (fr := (0, 0)) hN) (by simp [Value.oneCell']) (by omega) (by unfold maxLen; omega) (by omega) hlw2 W18.heap.size rfl ?_
          intro gg gcap W20 hown5 hgrow hat hlt5
          have hC5 : Below w4.heap.size W18 W20 := (Below.refl _ _).grown hgrow hlw2 (fun k hk => (World.ownsRow.lt hOw k hk).1)
          replace hMw := hMw.thr hC5 hbB
          replace hRw := hRw.thr hC5 hRl
          replace hBw := hBw.trans (hC5.mono hbw4)
          have hlw3 := Nat.le_trans hlw2 hC5.size
          clear hOw hgrow hC5 hat hlt5 hlw2 hN
          refine hK.out _ _ trivial (fun hHeld => ?_)
          clear hK K
          try simp only [List.getElem_toArray, List.getElem_cons_succ, List.getElem_cons_zero, Act.put, List.setIfInBounds_toArray, List.set_cons_zero, List.set_cons_succ]
          refine wpAnyH_take (i := 9) (oi := _) (v := ?vvz21) rfl (by kernel_rfl) (by kernel_rfl) (by kernel_rfl) (fun _ _ _ h => h) (Or.inl ⟨by kernel_rfl, ?hyz21⟩) hHeld ?restz21
          case hyz21 => intro w hSw; go_simp; try with_reducible rfl
          try simp only [List.getElem_toArray, List.getElem_cons_succ, List.getElem_cons_zero, Act.put, List.setIfInBounds_toArray, List.set_cons_zero, List.set_cons_succ]
          refine wpAnyH_ready (rs := [10]) (by kernel_rfl) (by simp) ?_
          refine AllReadyH.cons (o := _) rfl (fun K hK => ?_) AllReadyH.nil
          have hm := hMw.cell (j := 0) (v := v) rfl
          have hf := hMw.fz 0
          go_simp
          refine hK.out _ _ trivial (fun hHeld => ?_)
          clear hK K
          try simp only [List.getElem_toArray, List.getElem_cons_succ, List.getElem_cons_zero, Act.put, List.setIfInBounds_toArray, List.set_cons_zero, List.set_cons_succ]
          refine wpAnyH_done (by kernel_rfl) ?_ _
          have hO6 : OwnsW w4.heap.size (.slice (some ⟨gg, 0, none⟩) (k + 1) gcap) (xs.take (k + 1)) W20 := by
            rw [take_snocW xs k (by rw [HLN.out]; exact hlt), HY.out]
            exact OwnsW.snoc (by rw [hOl]; exact hown5)
          have hO7 := hO6.put hbB ⟨w3.heap.size, 0, none⟩ rfl (.slice (some ⟨gg, 0, none⟩) (k + 1) gcap)
          have hM7 := hMw.set 0 (.slice (some ⟨gg, 0, none⟩) (k + 1) gcap)
          have hR7 := hRw.far (a := ⟨w3.heap.size, 0, none⟩) (Nat.ne_of_lt hRM) (.slice (some ⟨gg, 0, none⟩) (k + 1) gcap)
          have hB7 := hBw.setCell (p := ⟨w3.heap.size, 0, none⟩) (Nat.le_of_lt hRM) (.slice (some ⟨gg, 0, none⟩) (k + 1) gcap)
          have hl7 : w4.heap.size ≤ (W20.setCell ⟨w3.heap.size, 0, none⟩ (.slice (some ⟨gg, 0, none⟩) (k + 1) gcap)).heap.size := by simp [World.setCell]; omega
          clear hO6 hown5 hMw hRw hBw hlw hlw3 hm hf
          go_wp2_with fail
          go_roundw
          case rel => exact ⟨k + 1, _, by omega, by go_num, hO7, hM7, hR7, hB7, hl7⟩
          case measure => simp [intOf]; omega
    · have hkd : decide ((k : Int) < (n : Int)) = false := decide_eq_false (by omega)
      have hkn : k = n := by omega
      subst hkn
      rw [List.take_of_length_le (by rw [HLN.out]; exact Nat.le_refl _)] at hO
      obtain ⟨p, c, hv, _⟩ := hO.reads
      rw [HLN.out] at hv
      subst hv
      have m0 := hM.cell (j := 0) (v := .slice p k c) rfl
      have m1 := hM.cell (j := 1) (v := .int .i64 d) rfl
      have d0 := hR.cell (j := 0) (v := .slice none 0 0) rfl
      have f0 := hR.fz 0
      have d1 := hR.cell (j := 1) (v := .int .i64 0) rfl
      have f1 := hR.fz 1
      have hRf := (hR.set 0 (.slice p k c)).set 1 (.int .i64 d)
      have hBf := (hB.setCell (p := ⟨w.heap.size, 0, none⟩) (Nat.le_refl _) (.slice p k c)).setCell (p := ⟨w.heap.size, 1, none⟩) (Nat.le_refl _) (.int .i64 d)
      have hOf := (hO.put hRl ⟨w.heap.size, 0, none⟩ rfl (.slice p k c)).put hRl ⟨w.heap.size, 1, none⟩ rfl (.int .i64 d)
      go_wp2_with fail
      clear m0 m1 d0 f0 d1 f1 hR hM hO hB
      generalize (wr.setCell ⟨w.heap.size, 0, none⟩ (.slice p k c)).setCell ⟨w.heap.size, 1, none⟩ (.int .i64 d) = wf at *
      have r0 := hRf.cell (j := 0) (v := .slice p k c) rfl
      have r1 := hRf.cell (j := 1) (v := .int .i64 d) rfl
      refine bodyPost_ret (v := .tuple #[.agg #[.slice p k c, .int .i64 d], .int .i64 0]) (by simp [results, Try.results18, go_sem, r0, r1]) rfl ⟨⟨p, c, rfl, hOf.reads⟩, hBf⟩
end Go.Proofs.Ytfaedjpfbaiojaa
