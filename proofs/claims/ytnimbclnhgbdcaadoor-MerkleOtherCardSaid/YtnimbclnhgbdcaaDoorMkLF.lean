/-
  The walk of MerkleOther (written by gen_law6.py).
-/
import Derived.Test.YtnimbclnhgbdcaaDoorMkFA
import Derived.Deep.CutRange
namespace Go.Proofs.YtnimbclnhgbdcaaDoor
open Go.RowKit

set_option maxHeartbeats 1000000 in
set_option maxRecDepth 100000 in
theorem other_long (n cap : Nat) (i : Int) (f : D4) (p : Option Addr) (w : World) (hT : TurnsOk w) (h : 30 < n ∨ i < 0 ∨ (n : Int) ≤ i) : Calls Tryd.prog 8 #[.slice p n cap, .int .i64 i, .agg #[.int .u32 f.d0, .int .u32 f.d1, .int .u32 f.d2, .int .u32 f.d3]] w fun e w' => e = .returned (.bool true) ∧ Below w.heap.size w w' := by
  obtain ⟨w0, hw0⟩ : ∃ w0, w.alloc (.cells #[.int .u32 f.d0, .int .u32 f.d1, .int .u32 f.d2, .int .u32 f.d3] 26) = w0 := ⟨_, rfl⟩
  have hB0 : Below w.heap.size w w0 := by rw [← hw0]; exact (Below.refl _ _).alloc (Nat.le_refl _) _
  obtain ⟨g1, hg1⟩ : ∃ g, decide (30 < (n : Int)) = g := ⟨_, rfl⟩
  obtain ⟨g2, hg2⟩ : ∃ g, decide (i < 0) = g := ⟨_, rfl⟩
  obtain ⟨g3, hg3⟩ : ∃ g, decide ((n : Int) ≤ i) = g := ⟨_, rfl⟩
  have hall : g1 = true ∨ g2 = true ∨ g3 = true := by
    subst hg1; subst hg2; subst hg3
    simp
    omega
  clear h
  go_enter Tryd.func8, Tryd.ntmps8
  go_wp2_with fail
  clear hw0
  refine (alive4_any w0 (hT.below hB0)).mono ?_
  rintro e w1 ⟨rfl, hA⟩
  have hB := hB0.trans (hA.mono hB0.size)
  cases g1 <;> cases g2 <;> cases g3 <;> simp at hall <;> (go_wp2_with fail; go_ret; exact ⟨rfl, hB⟩)
set_option maxHeartbeats 8000000 in
set_option maxRecDepth 100000 in
theorem other_in (l : List D4) (I : Nat) (f : D4) (p : Option Addr) (cap : Nat) (w : World) (hi : I < l.length) (hl : l.length ≤ 30) (hok : allD4 l) (hr : RdS w p l) (hc : l.length ≤ cap) (hm : cap ≤ maxLen) (hfo : f.ok) (hT : TurnsOk w) :
    Calls Tryd.prog 8 #[.slice p l.length cap, .int .i64 (I : Int), .agg #[.int .u32 f.d0, .int .u32 f.d1, .int .u32 f.d2, .int .u32 f.d3]] w fun e w' => e = .returned (.bool true) ∧ Below w.heap.size w w' := by
  have hd : decide (30 < (l.length : Int)) = false := by simp; omega
  have hd2 : decide ((I : Int) < 0) = false := by simp
  have hd3 : decide ((l.length : Int) ≤ (I : Int)) = false := by simp; omega
  obtain ⟨y, hy⟩ : ∃ y, rootD l = y := ⟨_, rfl⟩
  have HY := Lib.hid hy
  obtain ⟨q, hq⟩ : ∃ q, wayD l I = q := ⟨_, rfl⟩
  have HQ := Lib.hid hq
  obtain ⟨n, hn⟩ : ∃ n, l.length = n := ⟨_, rfl⟩
  have HN := Lib.hid hn
  have hqo : allD4 q := by rw [← hq]; exact wayD_ok _ l I rfl hok
  have hql : q.length ≤ 5 := by rw [← hq]; exact way_len pairS noneD 5 l I (by omega)
  obtain ⟨x, hx⟩ : ∃ x, l.getD I zeroD = x := ⟨_, rfl⟩
  have hx2 : l[I]? = some x := by rw [← hx, List.getD_eq_getElem?_getD, List.getElem?_eq_getElem hi]; rfl
  have hxo : x.ok := by
    rw [← hx, List.getD_eq_getElem?_getD, List.getElem?_eq_getElem hi]
    exact hok _ (List.getElem_mem hi)
  have hck : checkD y (n : Int) (I : Int) x q = true := by
    rw [← hy, ← hq, ← hn]
    exact check_way l I x hx2 (by omega)
  have HCO : Hid (∀ q', q'.length ≠ q.length → checkD y (n : Int) (I : Int) x q' = false) := by
    intro q' h
    rw [← hy, ← hn] at hck ⊢
    exact check_longer l I x q q' hck h
  have HC1 : Hid (∀ x q', checkD y (n : Int) (-1) x q' = false) := fun x q' => by unfold checkD; rw [if_pos (by omega)]
  have HC2 : Hid (∀ x q', checkD y (n : Int) (n : Int) x q' = false) := fun x q' => by unfold checkD; rw [if_pos (by omega)]
  obtain ⟨bf, hbf⟩ : ∃ bf, checkD y (n : Int) (I : Int) f q = bf := ⟨_, rfl⟩
  obtain ⟨be, hbe⟩ : ∃ be, sameD f x = be := ⟨_, rfl⟩
  have HFT : Hid (be = false → bf = true → FoolsT l I f q) := by
    intro e1 e2
    refine fools_all l.length l I f x q rfl (by omega) hx2 (fun e => ?_) hok hfo hqo ?_
    · rw [← hbe, (sameD_iff f x).mpr e] at e1; cases e1
    · apply check_up
      rw [hy, hn, hbf]
      exact e2
  obtain ⟨b, o, rfl, hrd⟩ := hr (by intro e; rw [e] at hi; simp at hi)
  have hdg := hrd.2 I hi
  rw [hx] at hdg
  have HDG := Lib.hid hdg
  have HI := Lib.hid hi
  have HBF := Lib.hid hbf
  have hi0 : (0 : Int) ≤ (I : Int) := by omega
  have hin : (I : Int) < (n : Int) := by omega
  have hE := eqD_run f x
  rw [hbe] at hE
  rw [hn] at hd hd3 hc ⊢
  have hle : l.length ≤ 1000000 := by omega
  obtain ⟨m, hqm⟩ : ∃ m, q.length = m := ⟨_, rfl⟩
  have HM := Lib.hid hqm
  rw [hqm] at hql
  clear hy hn hi hl hq hx hx2 hdg hqm hck hbf hbe
  obtain ⟨w0, hw0⟩ : ∃ w0, w.alloc (.cells #[.int .u32 f.d0, .int .u32 f.d1, .int .u32 f.d2, .int .u32 f.d3] 26) = w0 := ⟨_, rfl⟩
  have hB0 : Below w.heap.size w w0 := by rw [← hw0]; exact (Below.refl _ _).alloc (Nat.le_refl _) _
  have hF0 : Arr .u32 26 w.heap.size f.toL w0 := by rw [← hw0]; exact heap_alloc_new w _
  go_enter Tryd.func8, Tryd.ntmps8
  go_wp2_with fail
  clear hw0
  refine (alive4_any w0 (hT.below hB0)).mono ?_
  rintro e w1 ⟨rfl, hA1⟩
  have hB1 := hB0.trans (hA1.mono hB0.size)
  have hF1 := hF0.on hA1
  go_wp2_with fail
  refine (croot_gen l hle hok y _ n cap w1 (hr.on1 hB1) HN.out.symm hc hm (hT.below hB1) HY.out).mono ?_
  rintro e w2 ⟨rfl, hA2⟩
  have hB2 := hB1.trans (hA2.mono hB1.size)
  have hF2 := hF1.on hA2
  go_wp2_with fail
  have hR3 : Arr .u32 26 w2.heap.size y.toL (w2.alloc (.cells #[.int .u32 y.d0, .int .u32 y.d1, .int .u32 y.d2, .int .u32 y.d3] 26)) := heap_alloc_new w2 _
  have hB3 := hB2.alloc hB2.size (.cells #[.int .u32 y.d0, .int .u32 y.d1, .int .u32 y.d2, .int .u32 y.d3] 26)
  have hF3 := hF2.al (.cells #[.int .u32 y.d0, .int .u32 y.d1, .int .u32 y.d2, .int .u32 y.d3] 26)
  generalize w2.alloc (.cells #[.int .u32 y.d0, .int .u32 y.d1, .int .u32 y.d2, .int .u32 y.d3] 26) = w3 at *
  generalize w2.heap.size = R at *
  refine (cprove_val l q I b o n cap _ w3 hle hok HI.out (hrd.on hB3) HN.out.symm rfl hc hm (hT.below hB3) HQ.out).mono ?_
  rintro e w4 ⟨p1, c1, rfl, hp1, hp2, hp3, hA4⟩
  have hR4 := hR3.on hA4
  have hF4 := hF3.on hA4
  have hB4 := hB3.trans (hA4.mono hB3.size)
  rw [HM.out] at hp1 ⊢
  clear hB0 hF0 hA1 hF1 hB1 hA2 hF2 hB2 hR3 hF3 hB3 hA4
  go_upto_region 9 with fail
  go_cut [58] from 36 (fun s wx => s = .bool false ∧ Below w4.heap.size w4 wx)
  case first =>
    have hB5 := hB4.drew
    have hBw : Below w4.heap.size w4 w4.drew := (Below.refl _ _).drew
    have hF5 : Arr .u32 26 w.heap.size f.toL w4.drew := hF4
    have hR5 : Arr .u32 26 R y.toL w4.drew := hR4
    have hD5 := HDG.out.on hB5 hrd.1
    have HS0 : Hid (w4.drew.cell? ⟨w.heap.size, 0, none⟩ = some (.int .u32 f.d0) ∧ w4.drew.cell? ⟨w.heap.size, 1, none⟩ = some (.int .u32 f.d1) ∧ w4.drew.cell? ⟨w.heap.size, 2, none⟩ = some (.int .u32 f.d2) ∧ w4.drew.cell? ⟨w.heap.size, 3, none⟩ = some (.int .u32 f.d3) ∧ w4.drew.cell? ⟨R, 0, none⟩ = some (.int .u32 y.d0) ∧ w4.drew.cell? ⟨R, 1, none⟩ = some (.int .u32 y.d1) ∧ w4.drew.cell? ⟨R, 2, none⟩ = some (.int .u32 y.d2) ∧ w4.drew.cell? ⟨R, 3, none⟩ = some (.int .u32 y.d3) ∧ w4.drew.cell? ⟨b, o + I * 4, none⟩ = some (.int .u32 x.d0) ∧ w4.drew.cell? ⟨b, o + I * 4 + 1, none⟩ = some (.int .u32 x.d1) ∧ w4.drew.cell? ⟨b, o + I * 4 + 2, none⟩ = some (.int .u32 x.d2) ∧ w4.drew.cell? ⟨b, o + I * 4 + 3, none⟩ = some (.int .u32 x.d3)) := ⟨hF5.c4.1, hF5.c4.2.1, hF5.c4.2.2.1, hF5.c4.2.2.2, hR5.c4.1, hR5.c4.2.1, hR5.c4.2.2.1, hR5.c4.2.2.2, hD5⟩
    have hp5 : RdS w4.drew p1 q := hp3
    have hT5 := hT.below hB5
    have hrd5 := hrd.on hB5
    clear hF5 hR5 hD5
    cases be
    · cases bf
      ·
        refine wp_region_held_drew (S := fun w' => w'.cell? ⟨w.heap.size, 0, none⟩ = some (.int .u32 f.d0) ∧ w'.cell? ⟨w.heap.size, 1, none⟩ = some (.int .u32 f.d1) ∧ w'.cell? ⟨w.heap.size, 2, none⟩ = some (.int .u32 f.d2) ∧ w'.cell? ⟨w.heap.size, 3, none⟩ = some (.int .u32 f.d3) ∧ w'.cell? ⟨R, 0, none⟩ = some (.int .u32 y.d0) ∧ w'.cell? ⟨R, 1, none⟩ = some (.int .u32 y.d1) ∧ w'.cell? ⟨R, 2, none⟩ = some (.int .u32 y.d2) ∧ w'.cell? ⟨R, 3, none⟩ = some (.int .u32 y.d3) ∧ w'.cell? ⟨b, o + I * 4, none⟩ = some (.int .u32 x.d0) ∧ w'.cell? ⟨b, o + I * 4 + 1, none⟩ = some (.int .u32 x.d1) ∧ w'.cell? ⟨b, o + I * 4 + 2, none⟩ = some (.int .u32 x.d2) ∧ w'.cell? ⟨b, o + I * 4 + 3, none⟩ = some (.int .u32 x.d3)) (by kernel_rfl) (HS0.out) (fun hHeld => ?_)
        refine wpAnyH_take (i := 0) (oi := _) (v := ?vvb0) rfl (by kernel_rfl) (by kernel_rfl) (by kernel_rfl) (fun _ _ _ h => h) (Or.inl ⟨by kernel_rfl, ?hyb0⟩) hHeld ?restb0
        case hyb0 => intro w hSw; (try dsimp only at hSw); (try go_split_ands); go_simp; try with_reducible rfl
        try simp only [List.getElem_toArray, List.getElem_cons_zero, Act.put, List.setIfInBounds_toArray, List.set_cons_zero, List.set_cons_succ]
        refine wpAnyH_take (i := 1) (oi := _) (v := ?vvb1) rfl (by kernel_rfl) (by kernel_rfl) (by kernel_rfl) (fun _ _ _ h => h) (Or.inl ⟨by kernel_rfl, ?hyb1⟩) hHeld ?restb1
        case hyb1 => intro w hSw; (try dsimp only at hSw); (try go_split_ands); go_simp; try with_reducible rfl
        try simp only [List.getElem_toArray, List.getElem_cons_succ, List.getElem_cons_zero, Act.put, List.setIfInBounds_toArray, List.set_cons_zero, List.set_cons_succ]
        refine wpAnyH_take (i := 2) (oi := _) (v := ?vvb2) rfl (by kernel_rfl) (by kernel_rfl) (by kernel_rfl) (fun _ _ _ h => h) (Or.inl ⟨by kernel_rfl, ?hyb2⟩) hHeld ?restb2
        case hyb2 => intro w hSw; (try dsimp only at hSw); (try go_split_ands); go_simp; try with_reducible rfl
        try simp only [List.getElem_toArray, List.getElem_cons_succ, List.getElem_cons_zero, Act.put, List.setIfInBounds_toArray, List.set_cons_zero, List.set_cons_succ]
        refine wpAnyH_take (i := 3) (oi := _) (v := ?vvb3) rfl (by kernel_rfl) (by kernel_rfl) (by kernel_rfl) (fun _ _ _ h => h) (Or.inl ⟨by kernel_rfl, ?hyb3⟩) hHeld ?restb3
        case hyb3 => intro w hSw; (try dsimp only at hSw); (try go_split_ands); go_simp; try with_reducible rfl
        try simp only [List.getElem_toArray, List.getElem_cons_succ, List.getElem_cons_zero, Act.put, List.setIfInBounds_toArray, List.set_cons_zero, List.set_cons_succ]
        refine wpAnyH_take (i := 4) (oi := _) (v := ?vvb4) rfl (by kernel_rfl) (by kernel_rfl) (by kernel_rfl) (fun _ _ _ h => h) (Or.inl ⟨by kernel_rfl, ?hyb4⟩) hHeld ?restb4
        case hyb4 => intro w hSw; (try dsimp only at hSw); (try go_split_ands); go_simp; try with_reducible rfl
        try simp only [List.getElem_toArray, List.getElem_cons_succ, List.getElem_cons_zero, Act.put, List.setIfInBounds_toArray, List.set_cons_zero, List.set_cons_succ]
        refine wpAnyH_take (i := 5) (oi := _) (v := ?vvb5) rfl (by kernel_rfl) (by kernel_rfl) (by kernel_rfl) (fun _ _ _ h => h) (Or.inl ⟨by kernel_rfl, ?hyb5⟩) hHeld ?restb5
        case hyb5 => intro w hSw; (try dsimp only at hSw); (try go_split_ands); go_simp; try with_reducible rfl
        try simp only [List.getElem_toArray, List.getElem_cons_succ, List.getElem_cons_zero, Act.put, List.setIfInBounds_toArray, List.set_cons_zero, List.set_cons_succ]
        refine wpAnyH_take (i := 6) (oi := _) (v := ?vvb6) rfl (by kernel_rfl) (by kernel_rfl) (by kernel_rfl) (fun _ _ _ h => h) (Or.inl ⟨by kernel_rfl, ?hyb6⟩) hHeld ?restb6
        case hyb6 => intro w hSw; (try dsimp only at hSw); (try go_split_ands); go_simp; try with_reducible rfl
        try simp only [List.getElem_toArray, List.getElem_cons_succ, List.getElem_cons_zero, Act.put, List.setIfInBounds_toArray, List.set_cons_zero, List.set_cons_succ]
        refine wpAnyH_take (i := 7) (oi := _) (v := ?vvb7) rfl (by kernel_rfl) (by kernel_rfl) (by kernel_rfl) (fun _ _ _ h => h) (Or.inl ⟨by kernel_rfl, ?hyb7⟩) hHeld ?restb7
        case hyb7 => intro w hSw; (try dsimp only at hSw); (try go_split_ands); go_simp; try with_reducible rfl
        try simp only [List.getElem_toArray, List.getElem_cons_succ, List.getElem_cons_zero, Act.put, List.setIfInBounds_toArray, List.set_cons_zero, List.set_cons_succ]
        refine wpAnyH_take (i := 8) (oi := _) (v := ?vvb8) rfl (by kernel_rfl) (by kernel_rfl) (by kernel_rfl) (fun _ _ _ h => h) (Or.inl ⟨by kernel_rfl, ?hyb8⟩) hHeld ?restb8
        case hyb8 => intro w hSw; (try dsimp only at hSw); (try go_split_ands); go_simp; try with_reducible rfl
        try simp only [List.getElem_toArray, List.getElem_cons_succ, List.getElem_cons_zero, Act.put, List.setIfInBounds_toArray, List.set_cons_zero, List.set_cons_succ]
        refine wpAnyH_take (i := 9) (oi := _) (v := ?vvb9) rfl (by kernel_rfl) (by kernel_rfl) (by kernel_rfl) (fun _ _ _ h => h) (Or.inl ⟨by kernel_rfl, ?hyb9⟩) hHeld ?restb9
        case hyb9 => intro w hSw; (try dsimp only at hSw); (try go_split_ands); go_simp; try with_reducible rfl
        try simp only [List.getElem_toArray, List.getElem_cons_succ, List.getElem_cons_zero, Act.put, List.setIfInBounds_toArray, List.set_cons_zero, List.set_cons_succ]
        refine wpAnyH_take (i := 10) (oi := _) (v := ?vvb10) rfl (by kernel_rfl) (by kernel_rfl) (by kernel_rfl) (fun _ _ _ h => h) (Or.inl ⟨by kernel_rfl, ?hyb10⟩) hHeld ?restb10
        case hyb10 => intro w hSw; (try dsimp only at hSw); (try go_split_ands); go_simp; try with_reducible rfl
        try simp only [List.getElem_toArray, List.getElem_cons_succ, List.getElem_cons_zero, Act.put, List.setIfInBounds_toArray, List.set_cons_zero, List.set_cons_succ]
        refine wpAnyH_take (i := 11) (oi := _) (v := ?vvb11) rfl (by kernel_rfl) (by kernel_rfl) (by kernel_rfl) (fun _ _ _ h => h) (Or.inl ⟨by kernel_rfl, ?hyb11⟩) hHeld ?restb11
        case hyb11 => intro w hSw; (try dsimp only at hSw); (try go_split_ands); go_simp; try with_reducible rfl
        try simp only [List.getElem_toArray, List.getElem_cons_succ, List.getElem_cons_zero, Act.put, List.setIfInBounds_toArray, List.set_cons_zero, List.set_cons_succ]
        refine wpAnyH_take (i := 12) (oi := _) (v := ?vvb12) rfl (by kernel_rfl) (by kernel_rfl) (by kernel_rfl) (fun _ _ _ h => h) (Or.inl ⟨by kernel_rfl, ?hyb12⟩) hHeld ?restb12
        case hyb12 => intro w hSw; (try dsimp only at hSw); (try go_split_ands); go_simp; try with_reducible rfl
        try simp only [List.getElem_toArray, List.getElem_cons_succ, List.getElem_cons_zero, Act.put, List.setIfInBounds_toArray, List.set_cons_zero, List.set_cons_succ]
        refine wpAnyH_ready (rs := [13]) (by kernel_rfl) (by simp) ?_
        refine AllReadyH.cons (o := _) rfl (fun K hK => ?_) AllReadyH.nil
        go_simp
        go_at_call 16; (with_reducible refine (ccheck_val y f _ _ q false p1 m c1 _ HM.out.symm hfo hqo hp5 hp1 hp2 hT5 HBF.out).mono ?_); rintro e w6 ⟨rfl, hA6⟩; have hB6 := hBw.trans (hA6.mono hBw.size)
        go_wp2_with fail
        refine hK.out _ _ (keep12 hA6 hHeld) (fun hHeld => ?_)
        clear hK K
        try simp only [List.getElem_toArray, List.getElem_cons_succ, List.getElem_cons_zero, Act.put, List.setIfInBounds_toArray, List.set_cons_zero, List.set_cons_succ]
        refine wpAnyH_take (i := 14) (oi := _) (v := ?vvb14) rfl (by kernel_rfl) (by kernel_rfl) (by kernel_rfl) (fun _ _ _ h => h) (Or.inl ⟨by kernel_rfl, ?hyb14⟩) hHeld ?restb14
        case hyb14 => intro w hSw; (try dsimp only at hSw); (try go_split_ands); go_simp; try with_reducible rfl
        try simp only [List.getElem_toArray, List.getElem_cons_succ, List.getElem_cons_zero, Act.put, List.setIfInBounds_toArray, List.set_cons_zero, List.set_cons_succ]
        refine wpAnyH_take (i := 15) (oi := _) (v := ?vvb15) rfl (by kernel_rfl) (by kernel_rfl) (by kernel_rfl) (fun _ _ _ h => h) (Or.inl ⟨by kernel_rfl, ?hyb15⟩) hHeld ?restb15
        case hyb15 => intro w hSw; (try dsimp only at hSw); (try go_split_ands); go_simp; try with_reducible rfl
        try simp only [List.getElem_toArray, List.getElem_cons_succ, List.getElem_cons_zero, Act.put, List.setIfInBounds_toArray, List.set_cons_zero, List.set_cons_succ]
        refine wpAnyH_take (i := 16) (oi := _) (v := undef) rfl (by kernel_rfl) (by kernel_rfl) (by kernel_rfl) (fun _ _ _ h => h) (Or.inr ⟨by kernel_rfl, rfl⟩) hHeld ?restb16
        try simp only [List.getElem_toArray, List.getElem_cons_succ, List.getElem_cons_zero, Act.put, List.setIfInBounds_toArray, List.set_cons_zero, List.set_cons_succ]
        refine wpAnyH_take (i := 17) (oi := _) (v := undef) rfl (by kernel_rfl) (by kernel_rfl) (by kernel_rfl) (fun _ _ _ h => h) (Or.inr ⟨by kernel_rfl, rfl⟩) hHeld ?restb17
        try simp only [List.getElem_toArray, List.getElem_cons_succ, List.getElem_cons_zero, Act.put, List.setIfInBounds_toArray, List.set_cons_zero, List.set_cons_succ]
        refine wpAnyH_take (i := 18) (oi := _) (v := undef) rfl (by kernel_rfl) (by kernel_rfl) (by kernel_rfl) (fun _ _ _ h => h) (Or.inr ⟨by kernel_rfl, rfl⟩) hHeld ?restb18
        try simp only [List.getElem_toArray, List.getElem_cons_succ, List.getElem_cons_zero, Act.put, List.setIfInBounds_toArray, List.set_cons_zero, List.set_cons_succ]
        refine wpAnyH_take (i := 19) (oi := _) (v := undef) rfl (by kernel_rfl) (by kernel_rfl) (by kernel_rfl) (fun _ _ _ h => h) (Or.inr ⟨by kernel_rfl, rfl⟩) hHeld ?restb19
        try simp only [List.getElem_toArray, List.getElem_cons_succ, List.getElem_cons_zero, Act.put, List.setIfInBounds_toArray, List.set_cons_zero, List.set_cons_succ]
        refine wpAnyH_take (i := 20) (oi := _) (v := undef) rfl (by kernel_rfl) (by kernel_rfl) (by kernel_rfl) (fun _ _ _ h => h) (Or.inr ⟨by kernel_rfl, rfl⟩) hHeld ?restb20
        try simp only [List.getElem_toArray, List.getElem_cons_succ, List.getElem_cons_zero, Act.put, List.setIfInBounds_toArray, List.set_cons_zero, List.set_cons_succ]
        refine wpAnyH_take (i := 21) (oi := _) (v := undef) rfl (by kernel_rfl) (by kernel_rfl) (by kernel_rfl) (fun _ _ _ h => h) (Or.inr ⟨by kernel_rfl, rfl⟩) hHeld ?restb21
        try simp only [List.getElem_toArray, List.getElem_cons_succ, List.getElem_cons_zero, Act.put, List.setIfInBounds_toArray, List.set_cons_zero, List.set_cons_succ]
        refine wpAnyH_take (i := 22) (oi := _) (v := ?vvb22) rfl (by kernel_rfl) (by kernel_rfl) (by kernel_rfl) (fun _ _ _ h => h) (Or.inl ⟨by kernel_rfl, ?hyb22⟩) hHeld ?restb22
        case hyb22 => intro w hSw; (try dsimp only at hSw); (try go_split_ands); go_simp; try with_reducible rfl
        try simp only [List.getElem_toArray, List.getElem_cons_succ, List.getElem_cons_zero, Act.put, List.setIfInBounds_toArray, List.set_cons_zero, List.set_cons_succ]
        refine wpAnyH_done (by kernel_rfl) ?_ _
        go_wp2_with fail
        go_meet
        exact ⟨rfl, hB6⟩
      · have HFU := Lib.hid (HFT.out rfl rfl)
        clear HFT
        refine wp_region_held_drew (S := fun w' => w'.cell? ⟨w.heap.size, 0, none⟩ = some (.int .u32 f.d0) ∧ w'.cell? ⟨w.heap.size, 1, none⟩ = some (.int .u32 f.d1) ∧ w'.cell? ⟨w.heap.size, 2, none⟩ = some (.int .u32 f.d2) ∧ w'.cell? ⟨w.heap.size, 3, none⟩ = some (.int .u32 f.d3) ∧ w'.cell? ⟨R, 0, none⟩ = some (.int .u32 y.d0) ∧ w'.cell? ⟨R, 1, none⟩ = some (.int .u32 y.d1) ∧ w'.cell? ⟨R, 2, none⟩ = some (.int .u32 y.d2) ∧ w'.cell? ⟨R, 3, none⟩ = some (.int .u32 y.d3) ∧ w'.cell? ⟨b, o + I * 4, none⟩ = some (.int .u32 x.d0) ∧ w'.cell? ⟨b, o + I * 4 + 1, none⟩ = some (.int .u32 x.d1) ∧ w'.cell? ⟨b, o + I * 4 + 2, none⟩ = some (.int .u32 x.d2) ∧ w'.cell? ⟨b, o + I * 4 + 3, none⟩ = some (.int .u32 x.d3)) (by kernel_rfl) (HS0.out) (fun hHeld => ?_)
        refine wpAnyH_take (i := 0) (oi := _) (v := ?vvc0) rfl (by kernel_rfl) (by kernel_rfl) (by kernel_rfl) (fun _ _ _ h => h) (Or.inl ⟨by kernel_rfl, ?hyc0⟩) hHeld ?restc0
        case hyc0 => intro w hSw; (try dsimp only at hSw); (try go_split_ands); go_simp; try with_reducible rfl
        try simp only [List.getElem_toArray, List.getElem_cons_zero, Act.put, List.setIfInBounds_toArray, List.set_cons_zero, List.set_cons_succ]
        refine wpAnyH_take (i := 1) (oi := _) (v := ?vvc1) rfl (by kernel_rfl) (by kernel_rfl) (by kernel_rfl) (fun _ _ _ h => h) (Or.inl ⟨by kernel_rfl, ?hyc1⟩) hHeld ?restc1
        case hyc1 => intro w hSw; (try dsimp only at hSw); (try go_split_ands); go_simp; try with_reducible rfl
        try simp only [List.getElem_toArray, List.getElem_cons_succ, List.getElem_cons_zero, Act.put, List.setIfInBounds_toArray, List.set_cons_zero, List.set_cons_succ]
        refine wpAnyH_take (i := 2) (oi := _) (v := ?vvc2) rfl (by kernel_rfl) (by kernel_rfl) (by kernel_rfl) (fun _ _ _ h => h) (Or.inl ⟨by kernel_rfl, ?hyc2⟩) hHeld ?restc2
        case hyc2 => intro w hSw; (try dsimp only at hSw); (try go_split_ands); go_simp; try with_reducible rfl
        try simp only [List.getElem_toArray, List.getElem_cons_succ, List.getElem_cons_zero, Act.put, List.setIfInBounds_toArray, List.set_cons_zero, List.set_cons_succ]
        refine wpAnyH_take (i := 3) (oi := _) (v := ?vvc3) rfl (by kernel_rfl) (by kernel_rfl) (by kernel_rfl) (fun _ _ _ h => h) (Or.inl ⟨by kernel_rfl, ?hyc3⟩) hHeld ?restc3
        case hyc3 => intro w hSw; (try dsimp only at hSw); (try go_split_ands); go_simp; try with_reducible rfl
        try simp only [List.getElem_toArray, List.getElem_cons_succ, List.getElem_cons_zero, Act.put, List.setIfInBounds_toArray, List.set_cons_zero, List.set_cons_succ]
        refine wpAnyH_take (i := 4) (oi := _) (v := ?vvc4) rfl (by kernel_rfl) (by kernel_rfl) (by kernel_rfl) (fun _ _ _ h => h) (Or.inl ⟨by kernel_rfl, ?hyc4⟩) hHeld ?restc4
        case hyc4 => intro w hSw; (try dsimp only at hSw); (try go_split_ands); go_simp; try with_reducible rfl
        try simp only [List.getElem_toArray, List.getElem_cons_succ, List.getElem_cons_zero, Act.put, List.setIfInBounds_toArray, List.set_cons_zero, List.set_cons_succ]
        refine wpAnyH_take (i := 5) (oi := _) (v := ?vvc5) rfl (by kernel_rfl) (by kernel_rfl) (by kernel_rfl) (fun _ _ _ h => h) (Or.inl ⟨by kernel_rfl, ?hyc5⟩) hHeld ?restc5
        case hyc5 => intro w hSw; (try dsimp only at hSw); (try go_split_ands); go_simp; try with_reducible rfl
        try simp only [List.getElem_toArray, List.getElem_cons_succ, List.getElem_cons_zero, Act.put, List.setIfInBounds_toArray, List.set_cons_zero, List.set_cons_succ]
        refine wpAnyH_take (i := 6) (oi := _) (v := ?vvc6) rfl (by kernel_rfl) (by kernel_rfl) (by kernel_rfl) (fun _ _ _ h => h) (Or.inl ⟨by kernel_rfl, ?hyc6⟩) hHeld ?restc6
        case hyc6 => intro w hSw; (try dsimp only at hSw); (try go_split_ands); go_simp; try with_reducible rfl
        try simp only [List.getElem_toArray, List.getElem_cons_succ, List.getElem_cons_zero, Act.put, List.setIfInBounds_toArray, List.set_cons_zero, List.set_cons_succ]
        refine wpAnyH_take (i := 7) (oi := _) (v := ?vvc7) rfl (by kernel_rfl) (by kernel_rfl) (by kernel_rfl) (fun _ _ _ h => h) (Or.inl ⟨by kernel_rfl, ?hyc7⟩) hHeld ?restc7
        case hyc7 => intro w hSw; (try dsimp only at hSw); (try go_split_ands); go_simp; try with_reducible rfl
        try simp only [List.getElem_toArray, List.getElem_cons_succ, List.getElem_cons_zero, Act.put, List.setIfInBounds_toArray, List.set_cons_zero, List.set_cons_succ]
        refine wpAnyH_take (i := 8) (oi := _) (v := ?vvc8) rfl (by kernel_rfl) (by kernel_rfl) (by kernel_rfl) (fun _ _ _ h => h) (Or.inl ⟨by kernel_rfl, ?hyc8⟩) hHeld ?restc8
        case hyc8 => intro w hSw; (try dsimp only at hSw); (try go_split_ands); go_simp; try with_reducible rfl
        try simp only [List.getElem_toArray, List.getElem_cons_succ, List.getElem_cons_zero, Act.put, List.setIfInBounds_toArray, List.set_cons_zero, List.set_cons_succ]
        refine wpAnyH_take (i := 9) (oi := _) (v := ?vvc9) rfl (by kernel_rfl) (by kernel_rfl) (by kernel_rfl) (fun _ _ _ h => h) (Or.inl ⟨by kernel_rfl, ?hyc9⟩) hHeld ?restc9
        case hyc9 => intro w hSw; (try dsimp only at hSw); (try go_split_ands); go_simp; try with_reducible rfl
        try simp only [List.getElem_toArray, List.getElem_cons_succ, List.getElem_cons_zero, Act.put, List.setIfInBounds_toArray, List.set_cons_zero, List.set_cons_succ]
        refine wpAnyH_take (i := 10) (oi := _) (v := ?vvc10) rfl (by kernel_rfl) (by kernel_rfl) (by kernel_rfl) (fun _ _ _ h => h) (Or.inl ⟨by kernel_rfl, ?hyc10⟩) hHeld ?restc10
        case hyc10 => intro w hSw; (try dsimp only at hSw); (try go_split_ands); go_simp; try with_reducible rfl
        try simp only [List.getElem_toArray, List.getElem_cons_succ, List.getElem_cons_zero, Act.put, List.setIfInBounds_toArray, List.set_cons_zero, List.set_cons_succ]
        refine wpAnyH_take (i := 11) (oi := _) (v := ?vvc11) rfl (by kernel_rfl) (by kernel_rfl) (by kernel_rfl) (fun _ _ _ h => h) (Or.inl ⟨by kernel_rfl, ?hyc11⟩) hHeld ?restc11
        case hyc11 => intro w hSw; (try dsimp only at hSw); (try go_split_ands); go_simp; try with_reducible rfl
        try simp only [List.getElem_toArray, List.getElem_cons_succ, List.getElem_cons_zero, Act.put, List.setIfInBounds_toArray, List.set_cons_zero, List.set_cons_succ]
        refine wpAnyH_take (i := 12) (oi := _) (v := ?vvc12) rfl (by kernel_rfl) (by kernel_rfl) (by kernel_rfl) (fun _ _ _ h => h) (Or.inl ⟨by kernel_rfl, ?hyc12⟩) hHeld ?restc12
        case hyc12 => intro w hSw; (try dsimp only at hSw); (try go_split_ands); go_simp; try with_reducible rfl
        try simp only [List.getElem_toArray, List.getElem_cons_succ, List.getElem_cons_zero, Act.put, List.setIfInBounds_toArray, List.set_cons_zero, List.set_cons_succ]
        refine wpAnyH_ready (rs := [13]) (by kernel_rfl) (by simp) ?_
        refine AllReadyH.cons (o := _) rfl (fun K hK => ?_) AllReadyH.nil
        go_simp
        go_at_call 16; (with_reducible refine (ccheck_val y f _ _ q true p1 m c1 _ HM.out.symm hfo hqo hp5 hp1 hp2 hT5 HBF.out).mono ?_); rintro e w6 ⟨rfl, hA6⟩; have hB6 := hBw.trans (hA6.mono hBw.size); have hp6 := hp5.on1 hA6; have hrd6 := hrd5.on hA6
        go_wp2_with fail
        refine hK.out _ _ (keep12 hA6 hHeld) (fun hHeld => ?_)
        clear hK K
        try simp only [List.getElem_toArray, List.getElem_cons_succ, List.getElem_cons_zero, Act.put, List.setIfInBounds_toArray, List.set_cons_zero, List.set_cons_succ]
        refine wpAnyH_take (i := 14) (oi := _) (v := ?vvc14) rfl (by kernel_rfl) (by kernel_rfl) (by kernel_rfl) (fun _ _ _ h => h) (Or.inl ⟨by kernel_rfl, ?hyc14⟩) hHeld ?restc14
        case hyc14 => intro w hSw; (try dsimp only at hSw); (try go_split_ands); go_simp; try with_reducible rfl
        try simp only [List.getElem_toArray, List.getElem_cons_succ, List.getElem_cons_zero, Act.put, List.setIfInBounds_toArray, List.set_cons_zero, List.set_cons_succ]
        refine wpAnyH_take (i := 15) (oi := _) (v := ?vvc15) rfl (by kernel_rfl) (by kernel_rfl) (by kernel_rfl) (fun _ _ _ h => h) (Or.inl ⟨by kernel_rfl, ?hyc15⟩) hHeld ?restc15
        case hyc15 => intro w hSw; (try dsimp only at hSw); (try go_split_ands); go_simp; try with_reducible rfl
        try simp only [List.getElem_toArray, List.getElem_cons_succ, List.getElem_cons_zero, Act.put, List.setIfInBounds_toArray, List.set_cons_zero, List.set_cons_succ]
        refine wpAnyH_take (i := 16) (oi := _) (v := ?vvc16) rfl (by kernel_rfl) (by kernel_rfl) (by kernel_rfl) (fun _ _ _ h => h) (Or.inl ⟨by kernel_rfl, ?hyc16⟩) hHeld ?restc16
        case hyc16 => intro w hSw; (try dsimp only at hSw); (try go_split_ands); go_simp; try with_reducible rfl
        try simp only [List.getElem_toArray, List.getElem_cons_succ, List.getElem_cons_zero, Act.put, List.setIfInBounds_toArray, List.set_cons_zero, List.set_cons_succ]
        refine wpAnyH_take (i := 17) (oi := _) (v := ?vvc17) rfl (by kernel_rfl) (by kernel_rfl) (by kernel_rfl) (fun _ _ _ h => h) (Or.inl ⟨by kernel_rfl, ?hyc17⟩) hHeld ?restc17
        case hyc17 => intro w hSw; (try dsimp only at hSw); (try go_split_ands); go_simp; try with_reducible rfl
        try simp only [List.getElem_toArray, List.getElem_cons_succ, List.getElem_cons_zero, Act.put, List.setIfInBounds_toArray, List.set_cons_zero, List.set_cons_succ]
        refine wpAnyH_take (i := 18) (oi := _) (v := ?vvc18) rfl (by kernel_rfl) (by kernel_rfl) (by kernel_rfl) (fun _ _ _ h => h) (Or.inl ⟨by kernel_rfl, ?hyc18⟩) hHeld ?restc18
        case hyc18 => intro w hSw; (try dsimp only at hSw); (try go_split_ands); go_simp; try with_reducible rfl
        try simp only [List.getElem_toArray, List.getElem_cons_succ, List.getElem_cons_zero, Act.put, List.setIfInBounds_toArray, List.set_cons_zero, List.set_cons_succ]
        refine wpAnyH_take (i := 19) (oi := _) (v := ?vvc19) rfl (by kernel_rfl) (by kernel_rfl) (by kernel_rfl) (fun _ _ _ h => h) (Or.inl ⟨by kernel_rfl, ?hyc19⟩) hHeld ?restc19
        case hyc19 => intro w hSw; (try dsimp only at hSw); (try go_split_ands); go_simp; try with_reducible rfl
        try simp only [List.getElem_toArray, List.getElem_cons_succ, List.getElem_cons_zero, Act.put, List.setIfInBounds_toArray, List.set_cons_zero, List.set_cons_succ]
        refine wpAnyH_ready (rs := [20]) (by kernel_rfl) (by simp) ?_
        refine AllReadyH.cons (o := _) rfl (fun K hK => ?_) AllReadyH.nil
        go_simp
        go_at_call 25; (with_reducible refine (fools_val l I f q HFU.out b o cap p1 c1 n m _ _ HN.out.symm HM.out.symm rfl hrd6 hp6 hc hm hp1 hp2).mono ?_); rintro e w7 ⟨rfl, hA7⟩; have hB7 := hB6.trans (hA7.mono hB6.size)
        go_wp2_with fail
        refine hK.out _ _ (keep12 hA7 hHeld) (fun hHeld => ?_)
        clear hK K
        try simp only [List.getElem_toArray, List.getElem_cons_succ, List.getElem_cons_zero, Act.put, List.setIfInBounds_toArray, List.set_cons_zero, List.set_cons_succ]
        refine wpAnyH_take (i := 21) (oi := _) (v := ?vvc21) rfl (by kernel_rfl) (by kernel_rfl) (by kernel_rfl) (fun _ _ _ h => h) (Or.inl ⟨by kernel_rfl, ?hyc21⟩) hHeld ?restc21
        case hyc21 => intro w hSw; (try dsimp only at hSw); (try go_split_ands); go_simp; try with_reducible rfl
        try simp only [List.getElem_toArray, List.getElem_cons_succ, List.getElem_cons_zero, Act.put, List.setIfInBounds_toArray, List.set_cons_zero, List.set_cons_succ]
        refine wpAnyH_take (i := 22) (oi := _) (v := ?vvc22) rfl (by kernel_rfl) (by kernel_rfl) (by kernel_rfl) (fun _ _ _ h => h) (Or.inl ⟨by kernel_rfl, ?hyc22⟩) hHeld ?restc22
        case hyc22 => intro w hSw; (try dsimp only at hSw); (try go_split_ands); go_simp; try with_reducible rfl
        try simp only [List.getElem_toArray, List.getElem_cons_succ, List.getElem_cons_zero, Act.put, List.setIfInBounds_toArray, List.set_cons_zero, List.set_cons_succ]
        refine wpAnyH_done (by kernel_rfl) ?_ _
        go_wp2_with fail
        go_meet
        exact ⟨rfl, hB7⟩
    ·
      refine wp_region_held_drew (S := fun w' => w'.cell? ⟨w.heap.size, 0, none⟩ = some (.int .u32 f.d0) ∧ w'.cell? ⟨w.heap.size, 1, none⟩ = some (.int .u32 f.d1) ∧ w'.cell? ⟨w.heap.size, 2, none⟩ = some (.int .u32 f.d2) ∧ w'.cell? ⟨w.heap.size, 3, none⟩ = some (.int .u32 f.d3) ∧ w'.cell? ⟨R, 0, none⟩ = some (.int .u32 y.d0) ∧ w'.cell? ⟨R, 1, none⟩ = some (.int .u32 y.d1) ∧ w'.cell? ⟨R, 2, none⟩ = some (.int .u32 y.d2) ∧ w'.cell? ⟨R, 3, none⟩ = some (.int .u32 y.d3) ∧ w'.cell? ⟨b, o + I * 4, none⟩ = some (.int .u32 x.d0) ∧ w'.cell? ⟨b, o + I * 4 + 1, none⟩ = some (.int .u32 x.d1) ∧ w'.cell? ⟨b, o + I * 4 + 2, none⟩ = some (.int .u32 x.d2) ∧ w'.cell? ⟨b, o + I * 4 + 3, none⟩ = some (.int .u32 x.d3)) (by kernel_rfl) (HS0.out) (fun hHeld => ?_)
      refine wpAnyH_take (i := 0) (oi := _) (v := ?vvd0) rfl (by kernel_rfl) (by kernel_rfl) (by kernel_rfl) (fun _ _ _ h => h) (Or.inl ⟨by kernel_rfl, ?hyd0⟩) hHeld ?restd0
      case hyd0 => intro w hSw; (try dsimp only at hSw); (try go_split_ands); go_simp; try with_reducible rfl
      try simp only [List.getElem_toArray, List.getElem_cons_zero, Act.put, List.setIfInBounds_toArray, List.set_cons_zero, List.set_cons_succ]
      refine wpAnyH_take (i := 1) (oi := _) (v := ?vvd1) rfl (by kernel_rfl) (by kernel_rfl) (by kernel_rfl) (fun _ _ _ h => h) (Or.inl ⟨by kernel_rfl, ?hyd1⟩) hHeld ?restd1
      case hyd1 => intro w hSw; (try dsimp only at hSw); (try go_split_ands); go_simp; try with_reducible rfl
      try simp only [List.getElem_toArray, List.getElem_cons_succ, List.getElem_cons_zero, Act.put, List.setIfInBounds_toArray, List.set_cons_zero, List.set_cons_succ]
      refine wpAnyH_take (i := 2) (oi := _) (v := ?vvd2) rfl (by kernel_rfl) (by kernel_rfl) (by kernel_rfl) (fun _ _ _ h => h) (Or.inl ⟨by kernel_rfl, ?hyd2⟩) hHeld ?restd2
      case hyd2 => intro w hSw; (try dsimp only at hSw); (try go_split_ands); go_simp; try with_reducible rfl
      try simp only [List.getElem_toArray, List.getElem_cons_succ, List.getElem_cons_zero, Act.put, List.setIfInBounds_toArray, List.set_cons_zero, List.set_cons_succ]
      refine wpAnyH_take (i := 3) (oi := _) (v := ?vvd3) rfl (by kernel_rfl) (by kernel_rfl) (by kernel_rfl) (fun _ _ _ h => h) (Or.inl ⟨by kernel_rfl, ?hyd3⟩) hHeld ?restd3
      case hyd3 => intro w hSw; (try dsimp only at hSw); (try go_split_ands); go_simp; try with_reducible rfl
      try simp only [List.getElem_toArray, List.getElem_cons_succ, List.getElem_cons_zero, Act.put, List.setIfInBounds_toArray, List.set_cons_zero, List.set_cons_succ]
      refine wpAnyH_take (i := 4) (oi := _) (v := ?vvd4) rfl (by kernel_rfl) (by kernel_rfl) (by kernel_rfl) (fun _ _ _ h => h) (Or.inl ⟨by kernel_rfl, ?hyd4⟩) hHeld ?restd4
      case hyd4 => intro w hSw; (try dsimp only at hSw); (try go_split_ands); go_simp; try with_reducible rfl
      try simp only [List.getElem_toArray, List.getElem_cons_succ, List.getElem_cons_zero, Act.put, List.setIfInBounds_toArray, List.set_cons_zero, List.set_cons_succ]
      refine wpAnyH_take (i := 5) (oi := _) (v := ?vvd5) rfl (by kernel_rfl) (by kernel_rfl) (by kernel_rfl) (fun _ _ _ h => h) (Or.inl ⟨by kernel_rfl, ?hyd5⟩) hHeld ?restd5
      case hyd5 => intro w hSw; (try dsimp only at hSw); (try go_split_ands); go_simp; try with_reducible rfl
      try simp only [List.getElem_toArray, List.getElem_cons_succ, List.getElem_cons_zero, Act.put, List.setIfInBounds_toArray, List.set_cons_zero, List.set_cons_succ]
      refine wpAnyH_take (i := 6) (oi := _) (v := ?vvd6) rfl (by kernel_rfl) (by kernel_rfl) (by kernel_rfl) (fun _ _ _ h => h) (Or.inl ⟨by kernel_rfl, ?hyd6⟩) hHeld ?restd6
      case hyd6 => intro w hSw; (try dsimp only at hSw); (try go_split_ands); go_simp; try with_reducible rfl
      try simp only [List.getElem_toArray, List.getElem_cons_succ, List.getElem_cons_zero, Act.put, List.setIfInBounds_toArray, List.set_cons_zero, List.set_cons_succ]
      refine wpAnyH_take (i := 7) (oi := _) (v := undef) rfl (by kernel_rfl) (by kernel_rfl) (by kernel_rfl) (fun _ _ _ h => h) (Or.inr ⟨by kernel_rfl, rfl⟩) hHeld ?restd7
      try simp only [List.getElem_toArray, List.getElem_cons_succ, List.getElem_cons_zero, Act.put, List.setIfInBounds_toArray, List.set_cons_zero, List.set_cons_succ]
      refine wpAnyH_take (i := 8) (oi := _) (v := undef) rfl (by kernel_rfl) (by kernel_rfl) (by kernel_rfl) (fun _ _ _ h => h) (Or.inr ⟨by kernel_rfl, rfl⟩) hHeld ?restd8
      try simp only [List.getElem_toArray, List.getElem_cons_succ, List.getElem_cons_zero, Act.put, List.setIfInBounds_toArray, List.set_cons_zero, List.set_cons_succ]
      refine wpAnyH_take (i := 9) (oi := _) (v := undef) rfl (by kernel_rfl) (by kernel_rfl) (by kernel_rfl) (fun _ _ _ h => h) (Or.inr ⟨by kernel_rfl, rfl⟩) hHeld ?restd9
      try simp only [List.getElem_toArray, List.getElem_cons_succ, List.getElem_cons_zero, Act.put, List.setIfInBounds_toArray, List.set_cons_zero, List.set_cons_succ]
      refine wpAnyH_take (i := 10) (oi := _) (v := undef) rfl (by kernel_rfl) (by kernel_rfl) (by kernel_rfl) (fun _ _ _ h => h) (Or.inr ⟨by kernel_rfl, rfl⟩) hHeld ?restd10
      try simp only [List.getElem_toArray, List.getElem_cons_succ, List.getElem_cons_zero, Act.put, List.setIfInBounds_toArray, List.set_cons_zero, List.set_cons_succ]
      refine wpAnyH_take (i := 11) (oi := _) (v := undef) rfl (by kernel_rfl) (by kernel_rfl) (by kernel_rfl) (fun _ _ _ h => h) (Or.inr ⟨by kernel_rfl, rfl⟩) hHeld ?restd11
      try simp only [List.getElem_toArray, List.getElem_cons_succ, List.getElem_cons_zero, Act.put, List.setIfInBounds_toArray, List.set_cons_zero, List.set_cons_succ]
      refine wpAnyH_take (i := 12) (oi := _) (v := undef) rfl (by kernel_rfl) (by kernel_rfl) (by kernel_rfl) (fun _ _ _ h => h) (Or.inr ⟨by kernel_rfl, rfl⟩) hHeld ?restd12
      try simp only [List.getElem_toArray, List.getElem_cons_succ, List.getElem_cons_zero, Act.put, List.setIfInBounds_toArray, List.set_cons_zero, List.set_cons_succ]
      refine wpAnyH_take (i := 13) (oi := _) (v := undef) rfl (by kernel_rfl) (by kernel_rfl) (by kernel_rfl) (fun _ _ _ h => h) (Or.inr ⟨by kernel_rfl, rfl⟩) hHeld ?restd13
      try simp only [List.getElem_toArray, List.getElem_cons_succ, List.getElem_cons_zero, Act.put, List.setIfInBounds_toArray, List.set_cons_zero, List.set_cons_succ]
      refine wpAnyH_take (i := 14) (oi := _) (v := ?vvd14) rfl (by kernel_rfl) (by kernel_rfl) (by kernel_rfl) (fun _ _ _ h => h) (Or.inl ⟨by kernel_rfl, ?hyd14⟩) hHeld ?restd14
      case hyd14 => intro w hSw; (try dsimp only at hSw); (try go_split_ands); go_simp; try with_reducible rfl
      try simp only [List.getElem_toArray, List.getElem_cons_succ, List.getElem_cons_zero, Act.put, List.setIfInBounds_toArray, List.set_cons_zero, List.set_cons_succ]
      refine wpAnyH_take (i := 15) (oi := _) (v := ?vvd15) rfl (by kernel_rfl) (by kernel_rfl) (by kernel_rfl) (fun _ _ _ h => h) (Or.inl ⟨by kernel_rfl, ?hyd15⟩) hHeld ?restd15
      case hyd15 => intro w hSw; (try dsimp only at hSw); (try go_split_ands); go_simp; try with_reducible rfl
      try simp only [List.getElem_toArray, List.getElem_cons_succ, List.getElem_cons_zero, Act.put, List.setIfInBounds_toArray, List.set_cons_zero, List.set_cons_succ]
      refine wpAnyH_take (i := 16) (oi := _) (v := undef) rfl (by kernel_rfl) (by kernel_rfl) (by kernel_rfl) (fun _ _ _ h => h) (Or.inr ⟨by kernel_rfl, rfl⟩) hHeld ?restd16
      try simp only [List.getElem_toArray, List.getElem_cons_succ, List.getElem_cons_zero, Act.put, List.setIfInBounds_toArray, List.set_cons_zero, List.set_cons_succ]
      refine wpAnyH_take (i := 17) (oi := _) (v := undef) rfl (by kernel_rfl) (by kernel_rfl) (by kernel_rfl) (fun _ _ _ h => h) (Or.inr ⟨by kernel_rfl, rfl⟩) hHeld ?restd17
      try simp only [List.getElem_toArray, List.getElem_cons_succ, List.getElem_cons_zero, Act.put, List.setIfInBounds_toArray, List.set_cons_zero, List.set_cons_succ]
      refine wpAnyH_take (i := 18) (oi := _) (v := undef) rfl (by kernel_rfl) (by kernel_rfl) (by kernel_rfl) (fun _ _ _ h => h) (Or.inr ⟨by kernel_rfl, rfl⟩) hHeld ?restd18
      try simp only [List.getElem_toArray, List.getElem_cons_succ, List.getElem_cons_zero, Act.put, List.setIfInBounds_toArray, List.set_cons_zero, List.set_cons_succ]
      refine wpAnyH_take (i := 19) (oi := _) (v := undef) rfl (by kernel_rfl) (by kernel_rfl) (by kernel_rfl) (fun _ _ _ h => h) (Or.inr ⟨by kernel_rfl, rfl⟩) hHeld ?restd19
      try simp only [List.getElem_toArray, List.getElem_cons_succ, List.getElem_cons_zero, Act.put, List.setIfInBounds_toArray, List.set_cons_zero, List.set_cons_succ]
      refine wpAnyH_take (i := 20) (oi := _) (v := undef) rfl (by kernel_rfl) (by kernel_rfl) (by kernel_rfl) (fun _ _ _ h => h) (Or.inr ⟨by kernel_rfl, rfl⟩) hHeld ?restd20
      try simp only [List.getElem_toArray, List.getElem_cons_succ, List.getElem_cons_zero, Act.put, List.setIfInBounds_toArray, List.set_cons_zero, List.set_cons_succ]
      refine wpAnyH_take (i := 21) (oi := _) (v := undef) rfl (by kernel_rfl) (by kernel_rfl) (by kernel_rfl) (fun _ _ _ h => h) (Or.inr ⟨by kernel_rfl, rfl⟩) hHeld ?restd21
      try simp only [List.getElem_toArray, List.getElem_cons_succ, List.getElem_cons_zero, Act.put, List.setIfInBounds_toArray, List.set_cons_zero, List.set_cons_succ]
      refine wpAnyH_take (i := 22) (oi := _) (v := ?vvd22) rfl (by kernel_rfl) (by kernel_rfl) (by kernel_rfl) (fun _ _ _ h => h) (Or.inl ⟨by kernel_rfl, ?hyd22⟩) hHeld ?restd22
      case hyd22 => intro w hSw; (try dsimp only at hSw); (try go_split_ands); go_simp; try with_reducible rfl
      try simp only [List.getElem_toArray, List.getElem_cons_succ, List.getElem_cons_zero, Act.put, List.setIfInBounds_toArray, List.set_cons_zero, List.set_cons_succ]
      refine wpAnyH_done (by kernel_rfl) ?_ _
      go_wp2_with fail
      go_meet
      exact ⟨rfl, hBw⟩
  case rest =>
  obtain ⟨rfl, hBx⟩ := hcut
  generalize wc = w5 at *
  have hF5 := hF4.on hBx
  have hR5 := hR4.on hBx
  have hp5 := hp3.on1 hBx
  have hB5 := hB4.trans (hBx.mono hB4.size)
  clear hF4 hR4 hp3 hB4 hBx
  go_upto_region 11 with fail
  go_cut [10] from 59 (fun s wx => ∃ pm cm lm, s = .slice pm (m + 1) cm ∧ lm.length = m + 1 ∧ allD4 lm ∧ RdS wx pm lm ∧ m + 1 ≤ cm ∧ cm ≤ maxLen ∧ Below w5.heap.size w5 wx)
  case first =>
    have hFd : Arr .u32 26 w.heap.size f.toL w5.drew := hF5
    have hpd : RdS w5.drew p1 q := hp5
    have hBw : Below w5.heap.size w5 w5.drew := (Below.refl _ _).drew
    have hlf : allD4 (q ++ [f]) := fun d hd => by
      rcases List.mem_append.mp hd with h | h
      · exact hqo d h
      · simp at h; subst h; exact hfo
    have hq1000 : q.length ≤ 1000 := by have := HM.out; omega
    have hql2 : ([] ++ q : List D4).length ≤ 1000 := hq1000
    have hn1000 : ([] : List D4).length ≤ 1000 := by decide
    have hf1000 : [f].length ≤ 1000 := by simp
    have hend : ∀ (v : Value) (W : World), OwnsD w5.heap.size v (([] ++ q) ++ [f]) W → Below w5.heap.size w5 W → ∃ pm cm lm, v = .slice pm (m + 1) cm ∧ lm.length = m + 1 ∧ allD4 lm ∧ RdS W pm lm ∧ m + 1 ≤ cm ∧ cm ≤ maxLen ∧ Below w5.heap.size w5 W := fun v W hO hB => by
      obtain ⟨pm, cm, e, h1, h2, h3⟩ := hO.form
      have hlen : (([] ++ q) ++ [f] : List D4).length = m + 1 := by simp [HM.out]
      rw [hlen] at e h1
      exact ⟨pm, cm, _, e, hlen, hlf, h3, h1, h2, hB⟩
    have hkS : ∀ (W : World), Below w5.heap.size w5 W → (W.cell? ⟨w.heap.size, 0, none⟩ = some (.int .u32 f.d0) ∧ W.cell? ⟨w.heap.size, 1, none⟩ = some (.int .u32 f.d1) ∧ W.cell? ⟨w.heap.size, 2, none⟩ = some (.int .u32 f.d2) ∧ W.cell? ⟨w.heap.size, 3, none⟩ = some (.int .u32 f.d3)) := fun W h => keep1b h hF5.c4
    refine wp_region_held_drew (S := fun w' => w'.cell? ⟨w.heap.size, 0, none⟩ = some (.int .u32 f.d0) ∧ w'.cell? ⟨w.heap.size, 1, none⟩ = some (.int .u32 f.d1) ∧ w'.cell? ⟨w.heap.size, 2, none⟩ = some (.int .u32 f.d2) ∧ w'.cell? ⟨w.heap.size, 3, none⟩ = some (.int .u32 f.d3)) (by kernel_rfl) hFd.c4 (fun hHeld => ?_)
    generalize w5.drew = W0 at *
    refine wpAnyH_take (i := 1) (oi := _) (v := ?vvm1) rfl (by kernel_rfl) (by kernel_rfl) (by kernel_rfl) (fun _ _ _ h => h) (Or.inl ⟨by kernel_rfl, ?hym1⟩) hHeld ?restm1
    case hym1 => intro w hSw; go_simp; try with_reducible rfl
    try simp only [List.getElem_toArray, List.getElem_cons_succ, List.getElem_cons_zero, Act.put, List.setIfInBounds_toArray, List.set_cons_zero, List.set_cons_succ]
    refine wpAnyH_take (i := 3) (oi := _) (v := ?vvm3) rfl (by kernel_rfl) (by kernel_rfl) (by kernel_rfl) (fun _ _ _ h => h) (Or.inl ⟨by kernel_rfl, ?hym3⟩) hHeld ?restm3
    case hym3 => intro w hSw; (try dsimp only at hSw); (try go_split_ands); go_simp; try with_reducible rfl
    try simp only [List.getElem_toArray, List.getElem_cons_succ, List.getElem_cons_zero, Act.put, List.setIfInBounds_toArray, List.set_cons_zero, List.set_cons_succ]
    refine wpAnyH_ready (rs := [0, 4]) (by kernel_rfl) (by simp) ?_
    refine AllReadyH.cons (o := _) rfl (fun K hK => ?_) ?_
    · go_simp
      have hO1 := ownsD_lit0 W0 w5.heap.size hBw.size
      have hB1' := hBw.alloc hBw.size (.cells #[] 26)
      generalize W0.alloc (.cells #[] 26) = W1 at *
      generalize hv1 : Value.slice (some ⟨W0.heap.size, 0, none⟩) 0 0 = v1 at *
      refine hK.out _ _ (hkS _ hB1') (fun hHeld => ?_)
      clear hK K
      try simp only [List.getElem_toArray, List.getElem_cons_succ, List.getElem_cons_zero, Act.put, List.setIfInBounds_toArray, List.set_cons_zero, List.set_cons_succ]
      refine wpAnyH_ready (rs := [2, 4]) (by kernel_rfl) (by simp) ?_
      refine AllReadyH.cons (o := _) rfl (fun K hK => ?_) ?_
      · refine step_app rfl _ _ rfl w5.heap.size v1 [] q rfl hO1 p1 m c1 rfl HM.out.symm (hp5.on1 hB1') hn1000 hq1000 hB1'.size ?_
        intro v2 W2 hO2 hg2
        have hB2' := own_below hB1' hO1 hg2
        refine hK.out _ _ (hkS _ hB2') (fun hHeld => ?_)
        clear hK K
        try simp only [List.getElem_toArray, List.getElem_cons_succ, List.getElem_cons_zero, Act.put, List.setIfInBounds_toArray, List.set_cons_zero, List.set_cons_succ]
        refine wpAnyH_ready (rs := [4]) (by kernel_rfl) (by simp) ?_
        refine AllReadyH.cons (o := _) rfl (fun K hK => ?_) AllReadyH.nil
        go_simp
        have hL3 := rdl1 f W2
        have hB3' := hB2'.alloc hB2'.size (.cells #[.int .u32 f.d0, .int .u32 f.d1, .int .u32 f.d2, .int .u32 f.d3] 26)
        have hN3 := own_new hO2
        have hO3 := own_al hO2 (.cells #[.int .u32 f.d0, .int .u32 f.d1, .int .u32 f.d2, .int .u32 f.d3] 26)
        generalize W2.alloc (.cells #[.int .u32 f.d0, .int .u32 f.d1, .int .u32 f.d2, .int .u32 f.d3] 26) = W3 at *
        generalize W2.heap.size = L3 at *
        refine hK.out _ _ (hkS _ hB3') (fun hHeld => ?_)
        clear hK K
        try simp only [List.getElem_toArray, List.getElem_cons_succ, List.getElem_cons_zero, Act.put, List.setIfInBounds_toArray, List.set_cons_zero, List.set_cons_succ]
        refine wpAnyH_ready (rs := [5]) (by kernel_rfl) (by simp) ?_
        refine AllReadyH.cons (o := _) rfl (fun K hK => ?_) AllReadyH.nil
        refine step_app rfl _ _ rfl w5.heap.size v2 ([] ++ q) [f] rfl hO3 (some ⟨L3, 0, none⟩) 1 1 rfl rfl (fun _ => ⟨L3, 0, rfl, hL3⟩) hql2 hf1000 hB3'.size ?_
        intro v4 W4 hO4 hg4
        have hB4' := own_below hB3' hO3 hg4
        refine hK.out _ _ (hkS _ hB4') (fun hHeld => ?_)
        clear hK K
        try simp only [List.getElem_toArray, List.getElem_cons_succ, List.getElem_cons_zero, Act.put, List.setIfInBounds_toArray, List.set_cons_zero, List.set_cons_succ]
        refine wpAnyH_take (i := 6) (oi := _) (v := ?vvz5) rfl (by kernel_rfl) (by kernel_rfl) (by kernel_rfl) (fun _ _ _ h => h) (Or.inl ⟨by kernel_rfl, ?hyz5⟩) hHeld ?restz5
        case hyz5 => intro w hSw; go_simp; try with_reducible rfl
        try simp only [List.getElem_toArray, List.getElem_cons_succ, List.getElem_cons_zero, Act.put, List.setIfInBounds_toArray, List.set_cons_zero, List.set_cons_succ]
        refine wpAnyH_done (by kernel_rfl) ?_ _
        go_wp2_with fail
        go_meet
        exact hend _ _ hO4 hB4'
      refine AllReadyH.cons (o := _) rfl (fun K hK => ?_) AllReadyH.nil
      · go_simp
        have hL6 := rdl1 f W1
        have hB6' := hB1'.alloc hB1'.size (.cells #[.int .u32 f.d0, .int .u32 f.d1, .int .u32 f.d2, .int .u32 f.d3] 26)
        have hN6 := own_new hO1
        have hO6 := own_al hO1 (.cells #[.int .u32 f.d0, .int .u32 f.d1, .int .u32 f.d2, .int .u32 f.d3] 26)
        generalize W1.alloc (.cells #[.int .u32 f.d0, .int .u32 f.d1, .int .u32 f.d2, .int .u32 f.d3] 26) = W6 at *
        generalize W1.heap.size = L6 at *
        refine hK.out _ _ (hkS _ hB6') (fun hHeld => ?_)
        clear hK K
        try simp only [List.getElem_toArray, List.getElem_cons_succ, List.getElem_cons_zero, Act.put, List.setIfInBounds_toArray, List.set_cons_zero, List.set_cons_succ]
        refine wpAnyH_ready (rs := [2]) (by kernel_rfl) (by simp) ?_
        refine AllReadyH.cons (o := _) rfl (fun K hK => ?_) AllReadyH.nil
        refine step_app rfl _ _ rfl w5.heap.size v1 [] q rfl hO6 p1 m c1 rfl HM.out.symm (hp5.on1 hB6') hn1000 hq1000 hB6'.size ?_
        intro v7 W7 hO7 hg7
        have hB7' := own_below hB6' hO6 hg7
        have hL7 := rdl_grown hL6 hg7 hN6
        refine hK.out _ _ (hkS _ hB7') (fun hHeld => ?_)
        clear hK K
        try simp only [List.getElem_toArray, List.getElem_cons_succ, List.getElem_cons_zero, Act.put, List.setIfInBounds_toArray, List.set_cons_zero, List.set_cons_succ]
        refine wpAnyH_ready (rs := [5]) (by kernel_rfl) (by simp) ?_
        refine AllReadyH.cons (o := _) rfl (fun K hK => ?_) AllReadyH.nil
        refine step_app rfl _ _ rfl w5.heap.size v7 ([] ++ q) [f] rfl hO7 (some ⟨L6, 0, none⟩) 1 1 rfl rfl (fun _ => ⟨L6, 0, rfl, hL7⟩) hql2 hf1000 hB7'.size ?_
        intro v8 W8 hO8 hg8
        have hB8' := own_below hB7' hO7 hg8
        refine hK.out _ _ (hkS _ hB8') (fun hHeld => ?_)
        clear hK K
        try simp only [List.getElem_toArray, List.getElem_cons_succ, List.getElem_cons_zero, Act.put, List.setIfInBounds_toArray, List.set_cons_zero, List.set_cons_succ]
        refine wpAnyH_take (i := 6) (oi := _) (v := ?vvz9) rfl (by kernel_rfl) (by kernel_rfl) (by kernel_rfl) (fun _ _ _ h => h) (Or.inl ⟨by kernel_rfl, ?hyz9⟩) hHeld ?restz9
        case hyz9 => intro w hSw; go_simp; try with_reducible rfl
        try simp only [List.getElem_toArray, List.getElem_cons_succ, List.getElem_cons_zero, Act.put, List.setIfInBounds_toArray, List.set_cons_zero, List.set_cons_succ]
        refine wpAnyH_done (by kernel_rfl) ?_ _
        go_wp2_with fail
        go_meet
        exact hend _ _ hO8 hB8'
    refine AllReadyH.cons (o := _) rfl (fun K hK => ?_) AllReadyH.nil
    · go_simp
      have hL10 := rdl1 f W0
      have hB10' := hBw.alloc hBw.size (.cells #[.int .u32 f.d0, .int .u32 f.d1, .int .u32 f.d2, .int .u32 f.d3] 26)
      generalize W0.alloc (.cells #[.int .u32 f.d0, .int .u32 f.d1, .int .u32 f.d2, .int .u32 f.d3] 26) = W10 at *
      generalize W0.heap.size = L10 at *
      refine hK.out _ _ (hkS _ hB10') (fun hHeld => ?_)
      clear hK K
      try simp only [List.getElem_toArray, List.getElem_cons_succ, List.getElem_cons_zero, Act.put, List.setIfInBounds_toArray, List.set_cons_zero, List.set_cons_succ]
      refine wpAnyH_ready (rs := [0]) (by kernel_rfl) (by simp) ?_
      refine AllReadyH.cons (o := _) rfl (fun K hK => ?_) AllReadyH.nil
      go_simp
      have hO11 := ownsD_lit0 W10 w5.heap.size hB10'.size
      have hB11' := hB10'.alloc hB10'.size (.cells #[] 26)
      have hN11 := lit_ne hL10.1
      have hL11 := rdl_al6 hL10 (.cells #[] 26)
      generalize W10.alloc (.cells #[] 26) = W11 at *
      generalize hv11 : Value.slice (some ⟨W10.heap.size, 0, none⟩) 0 0 = v11 at *
      refine hK.out _ _ (hkS _ hB11') (fun hHeld => ?_)
      clear hK K
      try simp only [List.getElem_toArray, List.getElem_cons_succ, List.getElem_cons_zero, Act.put, List.setIfInBounds_toArray, List.set_cons_zero, List.set_cons_succ]
      refine wpAnyH_ready (rs := [2]) (by kernel_rfl) (by simp) ?_
      refine AllReadyH.cons (o := _) rfl (fun K hK => ?_) AllReadyH.nil
      refine step_app rfl _ _ rfl w5.heap.size v11 [] q rfl hO11 p1 m c1 rfl HM.out.symm (hp5.on1 hB11') hn1000 hq1000 hB11'.size ?_
      intro v12 W12 hO12 hg12
      have hB12' := own_below hB11' hO11 hg12
      have hL12 := rdl_grown hL11 hg12 hN11
      refine hK.out _ _ (hkS _ hB12') (fun hHeld => ?_)
      clear hK K
      try simp only [List.getElem_toArray, List.getElem_cons_succ, List.getElem_cons_zero, Act.put, List.setIfInBounds_toArray, List.set_cons_zero, List.set_cons_succ]
      refine wpAnyH_ready (rs := [5]) (by kernel_rfl) (by simp) ?_
      refine AllReadyH.cons (o := _) rfl (fun K hK => ?_) AllReadyH.nil
      refine step_app rfl _ _ rfl w5.heap.size v12 ([] ++ q) [f] rfl hO12 (some ⟨L10, 0, none⟩) 1 1 rfl rfl (fun _ => ⟨L10, 0, rfl, hL12⟩) hql2 hf1000 hB12'.size ?_
      intro v13 W13 hO13 hg13
      have hB13' := own_below hB12' hO12 hg13
      refine hK.out _ _ (hkS _ hB13') (fun hHeld => ?_)
      clear hK K
      try simp only [List.getElem_toArray, List.getElem_cons_succ, List.getElem_cons_zero, Act.put, List.setIfInBounds_toArray, List.set_cons_zero, List.set_cons_succ]
      refine wpAnyH_take (i := 6) (oi := _) (v := ?vvz14) rfl (by kernel_rfl) (by kernel_rfl) (by kernel_rfl) (fun _ _ _ h => h) (Or.inl ⟨by kernel_rfl, ?hyz14⟩) hHeld ?restz14
      case hyz14 => intro w hSw; go_simp; try with_reducible rfl
      try simp only [List.getElem_toArray, List.getElem_cons_succ, List.getElem_cons_zero, Act.put, List.setIfInBounds_toArray, List.set_cons_zero, List.set_cons_succ]
      refine wpAnyH_done (by kernel_rfl) ?_ _
      go_wp2_with fail
      go_meet
      exact hend _ _ hO13 hB13'
  case rest =>
  obtain ⟨pm, cm, lm, rfl, hlm, hlo, hpm0, hpm, hcm, hBx⟩ := hcut
  generalize wc = w6 at *
  have HLM := Lib.hid hlm
  have HCF : Hid (checkD y (n : Int) (I : Int) x lm = false) := HCO.out lm (by rw [hlm, HM.out]; omega)
  have hF6 := hF5.on hBx
  have hR6 := hR5.on hBx
  have hp6 := hp5.on1 hBx
  have hB6 := hB5.trans (hBx.mono hB5.size)
  clear hlm hF5 hR5 hp5 hB5 hBx
  go_upto_region 12 with fail
  go_cut [95] from 65 (fun s wx => s = .bool false ∧ Below w6.heap.size w6 wx)
  case first =>
    have hB7 := hB6.drew
    have hBw : Below w6.heap.size w6 w6.drew := (Below.refl _ _).drew
    have hF7 : Arr .u32 26 w.heap.size f.toL w6.drew := hF6
    have hR7 : Arr .u32 26 R y.toL w6.drew := hR6
    have hD7 := HDG.out.on hB7 hrd.1
    have HS0 : Hid (w6.drew.cell? ⟨w.heap.size, 0, none⟩ = some (.int .u32 f.d0) ∧ w6.drew.cell? ⟨w.heap.size, 1, none⟩ = some (.int .u32 f.d1) ∧ w6.drew.cell? ⟨w.heap.size, 2, none⟩ = some (.int .u32 f.d2) ∧ w6.drew.cell? ⟨w.heap.size, 3, none⟩ = some (.int .u32 f.d3) ∧ w6.drew.cell? ⟨R, 0, none⟩ = some (.int .u32 y.d0) ∧ w6.drew.cell? ⟨R, 1, none⟩ = some (.int .u32 y.d1) ∧ w6.drew.cell? ⟨R, 2, none⟩ = some (.int .u32 y.d2) ∧ w6.drew.cell? ⟨R, 3, none⟩ = some (.int .u32 y.d3) ∧ w6.drew.cell? ⟨b, o + I * 4, none⟩ = some (.int .u32 x.d0) ∧ w6.drew.cell? ⟨b, o + I * 4 + 1, none⟩ = some (.int .u32 x.d1) ∧ w6.drew.cell? ⟨b, o + I * 4 + 2, none⟩ = some (.int .u32 x.d2) ∧ w6.drew.cell? ⟨b, o + I * 4 + 3, none⟩ = some (.int .u32 x.d3)) := ⟨hF7.c4.1, hF7.c4.2.1, hF7.c4.2.2.1, hF7.c4.2.2.2, hR7.c4.1, hR7.c4.2.1, hR7.c4.2.2.1, hR7.c4.2.2.2, hD7⟩
    have hp7 : RdS w6.drew p1 q := hp6
    have hpm7 : RdS w6.drew pm lm := hpm0
    have hT7 := hT.below hB7
    clear hF7 hR7 hD7
    obtain ⟨gm, hgm⟩ : ∃ gm, decide (0 < m) = gm := ⟨_, rfl⟩
    cases gm
    ·
      refine wp_region_held_drew (S := fun w' => w'.cell? ⟨w.heap.size, 0, none⟩ = some (.int .u32 f.d0) ∧ w'.cell? ⟨w.heap.size, 1, none⟩ = some (.int .u32 f.d1) ∧ w'.cell? ⟨w.heap.size, 2, none⟩ = some (.int .u32 f.d2) ∧ w'.cell? ⟨w.heap.size, 3, none⟩ = some (.int .u32 f.d3) ∧ w'.cell? ⟨R, 0, none⟩ = some (.int .u32 y.d0) ∧ w'.cell? ⟨R, 1, none⟩ = some (.int .u32 y.d1) ∧ w'.cell? ⟨R, 2, none⟩ = some (.int .u32 y.d2) ∧ w'.cell? ⟨R, 3, none⟩ = some (.int .u32 y.d3) ∧ w'.cell? ⟨b, o + I * 4, none⟩ = some (.int .u32 x.d0) ∧ w'.cell? ⟨b, o + I * 4 + 1, none⟩ = some (.int .u32 x.d1) ∧ w'.cell? ⟨b, o + I * 4 + 2, none⟩ = some (.int .u32 x.d2) ∧ w'.cell? ⟨b, o + I * 4 + 3, none⟩ = some (.int .u32 x.d3)) (by kernel_rfl) (HS0.out) (fun hHeld => ?_)
      refine wpAnyH_take (i := 0) (oi := _) (v := ?vve0) rfl (by kernel_rfl) (by kernel_rfl) (by kernel_rfl) (fun _ _ _ h => h) (Or.inl ⟨by kernel_rfl, ?hye0⟩) hHeld ?reste0
      case hye0 => intro w hSw; (try dsimp only at hSw); (try go_split_ands); go_simp; try with_reducible rfl
      try simp only [List.getElem_toArray, List.getElem_cons_zero, Act.put, List.setIfInBounds_toArray, List.set_cons_zero, List.set_cons_succ]
      refine wpAnyH_take (i := 1) (oi := _) (v := ?vve1) rfl (by kernel_rfl) (by kernel_rfl) (by kernel_rfl) (fun _ _ _ h => h) (Or.inl ⟨by kernel_rfl, ?hye1⟩) hHeld ?reste1
      case hye1 => intro w hSw; (try dsimp only at hSw); (try go_split_ands); go_simp; try with_reducible rfl
      try simp only [List.getElem_toArray, List.getElem_cons_succ, List.getElem_cons_zero, Act.put, List.setIfInBounds_toArray, List.set_cons_zero, List.set_cons_succ]
      refine wpAnyH_take (i := 2) (oi := _) (v := ?vve2) rfl (by kernel_rfl) (by kernel_rfl) (by kernel_rfl) (fun _ _ _ h => h) (Or.inl ⟨by kernel_rfl, ?hye2⟩) hHeld ?reste2
      case hye2 => intro w hSw; (try dsimp only at hSw); (try go_split_ands); go_simp; try with_reducible rfl
      try simp only [List.getElem_toArray, List.getElem_cons_succ, List.getElem_cons_zero, Act.put, List.setIfInBounds_toArray, List.set_cons_zero, List.set_cons_succ]
      refine wpAnyH_take (i := 3) (oi := _) (v := ?vve3) rfl (by kernel_rfl) (by kernel_rfl) (by kernel_rfl) (fun _ _ _ h => h) (Or.inl ⟨by kernel_rfl, ?hye3⟩) hHeld ?reste3
      case hye3 => intro w hSw; (try dsimp only at hSw); (try go_split_ands); go_simp; try with_reducible rfl
      try simp only [List.getElem_toArray, List.getElem_cons_succ, List.getElem_cons_zero, Act.put, List.setIfInBounds_toArray, List.set_cons_zero, List.set_cons_succ]
      refine wpAnyH_take (i := 4) (oi := _) (v := ?vve4) rfl (by kernel_rfl) (by kernel_rfl) (by kernel_rfl) (fun _ _ _ h => h) (Or.inl ⟨by kernel_rfl, ?hye4⟩) hHeld ?reste4
      case hye4 => intro w hSw; (try dsimp only at hSw); (try go_split_ands); go_simp; try with_reducible rfl
      try simp only [List.getElem_toArray, List.getElem_cons_succ, List.getElem_cons_zero, Act.put, List.setIfInBounds_toArray, List.set_cons_zero, List.set_cons_succ]
      refine wpAnyH_take (i := 5) (oi := _) (v := ?vve5) rfl (by kernel_rfl) (by kernel_rfl) (by kernel_rfl) (fun _ _ _ h => h) (Or.inl ⟨by kernel_rfl, ?hye5⟩) hHeld ?reste5
      case hye5 => intro w hSw; (try dsimp only at hSw); (try go_split_ands); go_simp; try with_reducible rfl
      try simp only [List.getElem_toArray, List.getElem_cons_succ, List.getElem_cons_zero, Act.put, List.setIfInBounds_toArray, List.set_cons_zero, List.set_cons_succ]
      refine wpAnyH_take (i := 6) (oi := _) (v := ?vve6) rfl (by kernel_rfl) (by kernel_rfl) (by kernel_rfl) (fun _ _ _ h => h) (Or.inl ⟨by kernel_rfl, ?hye6⟩) hHeld ?reste6
      case hye6 => intro w hSw; (try dsimp only at hSw); (try go_split_ands); go_simp; try with_reducible rfl
      try simp only [List.getElem_toArray, List.getElem_cons_succ, List.getElem_cons_zero, Act.put, List.setIfInBounds_toArray, List.set_cons_zero, List.set_cons_succ]
      refine wpAnyH_take (i := 7) (oi := _) (v := ?vve7) rfl (by kernel_rfl) (by kernel_rfl) (by kernel_rfl) (fun _ _ _ h => h) (Or.inl ⟨by kernel_rfl, ?hye7⟩) hHeld ?reste7
      case hye7 => intro w hSw; (try dsimp only at hSw); (try go_split_ands); go_simp; try with_reducible rfl
      try simp only [List.getElem_toArray, List.getElem_cons_succ, List.getElem_cons_zero, Act.put, List.setIfInBounds_toArray, List.set_cons_zero, List.set_cons_succ]
      refine wpAnyH_take (i := 8) (oi := _) (v := ?vve8) rfl (by kernel_rfl) (by kernel_rfl) (by kernel_rfl) (fun _ _ _ h => h) (Or.inl ⟨by kernel_rfl, ?hye8⟩) hHeld ?reste8
      case hye8 => intro w hSw; (try dsimp only at hSw); (try go_split_ands); go_simp; try with_reducible rfl
      try simp only [List.getElem_toArray, List.getElem_cons_succ, List.getElem_cons_zero, Act.put, List.setIfInBounds_toArray, List.set_cons_zero, List.set_cons_succ]
      refine wpAnyH_ready (rs := [9]) (by kernel_rfl) (by simp) ?_
      refine AllReadyH.cons (o := _) rfl (fun K hK => ?_) AllReadyH.nil
      go_simp
      go_at_call 16; (with_reducible refine (ccheck_val y x _ _ lm false pm (m + 1) cm _ HLM.out.symm hxo hlo hpm7 hpm hcm hT7 HCF.out).mono ?_); rintro e w8 ⟨rfl, hA8⟩; have hB8 := hBw.trans (hA8.mono hBw.size)
      go_wp2_with fail
      refine hK.out _ _ (keep12 hA8 hHeld) (fun hHeld => ?_)
      clear hK K
      try simp only [List.getElem_toArray, List.getElem_cons_succ, List.getElem_cons_zero, Act.put, List.setIfInBounds_toArray, List.set_cons_zero, List.set_cons_succ]
      refine wpAnyH_take (i := 10) (oi := _) (v := ?vve10) rfl (by kernel_rfl) (by kernel_rfl) (by kernel_rfl) (fun _ _ _ h => h) (Or.inl ⟨by kernel_rfl, ?hye10⟩) hHeld ?reste10
      case hye10 => intro w hSw; (try dsimp only at hSw); (try go_split_ands); go_simp; try with_reducible rfl
      try simp only [List.getElem_toArray, List.getElem_cons_succ, List.getElem_cons_zero, Act.put, List.setIfInBounds_toArray, List.set_cons_zero, List.set_cons_succ]
      refine wpAnyH_take (i := 11) (oi := _) (v := ?vve11) rfl (by kernel_rfl) (by kernel_rfl) (by kernel_rfl) (fun _ _ _ h => h) (Or.inl ⟨by kernel_rfl, ?hye11⟩) hHeld ?reste11
      case hye11 => intro w hSw; (try dsimp only at hSw); (try go_split_ands); go_simp; try with_reducible rfl
      try simp only [List.getElem_toArray, List.getElem_cons_succ, List.getElem_cons_zero, Act.put, List.setIfInBounds_toArray, List.set_cons_zero, List.set_cons_succ]
      refine wpAnyH_take (i := 12) (oi := _) (v := ?vve12) rfl (by kernel_rfl) (by kernel_rfl) (by kernel_rfl) (fun _ _ _ h => h) (Or.inl ⟨by kernel_rfl, ?hye12⟩) hHeld ?reste12
      case hye12 => intro w hSw; (try dsimp only at hSw); (try go_split_ands); go_simp; try with_reducible rfl
      try simp only [List.getElem_toArray, List.getElem_cons_succ, List.getElem_cons_zero, Act.put, List.setIfInBounds_toArray, List.set_cons_zero, List.set_cons_succ]
      refine wpAnyH_take (i := 13) (oi := _) (v := ?vve13) rfl (by kernel_rfl) (by kernel_rfl) (by kernel_rfl) (fun _ _ _ h => h) (Or.inl ⟨by kernel_rfl, ?hye13⟩) hHeld ?reste13
      case hye13 => intro w hSw; (try dsimp only at hSw); (try go_split_ands); go_simp; try with_reducible rfl
      try simp only [List.getElem_toArray, List.getElem_cons_succ, List.getElem_cons_zero, Act.put, List.setIfInBounds_toArray, List.set_cons_zero, List.set_cons_succ]
      refine wpAnyH_take (i := 14) (oi := _) (v := ?vve14) rfl (by kernel_rfl) (by kernel_rfl) (by kernel_rfl) (fun _ _ _ h => h) (Or.inl ⟨by kernel_rfl, ?hye14⟩) hHeld ?reste14
      case hye14 => intro w hSw; (try dsimp only at hSw); (try go_split_ands); go_simp; try with_reducible rfl
      try simp only [List.getElem_toArray, List.getElem_cons_succ, List.getElem_cons_zero, Act.put, List.setIfInBounds_toArray, List.set_cons_zero, List.set_cons_succ]
      refine wpAnyH_take (i := 15) (oi := _) (v := undef) rfl (by kernel_rfl) (by kernel_rfl) (by kernel_rfl) (fun _ _ _ h => h) (Or.inr ⟨by kernel_rfl, rfl⟩) hHeld ?reste15
      try simp only [List.getElem_toArray, List.getElem_cons_succ, List.getElem_cons_zero, Act.put, List.setIfInBounds_toArray, List.set_cons_zero, List.set_cons_succ]
      refine wpAnyH_take (i := 16) (oi := _) (v := undef) rfl (by kernel_rfl) (by kernel_rfl) (by kernel_rfl) (fun _ _ _ h => h) (Or.inr ⟨by kernel_rfl, rfl⟩) hHeld ?reste16
      try simp only [List.getElem_toArray, List.getElem_cons_succ, List.getElem_cons_zero, Act.put, List.setIfInBounds_toArray, List.set_cons_zero, List.set_cons_succ]
      refine wpAnyH_take (i := 17) (oi := _) (v := undef) rfl (by kernel_rfl) (by kernel_rfl) (by kernel_rfl) (fun _ _ _ h => h) (Or.inr ⟨by kernel_rfl, rfl⟩) hHeld ?reste17
      try simp only [List.getElem_toArray, List.getElem_cons_succ, List.getElem_cons_zero, Act.put, List.setIfInBounds_toArray, List.set_cons_zero, List.set_cons_succ]
      refine wpAnyH_take (i := 18) (oi := _) (v := undef) rfl (by kernel_rfl) (by kernel_rfl) (by kernel_rfl) (fun _ _ _ h => h) (Or.inr ⟨by kernel_rfl, rfl⟩) hHeld ?reste18
      try simp only [List.getElem_toArray, List.getElem_cons_succ, List.getElem_cons_zero, Act.put, List.setIfInBounds_toArray, List.set_cons_zero, List.set_cons_succ]
      refine wpAnyH_take (i := 19) (oi := _) (v := undef) rfl (by kernel_rfl) (by kernel_rfl) (by kernel_rfl) (fun _ _ _ h => h) (Or.inr ⟨by kernel_rfl, rfl⟩) hHeld ?reste19
      try simp only [List.getElem_toArray, List.getElem_cons_succ, List.getElem_cons_zero, Act.put, List.setIfInBounds_toArray, List.set_cons_zero, List.set_cons_succ]
      refine wpAnyH_take (i := 20) (oi := _) (v := undef) rfl (by kernel_rfl) (by kernel_rfl) (by kernel_rfl) (fun _ _ _ h => h) (Or.inr ⟨by kernel_rfl, rfl⟩) hHeld ?reste20
      try simp only [List.getElem_toArray, List.getElem_cons_succ, List.getElem_cons_zero, Act.put, List.setIfInBounds_toArray, List.set_cons_zero, List.set_cons_succ]
      refine wpAnyH_take (i := 21) (oi := _) (v := undef) rfl (by kernel_rfl) (by kernel_rfl) (by kernel_rfl) (fun _ _ _ h => h) (Or.inr ⟨by kernel_rfl, rfl⟩) hHeld ?reste21
      try simp only [List.getElem_toArray, List.getElem_cons_succ, List.getElem_cons_zero, Act.put, List.setIfInBounds_toArray, List.set_cons_zero, List.set_cons_succ]
      refine wpAnyH_take (i := 22) (oi := _) (v := undef) rfl (by kernel_rfl) (by kernel_rfl) (by kernel_rfl) (fun _ _ _ h => h) (Or.inr ⟨by kernel_rfl, rfl⟩) hHeld ?reste22
      try simp only [List.getElem_toArray, List.getElem_cons_succ, List.getElem_cons_zero, Act.put, List.setIfInBounds_toArray, List.set_cons_zero, List.set_cons_succ]
      refine wpAnyH_take (i := 23) (oi := _) (v := undef) rfl (by kernel_rfl) (by kernel_rfl) (by kernel_rfl) (fun _ _ _ h => h) (Or.inr ⟨by kernel_rfl, rfl⟩) hHeld ?reste23
      try simp only [List.getElem_toArray, List.getElem_cons_succ, List.getElem_cons_zero, Act.put, List.setIfInBounds_toArray, List.set_cons_zero, List.set_cons_succ]
      refine wpAnyH_take (i := 24) (oi := _) (v := undef) rfl (by kernel_rfl) (by kernel_rfl) (by kernel_rfl) (fun _ _ _ h => h) (Or.inr ⟨by kernel_rfl, rfl⟩) hHeld ?reste24
      try simp only [List.getElem_toArray, List.getElem_cons_succ, List.getElem_cons_zero, Act.put, List.setIfInBounds_toArray, List.set_cons_zero, List.set_cons_succ]
      refine wpAnyH_take (i := 25) (oi := _) (v := undef) rfl (by kernel_rfl) (by kernel_rfl) (by kernel_rfl) (fun _ _ _ h => h) (Or.inr ⟨by kernel_rfl, rfl⟩) hHeld ?reste25
      try simp only [List.getElem_toArray, List.getElem_cons_succ, List.getElem_cons_zero, Act.put, List.setIfInBounds_toArray, List.set_cons_zero, List.set_cons_succ]
      refine wpAnyH_take (i := 26) (oi := _) (v := undef) rfl (by kernel_rfl) (by kernel_rfl) (by kernel_rfl) (fun _ _ _ h => h) (Or.inr ⟨by kernel_rfl, rfl⟩) hHeld ?reste26
      try simp only [List.getElem_toArray, List.getElem_cons_succ, List.getElem_cons_zero, Act.put, List.setIfInBounds_toArray, List.set_cons_zero, List.set_cons_succ]
      refine wpAnyH_take (i := 27) (oi := _) (v := undef) rfl (by kernel_rfl) (by kernel_rfl) (by kernel_rfl) (fun _ _ _ h => h) (Or.inr ⟨by kernel_rfl, rfl⟩) hHeld ?reste27
      try simp only [List.getElem_toArray, List.getElem_cons_succ, List.getElem_cons_zero, Act.put, List.setIfInBounds_toArray, List.set_cons_zero, List.set_cons_succ]
      refine wpAnyH_take (i := 28) (oi := _) (v := undef) rfl (by kernel_rfl) (by kernel_rfl) (by kernel_rfl) (fun _ _ _ h => h) (Or.inr ⟨by kernel_rfl, rfl⟩) hHeld ?reste28
      try simp only [List.getElem_toArray, List.getElem_cons_succ, List.getElem_cons_zero, Act.put, List.setIfInBounds_toArray, List.set_cons_zero, List.set_cons_succ]
      refine wpAnyH_take (i := 29) (oi := _) (v := ?vve29) rfl (by kernel_rfl) (by kernel_rfl) (by kernel_rfl) (fun _ _ _ h => h) (Or.inl ⟨by kernel_rfl, ?hye29⟩) hHeld ?reste29
      case hye29 => intro w hSw; (try dsimp only at hSw); (try go_split_ands); go_simp; try with_reducible rfl
      try simp only [List.getElem_toArray, List.getElem_cons_succ, List.getElem_cons_zero, Act.put, List.setIfInBounds_toArray, List.set_cons_zero, List.set_cons_succ]
      refine wpAnyH_take (i := 30) (oi := _) (v := ?vve30) rfl (by kernel_rfl) (by kernel_rfl) (by kernel_rfl) (fun _ _ _ h => h) (Or.inl ⟨by kernel_rfl, ?hye30⟩) hHeld ?reste30
      case hye30 => intro w hSw; (try dsimp only at hSw); (try go_split_ands); go_simp; try with_reducible rfl
      try simp only [List.getElem_toArray, List.getElem_cons_succ, List.getElem_cons_zero, Act.put, List.setIfInBounds_toArray, List.set_cons_zero, List.set_cons_succ]
      refine wpAnyH_done (by kernel_rfl) ?_ _
      go_wp2_with fail
      go_meet
      exact ⟨rfl, hB8⟩
    · have hm1 : 1 ≤ m := by simp at hgm; omega
      obtain ⟨M, hM⟩ : ∃ M, m - 1 = M := ⟨_, rfl⟩
      unfold maxLen at hp2
      have hNw : IntKind.i64.wrap ((m : Int) - 1) = (M : Int) := by rw [IntWalk.i64_in _ (by omega)]; omega
      have hM0 : (0 : Int) ≤ (M : Int) := by omega
      have hMm : (M : Int) ≤ (m : Int) := by omega
      have hMc : (M : Int) ≤ (c1 : Int) := by omega
      have hMc2 : M ≤ c1 := by omega
      have hp2' : c1 ≤ maxLen := hp2
      obtain ⟨bp, op, rfl, hrp⟩ := hp7 (by intro e; have := HM.out; rw [e] at this; simp at this; omega)
      have HTL : Hid (M = (q.take M).length) := by have := HM.out; show _ = _; rw [List.length_take]; omega
      have HTF : Hid (checkD y (n : Int) (I : Int) x (q.take M) = false) := HCO.out _ (by rw [← HTL.out, HM.out]; omega)
      have hto := hqo.take M
      clear hM hm1
      refine wp_region_held_drew (S := fun w' => w'.cell? ⟨w.heap.size, 0, none⟩ = some (.int .u32 f.d0) ∧ w'.cell? ⟨w.heap.size, 1, none⟩ = some (.int .u32 f.d1) ∧ w'.cell? ⟨w.heap.size, 2, none⟩ = some (.int .u32 f.d2) ∧ w'.cell? ⟨w.heap.size, 3, none⟩ = some (.int .u32 f.d3) ∧ w'.cell? ⟨R, 0, none⟩ = some (.int .u32 y.d0) ∧ w'.cell? ⟨R, 1, none⟩ = some (.int .u32 y.d1) ∧ w'.cell? ⟨R, 2, none⟩ = some (.int .u32 y.d2) ∧ w'.cell? ⟨R, 3, none⟩ = some (.int .u32 y.d3) ∧ w'.cell? ⟨b, o + I * 4, none⟩ = some (.int .u32 x.d0) ∧ w'.cell? ⟨b, o + I * 4 + 1, none⟩ = some (.int .u32 x.d1) ∧ w'.cell? ⟨b, o + I * 4 + 2, none⟩ = some (.int .u32 x.d2) ∧ w'.cell? ⟨b, o + I * 4 + 3, none⟩ = some (.int .u32 x.d3)) (by kernel_rfl) (HS0.out) (fun hHeld => ?_)
      refine wpAnyH_take (i := 0) (oi := _) (v := ?vvf0) rfl (by kernel_rfl) (by kernel_rfl) (by kernel_rfl) (fun _ _ _ h => h) (Or.inl ⟨by kernel_rfl, ?hyf0⟩) hHeld ?restf0
      case hyf0 => intro w hSw; (try dsimp only at hSw); (try go_split_ands); go_simp; try with_reducible rfl
      try simp only [List.getElem_toArray, List.getElem_cons_zero, Act.put, List.setIfInBounds_toArray, List.set_cons_zero, List.set_cons_succ]
      refine wpAnyH_take (i := 1) (oi := _) (v := ?vvf1) rfl (by kernel_rfl) (by kernel_rfl) (by kernel_rfl) (fun _ _ _ h => h) (Or.inl ⟨by kernel_rfl, ?hyf1⟩) hHeld ?restf1
      case hyf1 => intro w hSw; (try dsimp only at hSw); (try go_split_ands); go_simp; try with_reducible rfl
      try simp only [List.getElem_toArray, List.getElem_cons_succ, List.getElem_cons_zero, Act.put, List.setIfInBounds_toArray, List.set_cons_zero, List.set_cons_succ]
      refine wpAnyH_take (i := 2) (oi := _) (v := ?vvf2) rfl (by kernel_rfl) (by kernel_rfl) (by kernel_rfl) (fun _ _ _ h => h) (Or.inl ⟨by kernel_rfl, ?hyf2⟩) hHeld ?restf2
      case hyf2 => intro w hSw; (try dsimp only at hSw); (try go_split_ands); go_simp; try with_reducible rfl
      try simp only [List.getElem_toArray, List.getElem_cons_succ, List.getElem_cons_zero, Act.put, List.setIfInBounds_toArray, List.set_cons_zero, List.set_cons_succ]
      refine wpAnyH_take (i := 3) (oi := _) (v := ?vvf3) rfl (by kernel_rfl) (by kernel_rfl) (by kernel_rfl) (fun _ _ _ h => h) (Or.inl ⟨by kernel_rfl, ?hyf3⟩) hHeld ?restf3
      case hyf3 => intro w hSw; (try dsimp only at hSw); (try go_split_ands); go_simp; try with_reducible rfl
      try simp only [List.getElem_toArray, List.getElem_cons_succ, List.getElem_cons_zero, Act.put, List.setIfInBounds_toArray, List.set_cons_zero, List.set_cons_succ]
      refine wpAnyH_take (i := 4) (oi := _) (v := ?vvf4) rfl (by kernel_rfl) (by kernel_rfl) (by kernel_rfl) (fun _ _ _ h => h) (Or.inl ⟨by kernel_rfl, ?hyf4⟩) hHeld ?restf4
      case hyf4 => intro w hSw; (try dsimp only at hSw); (try go_split_ands); go_simp; try with_reducible rfl
      try simp only [List.getElem_toArray, List.getElem_cons_succ, List.getElem_cons_zero, Act.put, List.setIfInBounds_toArray, List.set_cons_zero, List.set_cons_succ]
      refine wpAnyH_take (i := 5) (oi := _) (v := ?vvf5) rfl (by kernel_rfl) (by kernel_rfl) (by kernel_rfl) (fun _ _ _ h => h) (Or.inl ⟨by kernel_rfl, ?hyf5⟩) hHeld ?restf5
      case hyf5 => intro w hSw; (try dsimp only at hSw); (try go_split_ands); go_simp; try with_reducible rfl
      try simp only [List.getElem_toArray, List.getElem_cons_succ, List.getElem_cons_zero, Act.put, List.setIfInBounds_toArray, List.set_cons_zero, List.set_cons_succ]
      refine wpAnyH_take (i := 6) (oi := _) (v := ?vvf6) rfl (by kernel_rfl) (by kernel_rfl) (by kernel_rfl) (fun _ _ _ h => h) (Or.inl ⟨by kernel_rfl, ?hyf6⟩) hHeld ?restf6
      case hyf6 => intro w hSw; (try dsimp only at hSw); (try go_split_ands); go_simp; try with_reducible rfl
      try simp only [List.getElem_toArray, List.getElem_cons_succ, List.getElem_cons_zero, Act.put, List.setIfInBounds_toArray, List.set_cons_zero, List.set_cons_succ]
      refine wpAnyH_take (i := 7) (oi := _) (v := ?vvf7) rfl (by kernel_rfl) (by kernel_rfl) (by kernel_rfl) (fun _ _ _ h => h) (Or.inl ⟨by kernel_rfl, ?hyf7⟩) hHeld ?restf7
      case hyf7 => intro w hSw; (try dsimp only at hSw); (try go_split_ands); go_simp; try with_reducible rfl
      try simp only [List.getElem_toArray, List.getElem_cons_succ, List.getElem_cons_zero, Act.put, List.setIfInBounds_toArray, List.set_cons_zero, List.set_cons_succ]
      refine wpAnyH_take (i := 8) (oi := _) (v := ?vvf8) rfl (by kernel_rfl) (by kernel_rfl) (by kernel_rfl) (fun _ _ _ h => h) (Or.inl ⟨by kernel_rfl, ?hyf8⟩) hHeld ?restf8
      case hyf8 => intro w hSw; (try dsimp only at hSw); (try go_split_ands); go_simp; try with_reducible rfl
      try simp only [List.getElem_toArray, List.getElem_cons_succ, List.getElem_cons_zero, Act.put, List.setIfInBounds_toArray, List.set_cons_zero, List.set_cons_succ]
      refine wpAnyH_ready (rs := [9]) (by kernel_rfl) (by simp) ?_
      refine AllReadyH.cons (o := _) rfl (fun K hK => ?_) AllReadyH.nil
      go_simp
      go_at_call 16; (with_reducible refine (ccheck_val y x _ _ lm false pm (m + 1) cm _ HLM.out.symm hxo hlo hpm7 hpm hcm hT7 HCF.out).mono ?_); rintro e w8 ⟨rfl, hA8⟩; have hB8 := hBw.trans (hA8.mono hBw.size); have hT8 := hT7.below hA8; have hrt : RdS w8 (some ⟨bp, op, none⟩) (q.take M) := fun _ => ⟨bp, op, rfl, (hrp.on hA8).take M⟩
      go_wp2_with fail
      refine hK.out _ _ (keep12 hA8 hHeld) (fun hHeld => ?_)
      clear hK K
      try simp only [List.getElem_toArray, List.getElem_cons_succ, List.getElem_cons_zero, Act.put, List.setIfInBounds_toArray, List.set_cons_zero, List.set_cons_succ]
      refine wpAnyH_take (i := 10) (oi := _) (v := ?vvf10) rfl (by kernel_rfl) (by kernel_rfl) (by kernel_rfl) (fun _ _ _ h => h) (Or.inl ⟨by kernel_rfl, ?hyf10⟩) hHeld ?restf10
      case hyf10 => intro w hSw; (try dsimp only at hSw); (try go_split_ands); go_simp; try with_reducible rfl
      try simp only [List.getElem_toArray, List.getElem_cons_succ, List.getElem_cons_zero, Act.put, List.setIfInBounds_toArray, List.set_cons_zero, List.set_cons_succ]
      refine wpAnyH_take (i := 11) (oi := _) (v := ?vvf11) rfl (by kernel_rfl) (by kernel_rfl) (by kernel_rfl) (fun _ _ _ h => h) (Or.inl ⟨by kernel_rfl, ?hyf11⟩) hHeld ?restf11
      case hyf11 => intro w hSw; (try dsimp only at hSw); (try go_split_ands); go_simp; try with_reducible rfl
      try simp only [List.getElem_toArray, List.getElem_cons_succ, List.getElem_cons_zero, Act.put, List.setIfInBounds_toArray, List.set_cons_zero, List.set_cons_succ]
      refine wpAnyH_take (i := 12) (oi := _) (v := ?vvf12) rfl (by kernel_rfl) (by kernel_rfl) (by kernel_rfl) (fun _ _ _ h => h) (Or.inl ⟨by kernel_rfl, ?hyf12⟩) hHeld ?restf12
      case hyf12 => intro w hSw; (try dsimp only at hSw); (try go_split_ands); go_simp; try with_reducible rfl
      try simp only [List.getElem_toArray, List.getElem_cons_succ, List.getElem_cons_zero, Act.put, List.setIfInBounds_toArray, List.set_cons_zero, List.set_cons_succ]
      refine wpAnyH_take (i := 13) (oi := _) (v := ?vvf13) rfl (by kernel_rfl) (by kernel_rfl) (by kernel_rfl) (fun _ _ _ h => h) (Or.inl ⟨by kernel_rfl, ?hyf13⟩) hHeld ?restf13
      case hyf13 => intro w hSw; (try dsimp only at hSw); (try go_split_ands); go_simp; try with_reducible rfl
      try simp only [List.getElem_toArray, List.getElem_cons_succ, List.getElem_cons_zero, Act.put, List.setIfInBounds_toArray, List.set_cons_zero, List.set_cons_succ]
      refine wpAnyH_take (i := 14) (oi := _) (v := ?vvf14) rfl (by kernel_rfl) (by kernel_rfl) (by kernel_rfl) (fun _ _ _ h => h) (Or.inl ⟨by kernel_rfl, ?hyf14⟩) hHeld ?restf14
      case hyf14 => intro w hSw; (try dsimp only at hSw); (try go_split_ands); go_simp; try with_reducible rfl
      try simp only [List.getElem_toArray, List.getElem_cons_succ, List.getElem_cons_zero, Act.put, List.setIfInBounds_toArray, List.set_cons_zero, List.set_cons_succ]
      refine wpAnyH_take (i := 15) (oi := _) (v := ?vvf15) rfl (by kernel_rfl) (by kernel_rfl) (by kernel_rfl) (fun _ _ _ h => h) (Or.inl ⟨by kernel_rfl, ?hyf15⟩) hHeld ?restf15
      case hyf15 => intro w hSw; (try dsimp only at hSw); (try go_split_ands); go_simp; try with_reducible rfl
      try simp only [List.getElem_toArray, List.getElem_cons_succ, List.getElem_cons_zero, Act.put, List.setIfInBounds_toArray, List.set_cons_zero, List.set_cons_succ]
      refine wpAnyH_take (i := 16) (oi := _) (v := ?vvf16) rfl (by kernel_rfl) (by kernel_rfl) (by kernel_rfl) (fun _ _ _ h => h) (Or.inl ⟨by kernel_rfl, ?hyf16⟩) hHeld ?restf16
      case hyf16 => intro w hSw; (try dsimp only at hSw); (try go_split_ands); go_simp; try with_reducible rfl
      try simp only [List.getElem_toArray, List.getElem_cons_succ, List.getElem_cons_zero, Act.put, List.setIfInBounds_toArray, List.set_cons_zero, List.set_cons_succ]
      refine wpAnyH_take (i := 17) (oi := _) (v := ?vvf17) rfl (by kernel_rfl) (by kernel_rfl) (by kernel_rfl) (fun _ _ _ h => h) (Or.inl ⟨by kernel_rfl, ?hyf17⟩) hHeld ?restf17
      case hyf17 => intro w hSw; (try dsimp only at hSw); (try go_split_ands); go_simp; try with_reducible rfl
      try simp only [List.getElem_toArray, List.getElem_cons_succ, List.getElem_cons_zero, Act.put, List.setIfInBounds_toArray, List.set_cons_zero, List.set_cons_succ]
      refine wpAnyH_take (i := 18) (oi := _) (v := ?vvf18) rfl (by kernel_rfl) (by kernel_rfl) (by kernel_rfl) (fun _ _ _ h => h) (Or.inl ⟨by kernel_rfl, ?hyf18⟩) hHeld ?restf18
      case hyf18 => intro w hSw; (try dsimp only at hSw); (try go_split_ands); go_simp; try with_reducible rfl
      try simp only [List.getElem_toArray, List.getElem_cons_succ, List.getElem_cons_zero, Act.put, List.setIfInBounds_toArray, List.set_cons_zero, List.set_cons_succ]
      refine wpAnyH_take (i := 19) (oi := _) (v := ?vvf19) rfl (by kernel_rfl) (by kernel_rfl) (by kernel_rfl) (fun _ _ _ h => h) (Or.inl ⟨by kernel_rfl, ?hyf19⟩) hHeld ?restf19
      case hyf19 => intro w hSw; (try dsimp only at hSw); (try go_split_ands); go_simp; try with_reducible rfl
      try simp only [List.getElem_toArray, List.getElem_cons_succ, List.getElem_cons_zero, Act.put, List.setIfInBounds_toArray, List.set_cons_zero, List.set_cons_succ]
      refine wpAnyH_take (i := 20) (oi := _) (v := ?vvf20) rfl (by kernel_rfl) (by kernel_rfl) (by kernel_rfl) (fun _ _ _ h => h) (Or.inl ⟨by kernel_rfl, ?hyf20⟩) hHeld ?restf20
      case hyf20 => intro w hSw; (try dsimp only at hSw); (try go_split_ands); go_simp; try with_reducible rfl
      try simp only [List.getElem_toArray, List.getElem_cons_succ, List.getElem_cons_zero, Act.put, List.setIfInBounds_toArray, List.set_cons_zero, List.set_cons_succ]
      refine wpAnyH_take (i := 21) (oi := _) (v := ?vvf21) rfl (by kernel_rfl) (by kernel_rfl) (by kernel_rfl) (fun _ _ _ h => h) (Or.inl ⟨by kernel_rfl, ?hyf21⟩) hHeld ?restf21
      case hyf21 => intro w hSw; (try dsimp only at hSw); (try go_split_ands); go_simp; try with_reducible rfl
      try simp only [List.getElem_toArray, List.getElem_cons_succ, List.getElem_cons_zero, Act.put, List.setIfInBounds_toArray, List.set_cons_zero, List.set_cons_succ]
      refine wpAnyH_take (i := 22) (oi := _) (v := ?vvf22) rfl (by kernel_rfl) (by kernel_rfl) (by kernel_rfl) (fun _ _ _ h => h) (Or.inl ⟨by kernel_rfl, ?hyf22⟩) hHeld ?restf22
      case hyf22 => intro w hSw; (try dsimp only at hSw); (try go_split_ands); go_simp; try with_reducible rfl
      try simp only [List.getElem_toArray, List.getElem_cons_succ, List.getElem_cons_zero, Act.put, List.setIfInBounds_toArray, List.set_cons_zero, List.set_cons_succ]
      refine wpAnyH_take (i := 23) (oi := _) (v := ?vvf23) rfl (by kernel_rfl) (by kernel_rfl) (by kernel_rfl) (fun _ _ _ h => h) (Or.inl ⟨by kernel_rfl, ?hyf23⟩) hHeld ?restf23
      case hyf23 => intro w hSw; (try dsimp only at hSw); (try go_split_ands); go_simp; try with_reducible rfl
      try simp only [List.getElem_toArray, List.getElem_cons_succ, List.getElem_cons_zero, Act.put, List.setIfInBounds_toArray, List.set_cons_zero, List.set_cons_succ]
      refine wpAnyH_take (i := 24) (oi := _) (v := ?vvf24) rfl (by kernel_rfl) (by kernel_rfl) (by kernel_rfl) (fun _ _ _ h => h) (Or.inl ⟨by kernel_rfl, ?hyf24⟩) hHeld ?restf24
      case hyf24 => intro w hSw; (try dsimp only at hSw); (try go_split_ands); go_simp; try with_reducible rfl
      try simp only [List.getElem_toArray, List.getElem_cons_succ, List.getElem_cons_zero, Act.put, List.setIfInBounds_toArray, List.set_cons_zero, List.set_cons_succ]
      refine wpAnyH_take (i := 25) (oi := _) (v := ?vvf25) rfl (by kernel_rfl) (by kernel_rfl) (by kernel_rfl) (fun _ _ _ h => h) (Or.inl ⟨by kernel_rfl, ?hyf25⟩) hHeld ?restf25
      case hyf25 => intro w hSw; (try dsimp only at hSw); (try go_split_ands); go_simp; try with_reducible rfl
      try simp only [List.getElem_toArray, List.getElem_cons_succ, List.getElem_cons_zero, Act.put, List.setIfInBounds_toArray, List.set_cons_zero, List.set_cons_succ]
      refine wpAnyH_take (i := 26) (oi := _) (v := ?vvf26) rfl (by kernel_rfl) (by kernel_rfl) (by kernel_rfl) (fun _ _ _ h => h) (Or.inl ⟨by kernel_rfl, ?hyf26⟩) hHeld ?restf26
      case hyf26 => intro w hSw; (try dsimp only at hSw); (try go_split_ands); go_simp; try with_reducible rfl
      try simp only [List.getElem_toArray, List.getElem_cons_succ, List.getElem_cons_zero, Act.put, List.setIfInBounds_toArray, List.set_cons_zero, List.set_cons_succ]
      refine wpAnyH_take (i := 27) (oi := _) (v := ?vvf27) rfl (by kernel_rfl) (by kernel_rfl) (by kernel_rfl) (fun _ _ _ h => h) (Or.inl ⟨by kernel_rfl, ?hyf27⟩) hHeld ?restf27
      case hyf27 => intro w hSw; (try dsimp only at hSw); (try go_split_ands); go_simp; try with_reducible rfl
      try simp only [List.getElem_toArray, List.getElem_cons_succ, List.getElem_cons_zero, Act.put, List.setIfInBounds_toArray, List.set_cons_zero, List.set_cons_succ]
      refine wpAnyH_ready (rs := [28]) (by kernel_rfl) (by simp) ?_
      refine AllReadyH.cons (o := _) rfl (fun K hK => ?_) AllReadyH.nil
      go_simp
      go_at_call 16; (with_reducible refine (ccheck_val y x _ _ (q.take M) false _ M c1 _ HTL.out hxo hto hrt hMc2 hp2' hT8 HTF.out).mono ?_); rintro e w9 ⟨rfl, hA9⟩; have hB9 := hB8.trans (hA9.mono hB8.size)
      go_wp2_with fail
      refine hK.out _ _ (keep12 hA9 hHeld) (fun hHeld => ?_)
      clear hK K
      try simp only [List.getElem_toArray, List.getElem_cons_succ, List.getElem_cons_zero, Act.put, List.setIfInBounds_toArray, List.set_cons_zero, List.set_cons_succ]
      refine wpAnyH_take (i := 29) (oi := _) (v := ?vvf29) rfl (by kernel_rfl) (by kernel_rfl) (by kernel_rfl) (fun _ _ _ h => h) (Or.inl ⟨by kernel_rfl, ?hyf29⟩) hHeld ?restf29
      case hyf29 => intro w hSw; (try dsimp only at hSw); (try go_split_ands); go_simp; try with_reducible rfl
      try simp only [List.getElem_toArray, List.getElem_cons_succ, List.getElem_cons_zero, Act.put, List.setIfInBounds_toArray, List.set_cons_zero, List.set_cons_succ]
      refine wpAnyH_take (i := 30) (oi := _) (v := ?vvf30) rfl (by kernel_rfl) (by kernel_rfl) (by kernel_rfl) (fun _ _ _ h => h) (Or.inl ⟨by kernel_rfl, ?hyf30⟩) hHeld ?restf30
      case hyf30 => intro w hSw; (try dsimp only at hSw); (try go_split_ands); go_simp; try with_reducible rfl
      try simp only [List.getElem_toArray, List.getElem_cons_succ, List.getElem_cons_zero, Act.put, List.setIfInBounds_toArray, List.set_cons_zero, List.set_cons_succ]
      refine wpAnyH_done (by kernel_rfl) ?_ _
      go_wp2_with fail
      go_meet
      exact ⟨rfl, hB9⟩
  case rest =>
  obtain ⟨rfl, hBx⟩ := hcut
  generalize wc = w7 at *
  have hF7 := hF6.on hBx
  have hR7 := hR6.on hBx
  have hp7 := hp6.on1 hBx
  have hB7 := hB6.trans (hBx.mono hB6.size)
  clear hF6 hR6 hp6 hB6 hBx
  go_upto_region 14 with fail
  have hB8 := hB7.drew
  have hF8 : Arr .u32 26 w.heap.size f.toL w7.drew := hF7
  have hR8 : Arr .u32 26 R y.toL w7.drew := hR7
  have hD8 := HDG.out.on hB8 hrd.1
  have HS0 : Hid (w7.drew.cell? ⟨w.heap.size, 0, none⟩ = some (.int .u32 f.d0) ∧ w7.drew.cell? ⟨w.heap.size, 1, none⟩ = some (.int .u32 f.d1) ∧ w7.drew.cell? ⟨w.heap.size, 2, none⟩ = some (.int .u32 f.d2) ∧ w7.drew.cell? ⟨w.heap.size, 3, none⟩ = some (.int .u32 f.d3) ∧ w7.drew.cell? ⟨R, 0, none⟩ = some (.int .u32 y.d0) ∧ w7.drew.cell? ⟨R, 1, none⟩ = some (.int .u32 y.d1) ∧ w7.drew.cell? ⟨R, 2, none⟩ = some (.int .u32 y.d2) ∧ w7.drew.cell? ⟨R, 3, none⟩ = some (.int .u32 y.d3) ∧ w7.drew.cell? ⟨b, o + I * 4, none⟩ = some (.int .u32 x.d0) ∧ w7.drew.cell? ⟨b, o + I * 4 + 1, none⟩ = some (.int .u32 x.d1) ∧ w7.drew.cell? ⟨b, o + I * 4 + 2, none⟩ = some (.int .u32 x.d2) ∧ w7.drew.cell? ⟨b, o + I * 4 + 3, none⟩ = some (.int .u32 x.d3)) := ⟨hF8.c4.1, hF8.c4.2.1, hF8.c4.2.2.1, hF8.c4.2.2.2, hR8.c4.1, hR8.c4.2.1, hR8.c4.2.2.1, hR8.c4.2.2.2, hD8⟩
  have hp8 : RdS w7.drew p1 q := hp7
  have hT8 := hT.below hB8
  clear hF8 hR8 hD8
  refine wp_region_held_drew (S := fun w' => w'.cell? ⟨w.heap.size, 0, none⟩ = some (.int .u32 f.d0) ∧ w'.cell? ⟨w.heap.size, 1, none⟩ = some (.int .u32 f.d1) ∧ w'.cell? ⟨w.heap.size, 2, none⟩ = some (.int .u32 f.d2) ∧ w'.cell? ⟨w.heap.size, 3, none⟩ = some (.int .u32 f.d3) ∧ w'.cell? ⟨R, 0, none⟩ = some (.int .u32 y.d0) ∧ w'.cell? ⟨R, 1, none⟩ = some (.int .u32 y.d1) ∧ w'.cell? ⟨R, 2, none⟩ = some (.int .u32 y.d2) ∧ w'.cell? ⟨R, 3, none⟩ = some (.int .u32 y.d3) ∧ w'.cell? ⟨b, o + I * 4, none⟩ = some (.int .u32 x.d0) ∧ w'.cell? ⟨b, o + I * 4 + 1, none⟩ = some (.int .u32 x.d1) ∧ w'.cell? ⟨b, o + I * 4 + 2, none⟩ = some (.int .u32 x.d2) ∧ w'.cell? ⟨b, o + I * 4 + 3, none⟩ = some (.int .u32 x.d3)) (by kernel_rfl) (HS0.out) (fun hHeld => ?_)
  refine wpAnyH_take (i := 0) (oi := _) (v := ?vvg0) rfl (by kernel_rfl) (by kernel_rfl) (by kernel_rfl) (fun _ _ _ h => h) (Or.inl ⟨by kernel_rfl, ?hyg0⟩) hHeld ?restg0
  case hyg0 => intro w hSw; (try dsimp only at hSw); (try go_split_ands); go_simp; try with_reducible rfl
  try simp only [List.getElem_toArray, List.getElem_cons_zero, Act.put, List.setIfInBounds_toArray, List.set_cons_zero, List.set_cons_succ]
  refine wpAnyH_take (i := 1) (oi := _) (v := ?vvg1) rfl (by kernel_rfl) (by kernel_rfl) (by kernel_rfl) (fun _ _ _ h => h) (Or.inl ⟨by kernel_rfl, ?hyg1⟩) hHeld ?restg1
  case hyg1 => intro w hSw; (try dsimp only at hSw); (try go_split_ands); go_simp; try with_reducible rfl
  try simp only [List.getElem_toArray, List.getElem_cons_succ, List.getElem_cons_zero, Act.put, List.setIfInBounds_toArray, List.set_cons_zero, List.set_cons_succ]
  refine wpAnyH_take (i := 2) (oi := _) (v := ?vvg2) rfl (by kernel_rfl) (by kernel_rfl) (by kernel_rfl) (fun _ _ _ h => h) (Or.inl ⟨by kernel_rfl, ?hyg2⟩) hHeld ?restg2
  case hyg2 => intro w hSw; (try dsimp only at hSw); (try go_split_ands); go_simp; try with_reducible rfl
  try simp only [List.getElem_toArray, List.getElem_cons_succ, List.getElem_cons_zero, Act.put, List.setIfInBounds_toArray, List.set_cons_zero, List.set_cons_succ]
  refine wpAnyH_take (i := 3) (oi := _) (v := ?vvg3) rfl (by kernel_rfl) (by kernel_rfl) (by kernel_rfl) (fun _ _ _ h => h) (Or.inl ⟨by kernel_rfl, ?hyg3⟩) hHeld ?restg3
  case hyg3 => intro w hSw; (try dsimp only at hSw); (try go_split_ands); go_simp; try with_reducible rfl
  try simp only [List.getElem_toArray, List.getElem_cons_succ, List.getElem_cons_zero, Act.put, List.setIfInBounds_toArray, List.set_cons_zero, List.set_cons_succ]
  refine wpAnyH_take (i := 4) (oi := _) (v := ?vvg4) rfl (by kernel_rfl) (by kernel_rfl) (by kernel_rfl) (fun _ _ _ h => h) (Or.inl ⟨by kernel_rfl, ?hyg4⟩) hHeld ?restg4
  case hyg4 => intro w hSw; (try dsimp only at hSw); (try go_split_ands); go_simp; try with_reducible rfl
  try simp only [List.getElem_toArray, List.getElem_cons_succ, List.getElem_cons_zero, Act.put, List.setIfInBounds_toArray, List.set_cons_zero, List.set_cons_succ]
  refine wpAnyH_take (i := 5) (oi := _) (v := ?vvg5) rfl (by kernel_rfl) (by kernel_rfl) (by kernel_rfl) (fun _ _ _ h => h) (Or.inl ⟨by kernel_rfl, ?hyg5⟩) hHeld ?restg5
  case hyg5 => intro w hSw; (try dsimp only at hSw); (try go_split_ands); go_simp; try with_reducible rfl
  try simp only [List.getElem_toArray, List.getElem_cons_succ, List.getElem_cons_zero, Act.put, List.setIfInBounds_toArray, List.set_cons_zero, List.set_cons_succ]
  refine wpAnyH_take (i := 6) (oi := _) (v := ?vvg6) rfl (by kernel_rfl) (by kernel_rfl) (by kernel_rfl) (fun _ _ _ h => h) (Or.inl ⟨by kernel_rfl, ?hyg6⟩) hHeld ?restg6
  case hyg6 => intro w hSw; (try dsimp only at hSw); (try go_split_ands); go_simp; try with_reducible rfl
  try simp only [List.getElem_toArray, List.getElem_cons_succ, List.getElem_cons_zero, Act.put, List.setIfInBounds_toArray, List.set_cons_zero, List.set_cons_succ]
  refine wpAnyH_take (i := 7) (oi := _) (v := ?vvg7) rfl (by kernel_rfl) (by kernel_rfl) (by kernel_rfl) (fun _ _ _ h => h) (Or.inl ⟨by kernel_rfl, ?hyg7⟩) hHeld ?restg7
  case hyg7 => intro w hSw; (try dsimp only at hSw); (try go_split_ands); go_simp; try with_reducible rfl
  try simp only [List.getElem_toArray, List.getElem_cons_succ, List.getElem_cons_zero, Act.put, List.setIfInBounds_toArray, List.set_cons_zero, List.set_cons_succ]
  refine wpAnyH_ready (rs := [8]) (by kernel_rfl) (by simp) ?_
  refine AllReadyH.cons (o := _) rfl (fun K hK => ?_) AllReadyH.nil
  go_simp
  go_at_call 16; (with_reducible refine (ccheck_val y x _ _ q false p1 m c1 _ HM.out.symm hxo hqo hp8 hp1 hp2 hT8 (HC1.out x q)).mono ?_); rintro e w9 ⟨rfl, hA9⟩; have hB9 := hB8.trans (hA9.mono hB8.size); have hp9 := hp8.on1 hA9; have hT9 := hT8.below hA9
  go_wp2_with fail
  refine hK.out _ _ (keep12 hA9 hHeld) (fun hHeld => ?_)
  clear hK K
  try simp only [List.getElem_toArray, List.getElem_cons_succ, List.getElem_cons_zero, Act.put, List.setIfInBounds_toArray, List.set_cons_zero, List.set_cons_succ]
  refine wpAnyH_take (i := 9) (oi := _) (v := ?vvg9) rfl (by kernel_rfl) (by kernel_rfl) (by kernel_rfl) (fun _ _ _ h => h) (Or.inl ⟨by kernel_rfl, ?hyg9⟩) hHeld ?restg9
  case hyg9 => intro w hSw; (try dsimp only at hSw); (try go_split_ands); go_simp; try with_reducible rfl
  try simp only [List.getElem_toArray, List.getElem_cons_succ, List.getElem_cons_zero, Act.put, List.setIfInBounds_toArray, List.set_cons_zero, List.set_cons_succ]
  refine wpAnyH_take (i := 10) (oi := _) (v := ?vvg10) rfl (by kernel_rfl) (by kernel_rfl) (by kernel_rfl) (fun _ _ _ h => h) (Or.inl ⟨by kernel_rfl, ?hyg10⟩) hHeld ?restg10
  case hyg10 => intro w hSw; (try dsimp only at hSw); (try go_split_ands); go_simp; try with_reducible rfl
  try simp only [List.getElem_toArray, List.getElem_cons_succ, List.getElem_cons_zero, Act.put, List.setIfInBounds_toArray, List.set_cons_zero, List.set_cons_succ]
  refine wpAnyH_take (i := 11) (oi := _) (v := ?vvg11) rfl (by kernel_rfl) (by kernel_rfl) (by kernel_rfl) (fun _ _ _ h => h) (Or.inl ⟨by kernel_rfl, ?hyg11⟩) hHeld ?restg11
  case hyg11 => intro w hSw; (try dsimp only at hSw); (try go_split_ands); go_simp; try with_reducible rfl
  try simp only [List.getElem_toArray, List.getElem_cons_succ, List.getElem_cons_zero, Act.put, List.setIfInBounds_toArray, List.set_cons_zero, List.set_cons_succ]
  refine wpAnyH_take (i := 12) (oi := _) (v := ?vvg12) rfl (by kernel_rfl) (by kernel_rfl) (by kernel_rfl) (fun _ _ _ h => h) (Or.inl ⟨by kernel_rfl, ?hyg12⟩) hHeld ?restg12
  case hyg12 => intro w hSw; (try dsimp only at hSw); (try go_split_ands); go_simp; try with_reducible rfl
  try simp only [List.getElem_toArray, List.getElem_cons_succ, List.getElem_cons_zero, Act.put, List.setIfInBounds_toArray, List.set_cons_zero, List.set_cons_succ]
  refine wpAnyH_take (i := 13) (oi := _) (v := ?vvg13) rfl (by kernel_rfl) (by kernel_rfl) (by kernel_rfl) (fun _ _ _ h => h) (Or.inl ⟨by kernel_rfl, ?hyg13⟩) hHeld ?restg13
  case hyg13 => intro w hSw; (try dsimp only at hSw); (try go_split_ands); go_simp; try with_reducible rfl
  try simp only [List.getElem_toArray, List.getElem_cons_succ, List.getElem_cons_zero, Act.put, List.setIfInBounds_toArray, List.set_cons_zero, List.set_cons_succ]
  refine wpAnyH_take (i := 14) (oi := _) (v := ?vvg14) rfl (by kernel_rfl) (by kernel_rfl) (by kernel_rfl) (fun _ _ _ h => h) (Or.inl ⟨by kernel_rfl, ?hyg14⟩) hHeld ?restg14
  case hyg14 => intro w hSw; (try dsimp only at hSw); (try go_split_ands); go_simp; try with_reducible rfl
  try simp only [List.getElem_toArray, List.getElem_cons_succ, List.getElem_cons_zero, Act.put, List.setIfInBounds_toArray, List.set_cons_zero, List.set_cons_succ]
  refine wpAnyH_take (i := 15) (oi := _) (v := ?vvg15) rfl (by kernel_rfl) (by kernel_rfl) (by kernel_rfl) (fun _ _ _ h => h) (Or.inl ⟨by kernel_rfl, ?hyg15⟩) hHeld ?restg15
  case hyg15 => intro w hSw; (try dsimp only at hSw); (try go_split_ands); go_simp; try with_reducible rfl
  try simp only [List.getElem_toArray, List.getElem_cons_succ, List.getElem_cons_zero, Act.put, List.setIfInBounds_toArray, List.set_cons_zero, List.set_cons_succ]
  refine wpAnyH_take (i := 16) (oi := _) (v := ?vvg16) rfl (by kernel_rfl) (by kernel_rfl) (by kernel_rfl) (fun _ _ _ h => h) (Or.inl ⟨by kernel_rfl, ?hyg16⟩) hHeld ?restg16
  case hyg16 => intro w hSw; (try dsimp only at hSw); (try go_split_ands); go_simp; try with_reducible rfl
  try simp only [List.getElem_toArray, List.getElem_cons_succ, List.getElem_cons_zero, Act.put, List.setIfInBounds_toArray, List.set_cons_zero, List.set_cons_succ]
  refine wpAnyH_take (i := 17) (oi := _) (v := ?vvg17) rfl (by kernel_rfl) (by kernel_rfl) (by kernel_rfl) (fun _ _ _ h => h) (Or.inl ⟨by kernel_rfl, ?hyg17⟩) hHeld ?restg17
  case hyg17 => intro w hSw; (try dsimp only at hSw); (try go_split_ands); go_simp; try with_reducible rfl
  try simp only [List.getElem_toArray, List.getElem_cons_succ, List.getElem_cons_zero, Act.put, List.setIfInBounds_toArray, List.set_cons_zero, List.set_cons_succ]
  refine wpAnyH_take (i := 18) (oi := _) (v := ?vvg18) rfl (by kernel_rfl) (by kernel_rfl) (by kernel_rfl) (fun _ _ _ h => h) (Or.inl ⟨by kernel_rfl, ?hyg18⟩) hHeld ?restg18
  case hyg18 => intro w hSw; (try dsimp only at hSw); (try go_split_ands); go_simp; try with_reducible rfl
  try simp only [List.getElem_toArray, List.getElem_cons_succ, List.getElem_cons_zero, Act.put, List.setIfInBounds_toArray, List.set_cons_zero, List.set_cons_succ]
  refine wpAnyH_take (i := 19) (oi := _) (v := ?vvg19) rfl (by kernel_rfl) (by kernel_rfl) (by kernel_rfl) (fun _ _ _ h => h) (Or.inl ⟨by kernel_rfl, ?hyg19⟩) hHeld ?restg19
  case hyg19 => intro w hSw; (try dsimp only at hSw); (try go_split_ands); go_simp; try with_reducible rfl
  try simp only [List.getElem_toArray, List.getElem_cons_succ, List.getElem_cons_zero, Act.put, List.setIfInBounds_toArray, List.set_cons_zero, List.set_cons_succ]
  refine wpAnyH_take (i := 20) (oi := _) (v := ?vvg20) rfl (by kernel_rfl) (by kernel_rfl) (by kernel_rfl) (fun _ _ _ h => h) (Or.inl ⟨by kernel_rfl, ?hyg20⟩) hHeld ?restg20
  case hyg20 => intro w hSw; (try dsimp only at hSw); (try go_split_ands); go_simp; try with_reducible rfl
  try simp only [List.getElem_toArray, List.getElem_cons_succ, List.getElem_cons_zero, Act.put, List.setIfInBounds_toArray, List.set_cons_zero, List.set_cons_succ]
  refine wpAnyH_ready (rs := [21]) (by kernel_rfl) (by simp) ?_
  refine AllReadyH.cons (o := _) rfl (fun K hK => ?_) AllReadyH.nil
  go_simp
  go_at_call 16; (with_reducible refine (ccheck_val y x _ _ q false p1 m c1 _ HM.out.symm hxo hqo hp9 hp1 hp2 hT9 (HC2.out x q)).mono ?_); rintro e w10 ⟨rfl, hA10⟩; have hB10 := hB9.trans (hA10.mono hB9.size)
  go_wp2_with fail
  refine hK.out _ _ (keep12 hA10 hHeld) (fun hHeld => ?_)
  clear hK K
  try simp only [List.getElem_toArray, List.getElem_cons_succ, List.getElem_cons_zero, Act.put, List.setIfInBounds_toArray, List.set_cons_zero, List.set_cons_succ]
  refine wpAnyH_take (i := 22) (oi := _) (v := ?vvg22) rfl (by kernel_rfl) (by kernel_rfl) (by kernel_rfl) (fun _ _ _ h => h) (Or.inl ⟨by kernel_rfl, ?hyg22⟩) hHeld ?restg22
  case hyg22 => intro w hSw; (try dsimp only at hSw); (try go_split_ands); go_simp; try with_reducible rfl
  try simp only [List.getElem_toArray, List.getElem_cons_succ, List.getElem_cons_zero, Act.put, List.setIfInBounds_toArray, List.set_cons_zero, List.set_cons_succ]
  refine wpAnyH_take (i := 23) (oi := _) (v := ?vvg23) rfl (by kernel_rfl) (by kernel_rfl) (by kernel_rfl) (fun _ _ _ h => h) (Or.inl ⟨by kernel_rfl, ?hyg23⟩) hHeld ?restg23
  case hyg23 => intro w hSw; (try dsimp only at hSw); (try go_split_ands); go_simp; try with_reducible rfl
  try simp only [List.getElem_toArray, List.getElem_cons_succ, List.getElem_cons_zero, Act.put, List.setIfInBounds_toArray, List.set_cons_zero, List.set_cons_succ]
  refine wpAnyH_take (i := 24) (oi := _) (v := ?vvg24) rfl (by kernel_rfl) (by kernel_rfl) (by kernel_rfl) (fun _ _ _ h => h) (Or.inl ⟨by kernel_rfl, ?hyg24⟩) hHeld ?restg24
  case hyg24 => intro w hSw; (try dsimp only at hSw); (try go_split_ands); go_simp; try with_reducible rfl
  try simp only [List.getElem_toArray, List.getElem_cons_succ, List.getElem_cons_zero, Act.put, List.setIfInBounds_toArray, List.set_cons_zero, List.set_cons_succ]
  refine wpAnyH_done (by kernel_rfl) ?_ _
  go_wp2_with fail
  go_ret
  exact ⟨rfl, hB10⟩
theorem other_any (l : List D4) (i : Int) (f : D4) (p : Option Addr) (cap : Nat) (w : World) (hok : allD4 l) (hr : RdS w p l) (hc : l.length ≤ cap) (hm : cap ≤ maxLen) (hfo : f.ok) (hT : TurnsOk w) :
    Calls Tryd.prog 8 #[.slice p l.length cap, .int .i64 i, .agg #[.int .u32 f.d0, .int .u32 f.d1, .int .u32 f.d2, .int .u32 f.d3]] w fun e w' => e = .returned (.bool true) ∧ Below w.heap.size w w' := by
  by_cases h : 30 < l.length ∨ i < 0 ∨ (l.length : Int) ≤ i
  · exact other_long l.length cap i f p w hT h
  · obtain ⟨I, rfl⟩ : ∃ I : Nat, i = (I : Int) := ⟨i.toNat, by omega⟩
    exact other_in l I f p cap w (by omega) (by omega) hok hr hc hm hfo hT
end Go.Proofs.YtnimbclnhgbdcaaDoor
