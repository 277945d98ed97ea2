/-
  The walk of MerkleProves (written by gen_law1.py).
-/
import Derived.Test.YtnimbclnhgbdcaaDoorMkL
import Derived.Test.YtnimbclnhgbdcaaDoorMkV
import Derived.Test.YtnimbclnhgbdcaaDoorMkZC
namespace Go.Proofs.YtnimbclnhgbdcaaDoor
open Go.RowKit

theorem rds_nil (w : World) (p : Option Addr) : RdS w p [] := fun h => absurd rfl h
theorem root_gen (l : List D4) (hle : l.length ≤ 1000000) (hok : allD4 l) (y : D4) (p : Option Addr) (n cap : Nat) (w : World) (hr : RdS w p l) (hn : n = l.length) (hc : n ≤ cap) (hm : cap ≤ maxLen) (hy : rootD l = y) :
    Calls Tryd.prog 14 #[.slice p n cap] w fun e w' => e = .returned (.agg #[.int .u32 y.d0, .int .u32 y.d1, .int .u32 y.d2, .int .u32 y.d3]) ∧ Below w.heap.size w w' := by
  subst hy; subst hn
  exact root_any l hle hok p cap w hr hc hm
theorem rprove_val (l q : List D4) (i b o n cap : Nat) (u : Int) (w : World) (hle : l.length ≤ 1000000) (hok : allD4 l) (hi : i < l.length) (hr : RdL w b o l) (hn : n = l.length) (hu : (i : Int) = u) (hc : n ≤ cap) (hm : cap ≤ maxLen) (hq : wayD l i = q) :
    Calls Tryd.prog 13 #[.slice (some ⟨b, o, none⟩) n cap, .int .i64 u] w fun e w' => ∃ p c, e = .returned (.tuple #[.slice p q.length c, .int .i64 0]) ∧ q.length ≤ c ∧ c ≤ maxLen ∧ RdS w' p q ∧ Below w.heap.size w w' := by
  subst hq; subst hn; subst hu
  refine (rprove_any l i b o cap w hle hok hi hr hc hm).mono ?_
  rintro e w' ⟨v, rfl, hO, hB⟩
  obtain ⟨p, c, rfl, h1, h2, h3⟩ := hO.form
  exact ⟨p, c, rfl, h1, h2, h3, hB⟩
theorem rproveOn_val (l q : List D4) (m b o n cap : Nat) (u : Int) (w : World) (hle : l.length ≤ 1000000) (hok : allD4 l) (h1 : 1 ≤ m) (hml : m ≤ l.length) (hr : RdL w b o l) (hn : n = l.length) (hu : (m : Int) = u) (hc : n ≤ cap) (hm : cap ≤ maxLen) (hq : goesD l m true = q) :
    Calls Tryd.prog 19 #[.slice (some ⟨b, o, none⟩) n cap, .int .i64 u] w fun e w' => ∃ p c, e = .returned (.tuple #[.slice p q.length c, .int .i64 0]) ∧ q.length ≤ c ∧ c ≤ maxLen ∧ RdS w' p q ∧ Below w.heap.size w w' := by
  subst hq; subst hn; subst hu
  refine (rproveOn_any l m b o cap w hle hok h1 hml hr hc hm).mono ?_
  rintro e w' ⟨v, rfl, hO, hB⟩
  obtain ⟨p, c, rfl, h1, h2, h3⟩ := hO.form
  exact ⟨p, c, rfl, h1, h2, h3, hB⟩
theorem wayD_ok : ∀ (n : Nat) (l : List D4) (i : Nat), l.length = n → allD4 l → allD4 (wayD l i) := by
  intro n
  induction n using Nat.strongRecOn with
  | _ n ih =>
    intro l i hn h
    by_cases q : l.length < 2
    · rw [wayD, way_few _ _ _ _ q]; intro d hd; cases hd
    · have h2 : 2 ≤ l.length := by omega
      have hl := half_lt h2
      have hp := half_pos l.length
      by_cases k : i < half l.length
      · rw [wayD, way_left _ _ l i h2 k]
        intro d hd
        rcases List.mem_append.mp hd with q | q
        · exact ih (half l.length) (by omega) (l.take (half l.length)) i (by rw [List.length_take]; omega) (h.take _) d q
        · simp at q; subst q; exact rootD_ok _ _ rfl (h.drop _)
      · rw [wayD, way_right _ _ l i h2 k]
        intro d hd
        rcases List.mem_append.mp hd with q | q
        · exact ih (l.length - half l.length) (by omega) (l.drop (half l.length)) _ (by rw [List.length_drop]) (h.drop _) d q
        · simp at q; subst q; exact rootD_ok _ _ rfl (h.take _)
theorem check_way (l : List D4) (i : Nat) (x : D4) (hx : l[i]? = some x) (hl : l.length ≤ 1000) : checkD (rootD l) (l.length : Int) (i : Int) x (wayD l i) = true := by
  have hi := (List.getElem?_eq_some_iff.mp hx).1
  have hw := way_len pairS noneD 10 l i (by omega)
  unfold checkD
  rw [if_neg (by show ¬ (_ ∨ _ ∨ _ ∨ 20 < (way pairS noneD l i).length); omega)]
  have := up_way pairS noneD l.length l i rfl x hx
  simp only [Int.toNat_natCast]
  show ((up pairS l.length i x (way pairS noneD l i)).2 && sameD (up pairS l.length i x (way pairS noneD l i)).1 (root pairS noneD l)) = true
  rw [this]
  show (true && sameD (root pairS noneD l) (root pairS noneD l)) = true
  rw [(sameD_iff _ _).mpr rfl]; rfl
theorem ccheck_val (root x : D4) (n i : Int) (q : List D4) (bl : Bool) (a : Option Addr) (L cap : Nat) (w : World) (hL : L = q.length) (hxo : x.ok) (hq : allD4 q) (hr : RdS w a q) (hc : L ≤ cap) (hm : cap ≤ maxLen) (hT : TurnsOk w) (hb : checkD root n i x q = bl) :
    Calls Tryd.prog 16 #[.agg #[.int .u32 root.d0, .int .u32 root.d1, .int .u32 root.d2, .int .u32 root.d3], .int .i64 n, .int .i64 i, .agg #[.int .u32 x.d0, .int .u32 x.d1, .int .u32 x.d2, .int .u32 x.d3], .slice a L cap] w fun e w' => e = .returned (.bool bl) ∧ Below w.heap.size w w' := by
  subst hL; subst hb
  exact ccheck_any root x n i q a cap w hxo hq hr hc hm hT
set_option maxHeartbeats 1000000 in
set_option maxRecDepth 100000 in
theorem proves_long (n cap : Nat) (i : Int) (p : Option Addr) (w : World) (hT : TurnsOk w) (h : 40 < n) : Calls Tryd.prog 3 #[.slice p n cap, .int .i64 i] w fun e w' => e = .returned (.bool true) ∧ Below w.heap.size w w' := by
  have hd : decide (40 < (n : Int)) = true := by simp; omega
  go_enter Tryd.func3, Tryd.ntmps3
  go_wp2_with fail
  refine (alive4_any w hT).mono ?_
  rintro e w1 ⟨rfl, hB⟩
  go_wp2_with fail
  go_ret
  exact ⟨rfl, hB⟩
set_option maxHeartbeats 4000000 in
set_option maxRecDepth 100000 in
theorem proves_out (l : List D4) (i : Int) (p : Option Addr) (cap : Nat) (w : World) (hi : i < 0 ∨ (l.length : Int) ≤ i) (hl : l.length ≤ 40) (hok : allD4 l) (hr : RdS w p l) (hc : l.length ≤ cap) (hm : cap ≤ maxLen) (hT : TurnsOk w) :
    Calls Tryd.prog 3 #[.slice p l.length cap, .int .i64 i] w fun e w' => e = .returned (.bool true) ∧ Below w.heap.size w w' := by
  have hd : decide (40 < (l.length : Int)) = false := by simp; omega
  obtain ⟨y, hy⟩ : ∃ y, rootD l = y := ⟨_, rfl⟩
  have HY := Lib.hid hy
  obtain ⟨n, hn⟩ : ∃ n, l.length = n := ⟨_, rfl⟩
  have HN := Lib.hid hn
  have HO := Lib.hid hi
  rw [hn] at hd hc ⊢
  have hle : l.length ≤ 1000000 := by omega
  clear hy hn hi hl
  have hE := eqD_yes y
  go_enter Tryd.func3, Tryd.ntmps3
  go_wp2_with fail
  refine (alive4_any w hT).mono ?_
  rintro e w1 ⟨rfl, hB1⟩
  go_wp2_with fail
  refine (croot_gen l hle hok y p n cap w1 (hr.on1 hB1) HN.out.symm hc hm (hT.below hB1) HY.out).mono ?_
  rintro e w2 ⟨rfl, hA2⟩
  have hB2 := hB1.trans (hA2.mono hB1.size)
  go_wp2_with fail
  have hX : Arr .u32 26 w2.heap.size y.toL (w2.alloc (.cells #[.int .u32 y.d0, .int .u32 y.d1, .int .u32 y.d2, .int .u32 y.d3] 26)) := heap_alloc_new w2 _
  have hB3 := hB2.alloc hB2.size (.cells #[.int .u32 y.d0, .int .u32 y.d1, .int .u32 y.d2, .int .u32 y.d3] 26)
  generalize w2.alloc (.cells #[.int .u32 y.d0, .int .u32 y.d1, .int .u32 y.d2, .int .u32 y.d3] 26) = w3 at *
  refine (cprove_no p n cap i w3 (by have := HO.out; rw [HN.out] at this; exact this)).mono ?_
  rintro e w3 ⟨rfl, rfl⟩
  go_wp2_with fail
  refine (rprove_no p n cap i w3 (by have := HO.out; rw [HN.out] at this; exact this)).mono ?_
  rintro e w3 ⟨rfl, rfl⟩
  go_wp2_with fail
  have hXd : Arr .u32 26 w2.heap.size y.toL w3.drew := hX
  have hBd := hB3.drew
  have HS0 := Lib.hid hXd.c4
  clear hX hB3
  go_region_held3 (fun w' => w'.cell? ⟨w2.heap.size, 0, none⟩ = some (.int .u32 y.d0) ∧ w'.cell? ⟨w2.heap.size, 1, none⟩ = some (.int .u32 y.d1) ∧ w'.cell? ⟨w2.heap.size, 2, none⟩ = some (.int .u32 y.d2) ∧ w'.cell? ⟨w2.heap.size, 3, none⟩ = some (.int .u32 y.d3))
    (first | ((with_reducible refine keep1b hA5 ?_); assumption) | ((with_reducible refine keep1b hA4 ?_); assumption) | (with_reducible exact HS0.out))
    (first
      | (go_at_call 14; (with_reducible refine (root_gen l hle hok y p n cap _ (hr.on1 hBd) HN.out.symm hc hm HY.out).mono ?_); rintro e w4 ⟨rfl, hA4⟩; have hB4 := hBd.trans (hA4.mono hBd.size))
      | (go_at_call 15; (with_reducible refine (rsame_yes [] none none 0 0 0 0 _ rfl rfl (rds_nil _ _) (rds_nil _ _) (Nat.le_refl _) (Nat.zero_le _) (Nat.le_refl _) (Nat.zero_le _)).mono ?_); rintro e w5 ⟨rfl, hA5⟩; have hB5 := hB4.trans (hA5.mono hB4.size)))
  all_goals
    go_wp2_with fail
    go_region
    all_goals
      go_wp2
      go_ret
      exact ⟨rfl, hB5.drew⟩
theorem keepY {y x : D4} {Y b a : Nat} {W w' : World} (h : Below W.heap.size W w') (f : W.cell? ⟨Y, 0, none⟩ = some (.int .u32 y.d0) ∧ W.cell? ⟨Y, 1, none⟩ = some (.int .u32 y.d1) ∧ W.cell? ⟨Y, 2, none⟩ = some (.int .u32 y.d2) ∧ W.cell? ⟨Y, 3, none⟩ = some (.int .u32 y.d3) ∧ W.cell? ⟨b, a, none⟩ = some (.int .u32 x.d0) ∧ W.cell? ⟨b, a + 1, none⟩ = some (.int .u32 x.d1) ∧ W.cell? ⟨b, a + 2, none⟩ = some (.int .u32 x.d2) ∧ W.cell? ⟨b, a + 3, none⟩ = some (.int .u32 x.d3)) : w'.cell? ⟨Y, 0, none⟩ = some (.int .u32 y.d0) ∧ w'.cell? ⟨Y, 1, none⟩ = some (.int .u32 y.d1) ∧ w'.cell? ⟨Y, 2, none⟩ = some (.int .u32 y.d2) ∧ w'.cell? ⟨Y, 3, none⟩ = some (.int .u32 y.d3) ∧ w'.cell? ⟨b, a, none⟩ = some (.int .u32 x.d0) ∧ w'.cell? ⟨b, a + 1, none⟩ = some (.int .u32 x.d1) ∧ w'.cell? ⟨b, a + 2, none⟩ = some (.int .u32 x.d2) ∧ w'.cell? ⟨b, a + 3, none⟩ = some (.int .u32 x.d3) := by
  have hb : b < W.heap.size := World.block_lt_of_cell? W _ f.2.2.2.2.1
  have hY : Y < W.heap.size := World.block_lt_of_cell? W _ f.1
  have e1 : ∀ j, w'.cell? ⟨Y, j, none⟩ = W.cell? ⟨Y, j, none⟩ := fun j => World.cell?_of_block (w := W) (h.block Y hY)
  have e2 : ∀ j, w'.cell? ⟨b, j, none⟩ = W.cell? ⟨b, j, none⟩ := fun j => World.cell?_of_block (w := W) (h.block b hb)
  simp only [e1, e2]
  exact f
set_option maxHeartbeats 4000000 in
set_option maxRecDepth 100000 in
theorem proves_in (l : List D4) (I : Nat) (p : Option Addr) (cap : Nat) (w : World) (hi : I < l.length) (hl : l.length ≤ 40) (hok : allD4 l) (hr : RdS w p l) (hc : l.length ≤ cap) (hm : cap ≤ maxLen) (hT : TurnsOk w) :
    Calls Tryd.prog 3 #[.slice p l.length cap, .int .i64 (I : Int)] w fun e w' => e = .returned (.bool true) ∧ Below w.heap.size w w' := by
  have hd : decide (40 < (l.length : Int)) = false := by simp; omega
  obtain ⟨y, hy⟩ : ∃ y, rootD l = y := ⟨_, rfl⟩
  have HY := Lib.hid hy
  obtain ⟨q, hq⟩ : ∃ q, wayD l I = q := ⟨_, rfl⟩
  have HQ := Lib.hid hq
  obtain ⟨n, hn⟩ : ∃ n, l.length = n := ⟨_, rfl⟩
  have HN := Lib.hid hn
  have hqo : allD4 q := by rw [← hq]; exact wayD_ok _ l I rfl hok
  obtain ⟨x, hx⟩ : ∃ x, l.getD I zeroD = x := ⟨_, rfl⟩
  have hxo : x.ok := by
    rw [← hx, List.getD_eq_getElem?_getD, List.getElem?_eq_getElem hi]
    exact hok _ (List.getElem_mem hi)
  have HC : Hid (checkD y (n : Int) (I : Int) x q = true) := by
    show _ = _
    rw [← hy, ← hq, ← hn]
    exact check_way l I x (by rw [← hx, List.getD_eq_getElem?_getD, List.getElem?_eq_getElem hi]; rfl) (by omega)
  obtain ⟨b, o, rfl, hrd⟩ := hr (by intro e; rw [e] at hi; simp at hi)
  have hdg := hrd.2 I hi
  rw [hx] at hdg
  have HDG := Lib.hid hdg
  have HI := Lib.hid hi
  have hi0 : (0 : Int) ≤ (I : Int) := by omega
  have hin : (I : Int) < (n : Int) := by omega
  rw [hn] at hd hc ⊢
  have hle : l.length ≤ 1000000 := by omega
  obtain ⟨m, hqm⟩ : ∃ m, q.length = m := ⟨_, rfl⟩
  have HM := Lib.hid hqm
  clear hy hn hi hl hq hx hdg hqm
  have hE := eqD_yes y
  go_enter Tryd.func3, Tryd.ntmps3
  go_wp2_with fail
  refine (alive4_any w hT).mono ?_
  rintro e w1 ⟨rfl, hB1⟩
  go_wp2_with fail
  refine (croot_gen l hle hok y _ n cap w1 (hr.on1 hB1) HN.out.symm hc hm (hT.below hB1) HY.out).mono ?_
  rintro e w2 ⟨rfl, hA2⟩
  have hB2 := hB1.trans (hA2.mono hB1.size)
  go_wp2_with fail
  have hX : Arr .u32 26 w2.heap.size y.toL (w2.alloc (.cells #[.int .u32 y.d0, .int .u32 y.d1, .int .u32 y.d2, .int .u32 y.d3] 26)) := heap_alloc_new w2 _
  have hB3 := hB2.alloc hB2.size (.cells #[.int .u32 y.d0, .int .u32 y.d1, .int .u32 y.d2, .int .u32 y.d3] 26)
  generalize w2.alloc (.cells #[.int .u32 y.d0, .int .u32 y.d1, .int .u32 y.d2, .int .u32 y.d3] 26) = w3 at *
  refine (cprove_val l q I b o n cap _ w3 hle hok HI.out (hrd.on hB3) HN.out.symm rfl hc hm (hT.below hB3) HQ.out).mono ?_
  rintro e w4 ⟨p1, c1, rfl, hp1, hp2, hp3, hA4⟩
  have hX4 := hX.on hA4
  have hB4 := hB3.trans (hA4.mono hB3.size)
  rw [HM.out] at hp1 ⊢
  go_wp2_with fail
  refine (rprove_val l q I b o n cap _ w4 hle hok HI.out (hrd.on hB4) HN.out.symm rfl hc hm HQ.out).mono ?_
  rintro e w5 ⟨p2, c2, rfl, hq1, hq2, hq3, hA5⟩
  have hX5 := hX4.on hA5
  have hB5 := hB4.trans (hA5.mono hB4.size)
  have hp5 := hp3.on1 hA5
  rw [HM.out] at hq1 ⊢
  go_wp2_with fail
  have hXd : Arr .u32 26 w2.heap.size y.toL w5.drew := hX5
  have hBd := hB5.drew
  have hpd : RdS w5.drew p1 q := hp5
  have hqd : RdS w5.drew p2 q := hq3
  have HS0 := Lib.hid hXd.c4
  clear hX hX4 hX5 hB3 hB4 hB5 hp3 hp5 hq3 hA4 hA5 hB2 hA2 hB1
  go_region_held3 (fun w' => w'.cell? ⟨w2.heap.size, 0, none⟩ = some (.int .u32 y.d0) ∧ w'.cell? ⟨w2.heap.size, 1, none⟩ = some (.int .u32 y.d1) ∧ w'.cell? ⟨w2.heap.size, 2, none⟩ = some (.int .u32 y.d2) ∧ w'.cell? ⟨w2.heap.size, 3, none⟩ = some (.int .u32 y.d3))
    (first | ((with_reducible refine keep1b hA7 ?_); assumption) | ((with_reducible refine keep1b hA6 ?_); assumption) | (with_reducible exact HS0.out))
    (first
      | (go_at_call 14; (with_reducible refine (root_gen l hle hok y _ n cap _ (hr.on1 hBd) HN.out.symm hc hm HY.out).mono ?_); rintro e w6 ⟨rfl, hA6⟩; have hB6 := hBd.trans (hA6.mono hBd.size); have hp6 := hpd.on1 hA6; have hq6 := hqd.on1 hA6; have hX6 := hXd.on hA6)
      | (go_at_call 15; (with_reducible refine (rsame_yes q p1 p2 m m c1 c2 _ HM.out.symm HM.out.symm hp6 hq6 hp1 hp2 hq1 hq2).mono ?_); rintro e w7 ⟨rfl, hA7⟩; have hB7 := hB6.trans (hA7.mono hB6.size); have hp7 := hp6.on1 hA7; have hX7 := hX6.on hA7))
  all_goals
    go_wp2_with fail
    have hB8 := hB7.drew
    have hp8 : RdS w7.drew p1 q := hp7
    have hX8 : Arr .u32 26 w2.heap.size y.toL w7.drew := hX7
    have hDG := HDG.out.on hB8 hrd.1
    have HS1 := Lib.hid (And.intro hX8.c4.1 (And.intro hX8.c4.2.1 (And.intro hX8.c4.2.2.1 (And.intro hX8.c4.2.2.2 (And.intro hDG.1 (And.intro hDG.2.1 (And.intro hDG.2.2.1 hDG.2.2.2)))))))
    have hT8 := hT.below hB8
    clear hX6 hX7 hX8 hp6 hp7 hq6 hA6 hA7 hDG hXd HS0
    go_region_held3 (fun w' => w'.cell? ⟨w2.heap.size, 0, none⟩ = some (.int .u32 y.d0) ∧ w'.cell? ⟨w2.heap.size, 1, none⟩ = some (.int .u32 y.d1) ∧ w'.cell? ⟨w2.heap.size, 2, none⟩ = some (.int .u32 y.d2) ∧ w'.cell? ⟨w2.heap.size, 3, none⟩ = some (.int .u32 y.d3) ∧ w'.cell? ⟨b, o + I * 4, none⟩ = some (.int .u32 x.d0) ∧ w'.cell? ⟨b, o + I * 4 + 1, none⟩ = some (.int .u32 x.d1) ∧ w'.cell? ⟨b, o + I * 4 + 2, none⟩ = some (.int .u32 x.d2) ∧ w'.cell? ⟨b, o + I * 4 + 3, none⟩ = some (.int .u32 x.d3))
      (first | (with_reducible exact HS1.out) | (exact And.intro HS1.out.1 HS1.out.2) | ((with_reducible refine keepY hA9 ?_); assumption))
      (first
        | (go_at_call 16; (with_reducible refine (ccheck_val y x _ _ q true p1 m c1 _ HM.out.symm hxo hqo hp8 hp1 hp2 hT8 HC.out).mono ?_); rintro e w9 ⟨rfl, hA9⟩; have hB9 := hB8.trans (hA9.mono hB8.size)))
    all_goals
      go_wp2
      go_ret
      exact ⟨rfl, hB9⟩
theorem proves_any (l : List D4) (i : Int) (p : Option Addr) (cap : Nat) (w : World) (hok : allD4 l) (hr : RdS w p l) (hc : l.length ≤ cap) (hm : cap ≤ maxLen) (hT : TurnsOk w) :
    Calls Tryd.prog 3 #[.slice p l.length cap, .int .i64 i] w fun e w' => e = .returned (.bool true) ∧ Below w.heap.size w w' := by
  by_cases h : 40 < l.length
  · exact proves_long l.length cap i p w hT h
  · by_cases k : i < 0 ∨ (l.length : Int) ≤ i
    · exact proves_out l i p cap w k (by omega) hok hr hc hm hT
    · have e : ((i.toNat : Nat) : Int) = i := by omega
      have := proves_in l i.toNat p cap w (by omega) (by omega) hok hr hc hm hT
      rwa [e] at this
end Go.Proofs.YtnimbclnhgbdcaaDoor
