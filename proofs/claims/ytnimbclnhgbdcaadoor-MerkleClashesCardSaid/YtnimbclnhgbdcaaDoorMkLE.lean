/-
  The walk of MerkleClashes (written by gen_law5.py).
-/
import Derived.Test.YtnimbclnhgbdcaaDoorMkWH
import Derived.Test.YtnimbclnhgbdcaaDoorMkWF
import Derived.Test.YtnimbclnhgbdcaaDoorMkWS
namespace Go.Proofs.YtnimbclnhgbdcaaDoor
open Go.RowKit

theorem rc_all : ∀ (n : Nat) (a b : List D4), a.length = n → n ≤ 1000000 → allD4 a → allD4 b → RC a b := by
  intro n
  induction n using Nat.strongRecOn with
  | _ n ih =>
    intro a b hn hle hao hbo pa pb na nb ca cb w hna hnb ha hb hca hcam hcb hcbm
    have none' : ∀ (h : clashD a b = none), clashP a b = (zeroD, zeroD) ∧ clashQ a b = (zeroD, zeroD) ∧ clashOk a b = false := fun h => by
      unfold clashP clashQ clashOk
      rw [h]; exact ⟨rfl, rfl, rfl⟩
    by_cases h : na = nb
    · by_cases hab : a = b
      · obtain ⟨e1, e2, e3⟩ := none' (clash_none pairS noneD (Or.inr (Or.inl hab)))
        rw [e1, e2, e3]
        exact rclash_same a b pa pb na nb ca cb w hna hnb h hab ha hb hca hcam hcb hcbm
      · by_cases hrt : rootD a = rootD b
        · obtain ⟨p, q, hc, _⟩ := clash_some pairS noneD a.length a b rfl (by omega) hab hrt
          have e : clashP a b = p ∧ clashQ a b = q ∧ clashOk a b = true := by
            unfold clashP clashQ clashOk clashD
            rw [hc]; exact ⟨rfl, rfl, rfl⟩
          rw [e.1, e.2.1, e.2.2]
          have h1 : a.length = b.length := by omega
          have h2 := clash_two pairS noneD h1 hab hrt
          have hl := half_lt h2
          have hp := half_pos a.length
          by_cases h4 : rootD (a.take (half a.length)) = rootD (b.take (half b.length)) ∧ rootD (a.drop (half a.length)) = rootD (b.drop (half b.length))
          · by_cases h5 : a.take (half a.length) = b.take (half a.length)
            · exact rclash_second a b p q pa pb na nb ca cb w hna hnb h hab hrt hc (by omega) hao hbo h4 h5 (ih (a.length - half a.length) (by omega) _ _ (by rw [List.length_drop]) (by omega) (hao.drop _) (hbo.drop _)) ha hb hca hcam hcb hcbm
            · exact rclash_first a b p q pa pb na nb ca cb w hna hnb h hab hrt hc (by omega) hao hbo h4 h5 (ih (half a.length) (by omega) _ _ (by rw [List.length_take]; omega) (by omega) (hao.take _) (hbo.take _)) ha hb hca hcam hcb hcbm
          · exact rclash_here a b p q pa pb na nb ca cb w hna hnb h hab hrt hc (by omega) hao hbo h4 ha hb hca hcam hcb hcbm
        · obtain ⟨e1, e2, e3⟩ := none' (clash_none pairS noneD (Or.inr (Or.inr hrt)))
          rw [e1, e2, e3]
          exact rclash_root a b pa pb na nb ca cb w hna hnb h hab hrt (by omega) hao hbo ha hb hca hcam hcb hcbm
    · obtain ⟨e1, e2, e3⟩ := none' (clash_none pairS noneD (Or.inl (by rw [← hna, ← hnb]; exact h)))
      rw [e1, e2, e3]
      exact rclash_len a b pa pb na nb ca cb w hna hnb h
theorem rclash_val (a b : List D4) (x z u v : D4) (ok : Bool) (pa pb : Option Addr) (na nb ca cb : Nat) (w : World) (hna : na = a.length) (hnb : nb = b.length) (hle : a.length ≤ 1000000) (hao : allD4 a) (hbo : allD4 b) (ha : RdS w pa a) (hb : RdS w pb b) (hca : na ≤ ca) (hcam : ca ≤ maxLen) (hcb : nb ≤ cb) (hcbm : cb ≤ maxLen) (hp : clashP a b = (x, z)) (hq : clashQ a b = (u, v)) (hk : clashOk a b = ok) :
    Calls Tryd.prog 23 #[.slice pa na ca, .slice pb nb cb] w fun e w' => e = .returned (.tuple #[.agg #[.int .u32 x.d0, .int .u32 x.d1, .int .u32 x.d2, .int .u32 x.d3, .int .u32 z.d0, .int .u32 z.d1, .int .u32 z.d2, .int .u32 z.d3], .agg #[.int .u32 u.d0, .int .u32 u.d1, .int .u32 u.d2, .int .u32 u.d3, .int .u32 v.d0, .int .u32 v.d1, .int .u32 v.d2, .int .u32 v.d3], .bool ok]) ∧ Below w.heap.size w w' := by
  have := rc_all a.length a b rfl hle hao hbo pa pb na nb ca cb w hna hnb ha hb hca hcam hcb hcbm
  rw [hp, hq, hk] at this
  exact this
theorem cclash_val (a b : List D4) (x z u v : D4) (ok : Bool) (pa pb : Option Addr) (na nb ca cb : Nat) (w : World) (hna : na = a.length) (hnb : nb = b.length) (hle : a.length ≤ 1000000) (hao : allD4 a) (hbo : allD4 b) (ha : RdS w pa a) (hb : RdS w pb b) (hca : na ≤ ca) (hcam : ca ≤ maxLen) (hcb : nb ≤ cb) (hcbm : cb ≤ maxLen) (hT : TurnsOk w) (hp : clashP a b = (x, z)) (hq : clashQ a b = (u, v)) (hk : clashOk a b = ok) :
    Calls Tryd.prog 22 #[.slice pa na ca, .slice pb nb cb] w fun e w' => e = .returned (.tuple #[.agg #[.int .u32 x.d0, .int .u32 x.d1, .int .u32 x.d2, .int .u32 x.d3, .int .u32 z.d0, .int .u32 z.d1, .int .u32 z.d2, .int .u32 z.d3], .agg #[.int .u32 u.d0, .int .u32 u.d1, .int .u32 u.d2, .int .u32 u.d3, .int .u32 v.d0, .int .u32 v.d1, .int .u32 v.d2, .int .u32 v.d3], .bool ok]) ∧ Below w.heap.size w w' := by
  have := cclash_any a b pa pb na nb ca cb w hna hnb hle hao hbo ha hb hca hcam hcb hcbm hT
  rw [hp, hq, hk] at this
  exact this
theorem clash_ok : ∀ (n : Nat) (a b : List D4), a.length = n → allD4 a → allD4 b → ∀ x z u v, clashD a b = some ((x, z), (u, v)) → x.ok ∧ z.ok ∧ u.ok ∧ v.ok := by
  intro n
  induction n using Nat.strongRecOn with
  | _ n ih =>
    intro a b hn hao hbo x z u v hc
    by_cases h : a.length ≠ b.length ∨ a = b ∨ root pairS noneD a ≠ root pairS noneD b
    · rw [clashD, clash_none pairS noneD h] at hc; cases hc
    · have h1 : a.length = b.length := by omega
      have h2' : a ≠ b := fun e => h (Or.inr (Or.inl e))
      have h3 : root pairS noneD a = root pairS noneD b := Decidable.not_not.mp (fun e => h (Or.inr (Or.inr e)))
      have h2 := clash_two pairS noneD h1 h2' h3
      have hl := half_lt h2
      have hp := half_pos a.length
      by_cases h4 : (root pairS noneD (a.take (half a.length)), root pairS noneD (a.drop (half a.length))) ≠ (root pairS noneD (b.take (half a.length)), root pairS noneD (b.drop (half a.length)))
      · rw [clashD, clash_here pairS noneD h1 h2' h3 h4] at hc
        simp only [Option.some.injEq, Prod.mk.injEq] at hc
        obtain ⟨⟨e1, e2⟩, e3, e4⟩ := hc
        rw [← e1, ← e2, ← e3, ← e4]
        exact ⟨rootD_ok _ _ rfl (hao.take _), rootD_ok _ _ rfl (hao.drop _), rootD_ok _ _ rfl (hbo.take _), rootD_ok _ _ rfl (hbo.drop _)⟩
      · by_cases h5 : a.take (half a.length) ≠ b.take (half a.length)
        · rw [clashD, clash_first pairS noneD h1 h2' h3 h4 h5] at hc
          exact ih (half a.length) (by omega) _ _ (by rw [List.length_take]; omega) (hao.take _) (hbo.take _) x z u v hc
        · rw [clashD, clash_second pairS noneD h1 h2' h3 h4 h5] at hc
          exact ih (a.length - half a.length) (by omega) _ _ (by rw [List.length_drop]) (hao.drop _) (hbo.drop _) x z u v hc
theorem keep16 {x z u v : D4} {X Y : Nat} {W w' : World} (h : Below W.heap.size W w') (f : W.cell? ⟨X, 0, none⟩ = some (.int .u32 x.d0) ∧ W.cell? ⟨X, 1, none⟩ = some (.int .u32 x.d1) ∧ W.cell? ⟨X, 2, none⟩ = some (.int .u32 x.d2) ∧ W.cell? ⟨X, 3, none⟩ = some (.int .u32 x.d3) ∧ W.cell? ⟨X, 4, none⟩ = some (.int .u32 z.d0) ∧ W.cell? ⟨X, 5, none⟩ = some (.int .u32 z.d1) ∧ W.cell? ⟨X, 6, none⟩ = some (.int .u32 z.d2) ∧ W.cell? ⟨X, 7, none⟩ = some (.int .u32 z.d3) ∧ W.cell? ⟨Y, 0, none⟩ = some (.int .u32 u.d0) ∧ W.cell? ⟨Y, 1, none⟩ = some (.int .u32 u.d1) ∧ W.cell? ⟨Y, 2, none⟩ = some (.int .u32 u.d2) ∧ W.cell? ⟨Y, 3, none⟩ = some (.int .u32 u.d3) ∧ W.cell? ⟨Y, 4, none⟩ = some (.int .u32 v.d0) ∧ W.cell? ⟨Y, 5, none⟩ = some (.int .u32 v.d1) ∧ W.cell? ⟨Y, 6, none⟩ = some (.int .u32 v.d2) ∧ W.cell? ⟨Y, 7, none⟩ = some (.int .u32 v.d3)) : w'.cell? ⟨X, 0, none⟩ = some (.int .u32 x.d0) ∧ w'.cell? ⟨X, 1, none⟩ = some (.int .u32 x.d1) ∧ w'.cell? ⟨X, 2, none⟩ = some (.int .u32 x.d2) ∧ w'.cell? ⟨X, 3, none⟩ = some (.int .u32 x.d3) ∧ w'.cell? ⟨X, 4, none⟩ = some (.int .u32 z.d0) ∧ w'.cell? ⟨X, 5, none⟩ = some (.int .u32 z.d1) ∧ w'.cell? ⟨X, 6, none⟩ = some (.int .u32 z.d2) ∧ w'.cell? ⟨X, 7, none⟩ = some (.int .u32 z.d3) ∧ w'.cell? ⟨Y, 0, none⟩ = some (.int .u32 u.d0) ∧ w'.cell? ⟨Y, 1, none⟩ = some (.int .u32 u.d1) ∧ w'.cell? ⟨Y, 2, none⟩ = some (.int .u32 u.d2) ∧ w'.cell? ⟨Y, 3, none⟩ = some (.int .u32 u.d3) ∧ w'.cell? ⟨Y, 4, none⟩ = some (.int .u32 v.d0) ∧ w'.cell? ⟨Y, 5, none⟩ = some (.int .u32 v.d1) ∧ w'.cell? ⟨Y, 6, none⟩ = some (.int .u32 v.d2) ∧ w'.cell? ⟨Y, 7, none⟩ = some (.int .u32 v.d3) := by
  have hX : X < W.heap.size := World.block_lt_of_cell? W _ f.1
  have hY : Y < W.heap.size := World.block_lt_of_cell? W _ f.2.2.2.2.2.2.2.2.1
  have e1 : ∀ j, w'.cell? ⟨X, j, none⟩ = W.cell? ⟨X, j, none⟩ := fun j => World.cell?_of_block (w := W) (h.block X hX)
  have e2 : ∀ j, w'.cell? ⟨Y, j, none⟩ = W.cell? ⟨Y, j, none⟩ := fun j => World.cell?_of_block (w := W) (h.block Y hY)
  simp only [e1, e2]
  exact f
set_option maxHeartbeats 1000000 in
set_option maxRecDepth 100000 in
theorem clashes_long (pa pb : Option Addr) (na nb ca cb : Nat) (w : World) (hT : TurnsOk w) (h : 20 < na ∨ 20 < nb) : Calls Tryd.prog 7 #[.slice pa na ca, .slice pb nb cb] w fun e w' => e = .returned (.bool true) ∧ Below w.heap.size w w' := by
  obtain ⟨g1, hg1⟩ : ∃ g, decide (20 < (na : Int)) = g := ⟨_, rfl⟩
  obtain ⟨g2, hg2⟩ : ∃ g, decide (20 < (nb : Int)) = g := ⟨_, rfl⟩
  have hall : g1 = true ∨ g2 = true := by
    subst hg1; subst hg2
    simp
    omega
  clear h
  go_enter Tryd.func7, Tryd.ntmps7
  go_wp2_with fail
  refine (alive4_any w hT).mono ?_
  rintro e w1 ⟨rfl, hB⟩
  cases g1 <;> cases g2 <;> simp at hall <;> (go_wp2_with fail; go_ret; exact ⟨rfl, hB⟩)
set_option maxHeartbeats 8000000 in
set_option maxRecDepth 100000 in
theorem clashes_same (a b : List D4) (pa pb : Option Addr) (na nb ca cb : Nat) (w : World) (hna : na = a.length) (hnb : nb = b.length) (h20 : na ≤ 20) (h20b : nb ≤ 20) (hab : a = b) (hao : allD4 a) (hbo : allD4 b) (ha : RdS w pa a) (hb : RdS w pb b) (hca : na ≤ ca) (hcam : ca ≤ maxLen) (hcb : nb ≤ cb) (hcbm : cb ≤ maxLen) (hT : TurnsOk w) :
    Calls Tryd.prog 7 #[.slice pa na ca, .slice pb nb cb] w fun e w' => e = .returned (.bool true) ∧ Below w.heap.size w w' := by
  have hd1 : decide (20 < (na : Int)) = false := by simp; omega
  have hd2 : decide (20 < (nb : Int)) = false := by simp; omega
  have hle : a.length ≤ 1000000 := by omega
  have hle2 : b.length ≤ 1000000 := by omega
  obtain ⟨⟨x, z⟩, hp⟩ : ∃ p, clashP a b = p := ⟨_, rfl⟩
  obtain ⟨⟨u, v⟩, hq⟩ : ∃ p, clashQ a b = p := ⟨_, rfl⟩
  have hk : clashOk a b = false := by unfold clashOk clashD; rw [clash_none pairS noneD (Or.inr (Or.inl hab))]
  have HP := Lib.hid hp
  have HQ := Lib.hid hq
  have HK := Lib.hid hk
  clear hp hq hk
  have HD : Hid (decide (a = b) = true) := decide_eq_true hab
  clear hab
  have hEp := eqP_run x z x z
  rw [(sameD_iff x x).mpr rfl, (sameD_iff z z).mpr rfl] at hEp
  have hEq := eqP_run u v u v
  rw [(sameD_iff u u).mpr rfl, (sameD_iff v v).mpr rfl] at hEq
  have HNA := Lib.hid hna
  have HNB := Lib.hid hnb
  have ha' : ∀ {W}, Below w.heap.size w W → RdS W pa a := fun h => ha.on h
  have hb' : ∀ {W}, Below w.heap.size w W → RdS W pb b := fun h => hb.on h
  have _u := And.intro h20 h20b
  clear hna hnb h20 h20b _u
  go_enter Tryd.func7, Tryd.ntmps7
  go_wp2_with fail
  refine (alive4_any w hT).mono ?_
  rintro e w1 ⟨rfl, hB1⟩
  go_wp2_with fail
  refine (cclash_val a b x z u v _ pa pb na nb ca cb w1 HNA.out HNB.out hle hao hbo (ha' hB1) (hb' hB1) hca hcam hcb hcbm (hT.below hB1) HP.out HQ.out HK.out).mono ?_
  rintro e w2 ⟨rfl, hA2⟩
  have hB2 := hB1.trans (hA2.mono hB1.size)
  go_wp2_with fail
  have hX : Arr .u32 41 w2.heap.size (both8 x z).toL ((w2.alloc (.cells #[.int .u32 x.d0, .int .u32 x.d1, .int .u32 x.d2, .int .u32 x.d3, .int .u32 z.d0, .int .u32 z.d1, .int .u32 z.d2, .int .u32 z.d3] 41)).alloc (.cells #[.int .u32 u.d0, .int .u32 u.d1, .int .u32 u.d2, .int .u32 u.d3, .int .u32 v.d0, .int .u32 v.d1, .int .u32 v.d2, .int .u32 v.d3] 41)) := (al8 x z w2).al _
  have hY : Arr .u32 41 (w2.heap.size + 1) (both8 u v).toL ((w2.alloc (.cells #[.int .u32 x.d0, .int .u32 x.d1, .int .u32 x.d2, .int .u32 x.d3, .int .u32 z.d0, .int .u32 z.d1, .int .u32 z.d2, .int .u32 z.d3] 41)).alloc (.cells #[.int .u32 u.d0, .int .u32 u.d1, .int .u32 u.d2, .int .u32 u.d3, .int .u32 v.d0, .int .u32 v.d1, .int .u32 v.d2, .int .u32 v.d3] 41)) := by
    have := al8 u v (w2.alloc (.cells #[.int .u32 x.d0, .int .u32 x.d1, .int .u32 x.d2, .int .u32 x.d3, .int .u32 z.d0, .int .u32 z.d1, .int .u32 z.d2, .int .u32 z.d3] 41))
    rw [show (w2.alloc (.cells #[.int .u32 x.d0, .int .u32 x.d1, .int .u32 x.d2, .int .u32 x.d3, .int .u32 z.d0, .int .u32 z.d1, .int .u32 z.d2, .int .u32 z.d3] 41)).heap.size = w2.heap.size + 1 by simp] at this
    exact this
  have hB3 := (hB2.alloc hB2.size (.cells #[.int .u32 x.d0, .int .u32 x.d1, .int .u32 x.d2, .int .u32 x.d3, .int .u32 z.d0, .int .u32 z.d1, .int .u32 z.d2, .int .u32 z.d3] 41)).alloc (by have := hB2.size; simp; omega) (.cells #[.int .u32 u.d0, .int .u32 u.d1, .int .u32 u.d2, .int .u32 u.d3, .int .u32 v.d0, .int .u32 v.d1, .int .u32 v.d2, .int .u32 v.d3] 41)
  generalize (w2.alloc (.cells #[.int .u32 x.d0, .int .u32 x.d1, .int .u32 x.d2, .int .u32 x.d3, .int .u32 z.d0, .int .u32 z.d1, .int .u32 z.d2, .int .u32 z.d3] 41)).alloc (.cells #[.int .u32 u.d0, .int .u32 u.d1, .int .u32 u.d2, .int .u32 u.d3, .int .u32 v.d0, .int .u32 v.d1, .int .u32 v.d2, .int .u32 v.d3] 41) = w3 at *
  refine (rclash_val a b x z u v _ pa pb na nb ca cb w3 HNA.out HNB.out hle hao hbo (ha' hB3) (hb' hB3) hca hcam hcb hcbm HP.out HQ.out HK.out).mono ?_
  rintro e w4 ⟨rfl, hA4⟩
  have hX4 := hX.on hA4
  have hY4 := hY.on hA4
  have hB4 := hB3.trans (hA4.mono hB3.size)
  have hXlt := hX4.lt
  have hYlt := hY4.lt
  have X8 := Arr.c8 hX4
  have Y8 := Arr.c8 hY4
  simp only [both8] at X8 Y8
  obtain ⟨x0, x1, x2, x3, x4, x5, x6, x7⟩ := X8
  obtain ⟨y0, y1, y2, y3, y4, y5, y6, y7⟩ := Y8
  have hX5 := (hX4.al (.cells #[.int .u32 x.d0, .int .u32 x.d1, .int .u32 x.d2, .int .u32 x.d3, .int .u32 z.d0, .int .u32 z.d1, .int .u32 z.d2, .int .u32 z.d3] 41)).al (.cells #[.int .u32 u.d0, .int .u32 u.d1, .int .u32 u.d2, .int .u32 u.d3, .int .u32 v.d0, .int .u32 v.d1, .int .u32 v.d2, .int .u32 v.d3] 41)
  have hY5 := (hY4.al (.cells #[.int .u32 x.d0, .int .u32 x.d1, .int .u32 x.d2, .int .u32 x.d3, .int .u32 z.d0, .int .u32 z.d1, .int .u32 z.d2, .int .u32 z.d3] 41)).al (.cells #[.int .u32 u.d0, .int .u32 u.d1, .int .u32 u.d2, .int .u32 u.d3, .int .u32 v.d0, .int .u32 v.d1, .int .u32 v.d2, .int .u32 v.d3] 41)
  have hB5 := (hB4.alloc hB4.size (.cells #[.int .u32 x.d0, .int .u32 x.d1, .int .u32 x.d2, .int .u32 x.d3, .int .u32 z.d0, .int .u32 z.d1, .int .u32 z.d2, .int .u32 z.d3] 41)).alloc (by have := hB4.size; simp; omega) (.cells #[.int .u32 u.d0, .int .u32 u.d1, .int .u32 u.d2, .int .u32 u.d3, .int .u32 v.d0, .int .u32 v.d1, .int .u32 v.d2, .int .u32 v.d3] 41)
  clear hX hY hB2 hB3 hA2 hA4 hX4 hY4
  go_wp2_with fail
  clear x0 x1 x2 x3 x4 x5 x6 x7 y0 y1 y2 y3 y4 y5 y6 y7
  generalize (w4.alloc (.cells #[.int .u32 x.d0, .int .u32 x.d1, .int .u32 x.d2, .int .u32 x.d3, .int .u32 z.d0, .int .u32 z.d1, .int .u32 z.d2, .int .u32 z.d3] 41)).alloc (.cells #[.int .u32 u.d0, .int .u32 u.d1, .int .u32 u.d2, .int .u32 u.d3, .int .u32 v.d0, .int .u32 v.d1, .int .u32 v.d2, .int .u32 v.d3] 41) = w5 at *
  refine (rsame_any a b pa pb na nb ca cb w5 HNA.out HNB.out (ha' hB5) (hb' hB5) hca hcam hcb hcbm).mono ?_
  rintro e w6 ⟨rfl, hA6⟩
  rw [HD.out]
  have hB6 := hB5.trans (hA6.mono hB5.size)
  go_wp2_with fail
  go_ret
  exact ⟨rfl, hB6⟩
set_option maxHeartbeats 8000000 in
set_option maxRecDepth 100000 in
theorem clashes_len (a b : List D4) (pa pb : Option Addr) (na nb ca cb : Nat) (w : World) (hna : na = a.length) (hnb : nb = b.length) (h20 : na ≤ 20) (h20b : nb ≤ 20) (hne : na ≠ nb) (hao : allD4 a) (hbo : allD4 b) (ha : RdS w pa a) (hb : RdS w pb b) (hca : na ≤ ca) (hcam : ca ≤ maxLen) (hcb : nb ≤ cb) (hcbm : cb ≤ maxLen) (hT : TurnsOk w) :
    Calls Tryd.prog 7 #[.slice pa na ca, .slice pb nb cb] w fun e w' => e = .returned (.bool true) ∧ Below w.heap.size w w' := by
  have hd1 : decide (20 < (na : Int)) = false := by simp; omega
  have hd2 : decide (20 < (nb : Int)) = false := by simp; omega
  have hle : a.length ≤ 1000000 := by omega
  have hle2 : b.length ≤ 1000000 := by omega
  obtain ⟨⟨x, z⟩, hp⟩ : ∃ p, clashP a b = p := ⟨_, rfl⟩
  obtain ⟨⟨u, v⟩, hq⟩ : ∃ p, clashQ a b = p := ⟨_, rfl⟩
  have hk : clashOk a b = false := by unfold clashOk clashD; rw [clash_none pairS noneD (Or.inl (by rw [← hna, ← hnb]; exact hne))]
  have HP := Lib.hid hp
  have HQ := Lib.hid hq
  have HK := Lib.hid hk
  clear hp hq hk
  have HD : Hid (decide (a = b) = false) := decide_eq_false (fun e => hne (by rw [hna, hnb, e]))
  have hn1 : ((na : Int) == (nb : Int)) = false := by simp; omega
  have hn2 : ((na : Int) != (nb : Int)) = true := by simp; omega
  clear hne
  have hEp := eqP_run x z x z
  rw [(sameD_iff x x).mpr rfl, (sameD_iff z z).mpr rfl] at hEp
  have hEq := eqP_run u v u v
  rw [(sameD_iff u u).mpr rfl, (sameD_iff v v).mpr rfl] at hEq
  have HNA := Lib.hid hna
  have HNB := Lib.hid hnb
  have ha' : ∀ {W}, Below w.heap.size w W → RdS W pa a := fun h => ha.on h
  have hb' : ∀ {W}, Below w.heap.size w W → RdS W pb b := fun h => hb.on h
  have _u := And.intro h20 h20b
  clear hna hnb h20 h20b _u
  go_enter Tryd.func7, Tryd.ntmps7
  go_wp2_with fail
  refine (alive4_any w hT).mono ?_
  rintro e w1 ⟨rfl, hB1⟩
  go_wp2_with fail
  refine (cclash_val a b x z u v _ pa pb na nb ca cb w1 HNA.out HNB.out hle hao hbo (ha' hB1) (hb' hB1) hca hcam hcb hcbm (hT.below hB1) HP.out HQ.out HK.out).mono ?_
  rintro e w2 ⟨rfl, hA2⟩
  have hB2 := hB1.trans (hA2.mono hB1.size)
  go_wp2_with fail
  have hX : Arr .u32 41 w2.heap.size (both8 x z).toL ((w2.alloc (.cells #[.int .u32 x.d0, .int .u32 x.d1, .int .u32 x.d2, .int .u32 x.d3, .int .u32 z.d0, .int .u32 z.d1, .int .u32 z.d2, .int .u32 z.d3] 41)).alloc (.cells #[.int .u32 u.d0, .int .u32 u.d1, .int .u32 u.d2, .int .u32 u.d3, .int .u32 v.d0, .int .u32 v.d1, .int .u32 v.d2, .int .u32 v.d3] 41)) := (al8 x z w2).al _
  have hY : Arr .u32 41 (w2.heap.size + 1) (both8 u v).toL ((w2.alloc (.cells #[.int .u32 x.d0, .int .u32 x.d1, .int .u32 x.d2, .int .u32 x.d3, .int .u32 z.d0, .int .u32 z.d1, .int .u32 z.d2, .int .u32 z.d3] 41)).alloc (.cells #[.int .u32 u.d0, .int .u32 u.d1, .int .u32 u.d2, .int .u32 u.d3, .int .u32 v.d0, .int .u32 v.d1, .int .u32 v.d2, .int .u32 v.d3] 41)) := by
    have := al8 u v (w2.alloc (.cells #[.int .u32 x.d0, .int .u32 x.d1, .int .u32 x.d2, .int .u32 x.d3, .int .u32 z.d0, .int .u32 z.d1, .int .u32 z.d2, .int .u32 z.d3] 41))
    rw [show (w2.alloc (.cells #[.int .u32 x.d0, .int .u32 x.d1, .int .u32 x.d2, .int .u32 x.d3, .int .u32 z.d0, .int .u32 z.d1, .int .u32 z.d2, .int .u32 z.d3] 41)).heap.size = w2.heap.size + 1 by simp] at this
    exact this
  have hB3 := (hB2.alloc hB2.size (.cells #[.int .u32 x.d0, .int .u32 x.d1, .int .u32 x.d2, .int .u32 x.d3, .int .u32 z.d0, .int .u32 z.d1, .int .u32 z.d2, .int .u32 z.d3] 41)).alloc (by have := hB2.size; simp; omega) (.cells #[.int .u32 u.d0, .int .u32 u.d1, .int .u32 u.d2, .int .u32 u.d3, .int .u32 v.d0, .int .u32 v.d1, .int .u32 v.d2, .int .u32 v.d3] 41)
  generalize (w2.alloc (.cells #[.int .u32 x.d0, .int .u32 x.d1, .int .u32 x.d2, .int .u32 x.d3, .int .u32 z.d0, .int .u32 z.d1, .int .u32 z.d2, .int .u32 z.d3] 41)).alloc (.cells #[.int .u32 u.d0, .int .u32 u.d1, .int .u32 u.d2, .int .u32 u.d3, .int .u32 v.d0, .int .u32 v.d1, .int .u32 v.d2, .int .u32 v.d3] 41) = w3 at *
  refine (rclash_val a b x z u v _ pa pb na nb ca cb w3 HNA.out HNB.out hle hao hbo (ha' hB3) (hb' hB3) hca hcam hcb hcbm HP.out HQ.out HK.out).mono ?_
  rintro e w4 ⟨rfl, hA4⟩
  have hX4 := hX.on hA4
  have hY4 := hY.on hA4
  have hB4 := hB3.trans (hA4.mono hB3.size)
  have hXlt := hX4.lt
  have hYlt := hY4.lt
  have X8 := Arr.c8 hX4
  have Y8 := Arr.c8 hY4
  simp only [both8] at X8 Y8
  obtain ⟨x0, x1, x2, x3, x4, x5, x6, x7⟩ := X8
  obtain ⟨y0, y1, y2, y3, y4, y5, y6, y7⟩ := Y8
  have hX5 := (hX4.al (.cells #[.int .u32 x.d0, .int .u32 x.d1, .int .u32 x.d2, .int .u32 x.d3, .int .u32 z.d0, .int .u32 z.d1, .int .u32 z.d2, .int .u32 z.d3] 41)).al (.cells #[.int .u32 u.d0, .int .u32 u.d1, .int .u32 u.d2, .int .u32 u.d3, .int .u32 v.d0, .int .u32 v.d1, .int .u32 v.d2, .int .u32 v.d3] 41)
  have hY5 := (hY4.al (.cells #[.int .u32 x.d0, .int .u32 x.d1, .int .u32 x.d2, .int .u32 x.d3, .int .u32 z.d0, .int .u32 z.d1, .int .u32 z.d2, .int .u32 z.d3] 41)).al (.cells #[.int .u32 u.d0, .int .u32 u.d1, .int .u32 u.d2, .int .u32 u.d3, .int .u32 v.d0, .int .u32 v.d1, .int .u32 v.d2, .int .u32 v.d3] 41)
  have hB5 := (hB4.alloc hB4.size (.cells #[.int .u32 x.d0, .int .u32 x.d1, .int .u32 x.d2, .int .u32 x.d3, .int .u32 z.d0, .int .u32 z.d1, .int .u32 z.d2, .int .u32 z.d3] 41)).alloc (by have := hB4.size; simp; omega) (.cells #[.int .u32 u.d0, .int .u32 u.d1, .int .u32 u.d2, .int .u32 u.d3, .int .u32 v.d0, .int .u32 v.d1, .int .u32 v.d2, .int .u32 v.d3] 41)
  clear hX hY hB2 hB3 hA2 hA4 hX4 hY4
  go_wp2_with fail
  clear x0 x1 x2 x3 x4 x5 x6 x7 y0 y1 y2 y3 y4 y5 y6 y7
  generalize (w4.alloc (.cells #[.int .u32 x.d0, .int .u32 x.d1, .int .u32 x.d2, .int .u32 x.d3, .int .u32 z.d0, .int .u32 z.d1, .int .u32 z.d2, .int .u32 z.d3] 41)).alloc (.cells #[.int .u32 u.d0, .int .u32 u.d1, .int .u32 u.d2, .int .u32 u.d3, .int .u32 v.d0, .int .u32 v.d1, .int .u32 v.d2, .int .u32 v.d3] 41) = w5 at *
  refine (rsame_any a b pa pb na nb ca cb w5 HNA.out HNB.out (ha' hB5) (hb' hB5) hca hcam hcb hcbm).mono ?_
  rintro e w6 ⟨rfl, hA6⟩
  rw [HD.out]
  have hB6 := hB5.trans (hA6.mono hB5.size)
  go_wp2_with fail
  go_ret
  exact ⟨rfl, hB6⟩
set_option maxHeartbeats 8000000 in
set_option maxRecDepth 100000 in
theorem clashes_root (a b : List D4) (pa pb : Option Addr) (na nb ca cb : Nat) (w : World) (hna : na = a.length) (hnb : nb = b.length) (h20 : na ≤ 20) (h20b : nb ≤ 20) (hnm : na = nb) (hab : a ≠ b) (hrt : rootD a ≠ rootD b) (hao : allD4 a) (hbo : allD4 b) (ha : RdS w pa a) (hb : RdS w pb b) (hca : na ≤ ca) (hcam : ca ≤ maxLen) (hcb : nb ≤ cb) (hcbm : cb ≤ maxLen) (hT : TurnsOk w) :
    Calls Tryd.prog 7 #[.slice pa na ca, .slice pb nb cb] w fun e w' => e = .returned (.bool true) ∧ Below w.heap.size w w' := by
  have hd1 : decide (20 < (na : Int)) = false := by simp; omega
  have hd2 : decide (20 < (nb : Int)) = false := by simp; omega
  have hle : a.length ≤ 1000000 := by omega
  have hle2 : b.length ≤ 1000000 := by omega
  obtain ⟨⟨x, z⟩, hp⟩ : ∃ p, clashP a b = p := ⟨_, rfl⟩
  obtain ⟨⟨u, v⟩, hq⟩ : ∃ p, clashQ a b = p := ⟨_, rfl⟩
  have hk : clashOk a b = false := by unfold clashOk clashD; rw [clash_none pairS noneD (Or.inr (Or.inr hrt))]
  have HP := Lib.hid hp
  have HQ := Lib.hid hq
  have HK := Lib.hid hk
  clear hp hq hk
  have HD : Hid (decide (a = b) = false) := decide_eq_false hab
  have hn1 : ((na : Int) == (nb : Int)) = true := by simp; omega
  have hn2 : ((na : Int) != (nb : Int)) = false := by simp; omega
  obtain ⟨ra, hra'⟩ : ∃ y, rootD a = y := ⟨_, rfl⟩
  obtain ⟨rb, hrb'⟩ : ∃ y, rootD b = y := ⟨_, rfl⟩
  have hE := eqD_run ra rb
  rw [show sameD ra rb = false by
    rcases q : sameD ra rb with _ | _
    · rfl
    · exact absurd ((sameD_iff ra rb).mp q) (by rw [← hra', ← hrb']; exact hrt)] at hE
  have HRA := Lib.hid hra'
  have HRB := Lib.hid hrb'
  clear hab hrt hra' hrb' hnm
  have hEp := eqP_run x z x z
  rw [(sameD_iff x x).mpr rfl, (sameD_iff z z).mpr rfl] at hEp
  have hEq := eqP_run u v u v
  rw [(sameD_iff u u).mpr rfl, (sameD_iff v v).mpr rfl] at hEq
  have HNA := Lib.hid hna
  have HNB := Lib.hid hnb
  have ha' : ∀ {W}, Below w.heap.size w W → RdS W pa a := fun h => ha.on h
  have hb' : ∀ {W}, Below w.heap.size w W → RdS W pb b := fun h => hb.on h
  have _u := And.intro h20 h20b
  clear hna hnb h20 h20b _u
  go_enter Tryd.func7, Tryd.ntmps7
  go_wp2_with fail
  refine (alive4_any w hT).mono ?_
  rintro e w1 ⟨rfl, hB1⟩
  go_wp2_with fail
  refine (cclash_val a b x z u v _ pa pb na nb ca cb w1 HNA.out HNB.out hle hao hbo (ha' hB1) (hb' hB1) hca hcam hcb hcbm (hT.below hB1) HP.out HQ.out HK.out).mono ?_
  rintro e w2 ⟨rfl, hA2⟩
  have hB2 := hB1.trans (hA2.mono hB1.size)
  go_wp2_with fail
  have hX : Arr .u32 41 w2.heap.size (both8 x z).toL ((w2.alloc (.cells #[.int .u32 x.d0, .int .u32 x.d1, .int .u32 x.d2, .int .u32 x.d3, .int .u32 z.d0, .int .u32 z.d1, .int .u32 z.d2, .int .u32 z.d3] 41)).alloc (.cells #[.int .u32 u.d0, .int .u32 u.d1, .int .u32 u.d2, .int .u32 u.d3, .int .u32 v.d0, .int .u32 v.d1, .int .u32 v.d2, .int .u32 v.d3] 41)) := (al8 x z w2).al _
  have hY : Arr .u32 41 (w2.heap.size + 1) (both8 u v).toL ((w2.alloc (.cells #[.int .u32 x.d0, .int .u32 x.d1, .int .u32 x.d2, .int .u32 x.d3, .int .u32 z.d0, .int .u32 z.d1, .int .u32 z.d2, .int .u32 z.d3] 41)).alloc (.cells #[.int .u32 u.d0, .int .u32 u.d1, .int .u32 u.d2, .int .u32 u.d3, .int .u32 v.d0, .int .u32 v.d1, .int .u32 v.d2, .int .u32 v.d3] 41)) := by
    have := al8 u v (w2.alloc (.cells #[.int .u32 x.d0, .int .u32 x.d1, .int .u32 x.d2, .int .u32 x.d3, .int .u32 z.d0, .int .u32 z.d1, .int .u32 z.d2, .int .u32 z.d3] 41))
    rw [show (w2.alloc (.cells #[.int .u32 x.d0, .int .u32 x.d1, .int .u32 x.d2, .int .u32 x.d3, .int .u32 z.d0, .int .u32 z.d1, .int .u32 z.d2, .int .u32 z.d3] 41)).heap.size = w2.heap.size + 1 by simp] at this
    exact this
  have hB3 := (hB2.alloc hB2.size (.cells #[.int .u32 x.d0, .int .u32 x.d1, .int .u32 x.d2, .int .u32 x.d3, .int .u32 z.d0, .int .u32 z.d1, .int .u32 z.d2, .int .u32 z.d3] 41)).alloc (by have := hB2.size; simp; omega) (.cells #[.int .u32 u.d0, .int .u32 u.d1, .int .u32 u.d2, .int .u32 u.d3, .int .u32 v.d0, .int .u32 v.d1, .int .u32 v.d2, .int .u32 v.d3] 41)
  generalize (w2.alloc (.cells #[.int .u32 x.d0, .int .u32 x.d1, .int .u32 x.d2, .int .u32 x.d3, .int .u32 z.d0, .int .u32 z.d1, .int .u32 z.d2, .int .u32 z.d3] 41)).alloc (.cells #[.int .u32 u.d0, .int .u32 u.d1, .int .u32 u.d2, .int .u32 u.d3, .int .u32 v.d0, .int .u32 v.d1, .int .u32 v.d2, .int .u32 v.d3] 41) = w3 at *
  refine (rclash_val a b x z u v _ pa pb na nb ca cb w3 HNA.out HNB.out hle hao hbo (ha' hB3) (hb' hB3) hca hcam hcb hcbm HP.out HQ.out HK.out).mono ?_
  rintro e w4 ⟨rfl, hA4⟩
  have hX4 := hX.on hA4
  have hY4 := hY.on hA4
  have hB4 := hB3.trans (hA4.mono hB3.size)
  have hXlt := hX4.lt
  have hYlt := hY4.lt
  have X8 := Arr.c8 hX4
  have Y8 := Arr.c8 hY4
  simp only [both8] at X8 Y8
  obtain ⟨x0, x1, x2, x3, x4, x5, x6, x7⟩ := X8
  obtain ⟨y0, y1, y2, y3, y4, y5, y6, y7⟩ := Y8
  have hX5 := (hX4.al (.cells #[.int .u32 x.d0, .int .u32 x.d1, .int .u32 x.d2, .int .u32 x.d3, .int .u32 z.d0, .int .u32 z.d1, .int .u32 z.d2, .int .u32 z.d3] 41)).al (.cells #[.int .u32 u.d0, .int .u32 u.d1, .int .u32 u.d2, .int .u32 u.d3, .int .u32 v.d0, .int .u32 v.d1, .int .u32 v.d2, .int .u32 v.d3] 41)
  have hY5 := (hY4.al (.cells #[.int .u32 x.d0, .int .u32 x.d1, .int .u32 x.d2, .int .u32 x.d3, .int .u32 z.d0, .int .u32 z.d1, .int .u32 z.d2, .int .u32 z.d3] 41)).al (.cells #[.int .u32 u.d0, .int .u32 u.d1, .int .u32 u.d2, .int .u32 u.d3, .int .u32 v.d0, .int .u32 v.d1, .int .u32 v.d2, .int .u32 v.d3] 41)
  have hB5 := (hB4.alloc hB4.size (.cells #[.int .u32 x.d0, .int .u32 x.d1, .int .u32 x.d2, .int .u32 x.d3, .int .u32 z.d0, .int .u32 z.d1, .int .u32 z.d2, .int .u32 z.d3] 41)).alloc (by have := hB4.size; simp; omega) (.cells #[.int .u32 u.d0, .int .u32 u.d1, .int .u32 u.d2, .int .u32 u.d3, .int .u32 v.d0, .int .u32 v.d1, .int .u32 v.d2, .int .u32 v.d3] 41)
  clear hX hY hB2 hB3 hA2 hA4 hX4 hY4
  go_wp2_with fail
  clear x0 x1 x2 x3 x4 x5 x6 x7 y0 y1 y2 y3 y4 y5 y6 y7
  generalize (w4.alloc (.cells #[.int .u32 x.d0, .int .u32 x.d1, .int .u32 x.d2, .int .u32 x.d3, .int .u32 z.d0, .int .u32 z.d1, .int .u32 z.d2, .int .u32 z.d3] 41)).alloc (.cells #[.int .u32 u.d0, .int .u32 u.d1, .int .u32 u.d2, .int .u32 u.d3, .int .u32 v.d0, .int .u32 v.d1, .int .u32 v.d2, .int .u32 v.d3] 41) = w5 at *
  refine (rsame_any a b pa pb na nb ca cb w5 HNA.out HNB.out (ha' hB5) (hb' hB5) hca hcam hcb hcbm).mono ?_
  rintro e w6 ⟨rfl, hA6⟩
  rw [HD.out]
  have hB6 := hB5.trans (hA6.mono hB5.size)
  have hX6 := hX5.on hA6
  have hY6 := hY5.on hA6
  go_wp2_with fail
  have hXd : Arr .u32 41 w2.heap.size (both8 x z).toL w6.drew := hX6
  have hYd : Arr .u32 41 (w2.heap.size + 1) (both8 u v).toL w6.drew := hY6
  have hBd := hB6.drew
  have hTd := hT.below hBd
  have X8 := Arr.c8 hXd
  have Y8 := Arr.c8 hYd
  simp only [both8] at X8 Y8
  have HS0 : Hid (w6.drew.cell? ⟨w2.heap.size, 0, none⟩ = some (.int .u32 x.d0) ∧ w6.drew.cell? ⟨w2.heap.size, 1, none⟩ = some (.int .u32 x.d1) ∧ w6.drew.cell? ⟨w2.heap.size, 2, none⟩ = some (.int .u32 x.d2) ∧ w6.drew.cell? ⟨w2.heap.size, 3, none⟩ = some (.int .u32 x.d3) ∧ w6.drew.cell? ⟨w2.heap.size, 4, none⟩ = some (.int .u32 z.d0) ∧ w6.drew.cell? ⟨w2.heap.size, 5, none⟩ = some (.int .u32 z.d1) ∧ w6.drew.cell? ⟨w2.heap.size, 6, none⟩ = some (.int .u32 z.d2) ∧ w6.drew.cell? ⟨w2.heap.size, 7, none⟩ = some (.int .u32 z.d3) ∧ w6.drew.cell? ⟨w2.heap.size + 1, 0, none⟩ = some (.int .u32 u.d0) ∧ w6.drew.cell? ⟨w2.heap.size + 1, 1, none⟩ = some (.int .u32 u.d1) ∧ w6.drew.cell? ⟨w2.heap.size + 1, 2, none⟩ = some (.int .u32 u.d2) ∧ w6.drew.cell? ⟨w2.heap.size + 1, 3, none⟩ = some (.int .u32 u.d3) ∧ w6.drew.cell? ⟨w2.heap.size + 1, 4, none⟩ = some (.int .u32 v.d0) ∧ w6.drew.cell? ⟨w2.heap.size + 1, 5, none⟩ = some (.int .u32 v.d1) ∧ w6.drew.cell? ⟨w2.heap.size + 1, 6, none⟩ = some (.int .u32 v.d2) ∧ w6.drew.cell? ⟨w2.heap.size + 1, 7, none⟩ = some (.int .u32 v.d3)) := ⟨X8.1, X8.2.1, X8.2.2.1, X8.2.2.2.1, X8.2.2.2.2.1, X8.2.2.2.2.2.1, X8.2.2.2.2.2.2.1, X8.2.2.2.2.2.2.2, Y8⟩
  have hra := ha' hBd
  have hrb := hb' hBd
  clear hX5 hY5 hX6 hY6 hXd hYd X8 Y8 hB5 hB6 hA6 hEp hEq
  refine wp_region_held_drew (S := fun w' => True) (by kernel_rfl) (trivial) (fun hHeld => ?_)
  refine wpAnyH_take (i := 0) (oi := _) (v := ?vvb0) rfl (by kernel_rfl) (by kernel_rfl) (by kernel_rfl) (fun _ _ _ h => h) (Or.inl ⟨by kernel_rfl, ?hyb0⟩) hHeld ?restb0
  case hyb0 => intro w hSw; (try dsimp only at hSw); (try go_split_ands); go_simp; try with_reducible rfl
  try simp only [List.getElem_toArray, List.getElem_cons_zero, Act.put, List.setIfInBounds_toArray, List.set_cons_zero, List.set_cons_succ]
  refine wpAnyH_take (i := 1) (oi := _) (v := ?vvb1) rfl (by kernel_rfl) (by kernel_rfl) (by kernel_rfl) (fun _ _ _ h => h) (Or.inl ⟨by kernel_rfl, ?hyb1⟩) hHeld ?restb1
  case hyb1 => intro w hSw; (try dsimp only at hSw); (try go_split_ands); go_simp; try with_reducible rfl
  try simp only [List.getElem_toArray, List.getElem_cons_succ, List.getElem_cons_zero, Act.put, List.setIfInBounds_toArray, List.set_cons_zero, List.set_cons_succ]
  refine wpAnyH_take (i := 3) (oi := _) (v := ?vvb2) rfl (by kernel_rfl) (by kernel_rfl) (by kernel_rfl) (fun _ _ _ h => h) (Or.inl ⟨by kernel_rfl, ?hyb2⟩) hHeld ?restb2
  case hyb2 => intro w hSw; (try dsimp only at hSw); (try go_split_ands); go_simp; try with_reducible rfl
  try simp only [List.getElem_toArray, List.getElem_cons_succ, List.getElem_cons_zero, Act.put, List.setIfInBounds_toArray, List.set_cons_zero, List.set_cons_succ]
  refine wpAnyH_ready (rs := [2]) (by kernel_rfl) (by simp) ?_
  refine AllReadyH.cons (o := _) rfl (fun K hK => ?_) AllReadyH.nil
  go_simp
  go_at_call 11; (with_reducible refine (croot_gen a hle hao ra pa na ca _ hra HNA.out hca hcam hTd HRA.out).mono ?_); rintro e w7 ⟨rfl, hA7⟩; have hB7 := hBd.trans (hA7.mono hBd.size); have hrb7 := hb' hB7; have hT7 := hT.below hB7
  go_wp2_with fail
  refine hK.out _ _ (trivial) (fun hHeld => ?_)
  clear hK K
  try simp only [List.getElem_toArray, List.getElem_cons_succ, List.getElem_cons_zero, Act.put, List.setIfInBounds_toArray, List.set_cons_zero, List.set_cons_succ]
  refine wpAnyH_ready (rs := [4]) (by kernel_rfl) (by simp) ?_
  refine AllReadyH.cons (o := _) rfl (fun K hK => ?_) AllReadyH.nil
  go_simp
  go_at_call 11; (with_reducible refine (croot_gen b hle2 hbo rb pb nb cb _ hrb7 HNB.out hcb hcbm hT7 HRB.out).mono ?_); rintro e w8 ⟨rfl, hA8⟩; have hB8 := hB7.trans (hA8.mono hB7.size)
  go_wp2_with fail
  refine hK.out _ _ (trivial) (fun hHeld => ?_)
  clear hK K
  try simp only [List.getElem_toArray, List.getElem_cons_succ, List.getElem_cons_zero, Act.put, List.setIfInBounds_toArray, List.set_cons_zero, List.set_cons_succ]
  refine wpAnyH_take (i := 5) (oi := _) (v := ?vvb5) rfl (by kernel_rfl) (by kernel_rfl) (by kernel_rfl) (fun _ _ _ h => h) (Or.inl ⟨by kernel_rfl, ?hyb5⟩) hHeld ?restb5
  case hyb5 => intro w hSw; (try dsimp only at hSw); (try go_split_ands); go_simp; try with_reducible rfl
  try simp only [List.getElem_toArray, List.getElem_cons_succ, List.getElem_cons_zero, Act.put, List.setIfInBounds_toArray, List.set_cons_zero, List.set_cons_succ]
  refine wpAnyH_take (i := 6) (oi := _) (v := ?vvb6) rfl (by kernel_rfl) (by kernel_rfl) (by kernel_rfl) (fun _ _ _ h => h) (Or.inl ⟨by kernel_rfl, ?hyb6⟩) hHeld ?restb6
  case hyb6 => intro w hSw; (try dsimp only at hSw); (try go_split_ands); go_simp; try with_reducible rfl
  try simp only [List.getElem_toArray, List.getElem_cons_succ, List.getElem_cons_zero, Act.put, List.setIfInBounds_toArray, List.set_cons_zero, List.set_cons_succ]
  refine wpAnyH_take (i := 7) (oi := _) (v := ?vvb7) rfl (by kernel_rfl) (by kernel_rfl) (by kernel_rfl) (fun _ _ _ h => h) (Or.inl ⟨by kernel_rfl, ?hyb7⟩) hHeld ?restb7
  case hyb7 => intro w hSw; (try dsimp only at hSw); (try go_split_ands); go_simp; try with_reducible rfl
  try simp only [List.getElem_toArray, List.getElem_cons_succ, List.getElem_cons_zero, Act.put, List.setIfInBounds_toArray, List.set_cons_zero, List.set_cons_succ]
  refine wpAnyH_take (i := 8) (oi := _) (v := ?vvb8) rfl (by kernel_rfl) (by kernel_rfl) (by kernel_rfl) (fun _ _ _ h => h) (Or.inl ⟨by kernel_rfl, ?hyb8⟩) hHeld ?restb8
  case hyb8 => intro w hSw; (try dsimp only at hSw); (try go_split_ands); go_simp; try with_reducible rfl
  try simp only [List.getElem_toArray, List.getElem_cons_succ, List.getElem_cons_zero, Act.put, List.setIfInBounds_toArray, List.set_cons_zero, List.set_cons_succ]
  refine wpAnyH_take (i := 9) (oi := _) (v := ?vvb9) rfl (by kernel_rfl) (by kernel_rfl) (by kernel_rfl) (fun _ _ _ h => h) (Or.inl ⟨by kernel_rfl, ?hyb9⟩) hHeld ?restb9
  case hyb9 => intro w hSw; (try dsimp only at hSw); (try go_split_ands); go_simp; try with_reducible rfl
  try simp only [List.getElem_toArray, List.getElem_cons_succ, List.getElem_cons_zero, Act.put, List.setIfInBounds_toArray, List.set_cons_zero, List.set_cons_succ]
  refine wpAnyH_take (i := 10) (oi := _) (v := ?vvb10) rfl (by kernel_rfl) (by kernel_rfl) (by kernel_rfl) (fun _ _ _ h => h) (Or.inl ⟨by kernel_rfl, ?hyb10⟩) hHeld ?restb10
  case hyb10 => intro w hSw; (try dsimp only at hSw); (try go_split_ands); go_simp; try with_reducible rfl
  try simp only [List.getElem_toArray, List.getElem_cons_succ, List.getElem_cons_zero, Act.put, List.setIfInBounds_toArray, List.set_cons_zero, List.set_cons_succ]
  refine wpAnyH_take (i := 11) (oi := _) (v := undef) rfl (by kernel_rfl) (by kernel_rfl) (by kernel_rfl) (fun _ _ _ h => h) (Or.inr ⟨by kernel_rfl, rfl⟩) hHeld ?restb11
  try simp only [List.getElem_toArray, List.getElem_cons_succ, List.getElem_cons_zero, Act.put, List.setIfInBounds_toArray, List.set_cons_zero, List.set_cons_succ]
  refine wpAnyH_take (i := 12) (oi := _) (v := undef) rfl (by kernel_rfl) (by kernel_rfl) (by kernel_rfl) (fun _ _ _ h => h) (Or.inr ⟨by kernel_rfl, rfl⟩) hHeld ?restb12
  try simp only [List.getElem_toArray, List.getElem_cons_succ, List.getElem_cons_zero, Act.put, List.setIfInBounds_toArray, List.set_cons_zero, List.set_cons_succ]
  refine wpAnyH_take (i := 13) (oi := _) (v := undef) rfl (by kernel_rfl) (by kernel_rfl) (by kernel_rfl) (fun _ _ _ h => h) (Or.inr ⟨by kernel_rfl, rfl⟩) hHeld ?restb13
  try simp only [List.getElem_toArray, List.getElem_cons_succ, List.getElem_cons_zero, Act.put, List.setIfInBounds_toArray, List.set_cons_zero, List.set_cons_succ]
  refine wpAnyH_take (i := 14) (oi := _) (v := undef) rfl (by kernel_rfl) (by kernel_rfl) (by kernel_rfl) (fun _ _ _ h => h) (Or.inr ⟨by kernel_rfl, rfl⟩) hHeld ?restb14
  try simp only [List.getElem_toArray, List.getElem_cons_succ, List.getElem_cons_zero, Act.put, List.setIfInBounds_toArray, List.set_cons_zero, List.set_cons_succ]
  refine wpAnyH_take (i := 15) (oi := _) (v := undef) rfl (by kernel_rfl) (by kernel_rfl) (by kernel_rfl) (fun _ _ _ h => h) (Or.inr ⟨by kernel_rfl, rfl⟩) hHeld ?restb15
  try simp only [List.getElem_toArray, List.getElem_cons_succ, List.getElem_cons_zero, Act.put, List.setIfInBounds_toArray, List.set_cons_zero, List.set_cons_succ]
  refine wpAnyH_take (i := 16) (oi := _) (v := undef) rfl (by kernel_rfl) (by kernel_rfl) (by kernel_rfl) (fun _ _ _ h => h) (Or.inr ⟨by kernel_rfl, rfl⟩) hHeld ?restb16
  try simp only [List.getElem_toArray, List.getElem_cons_succ, List.getElem_cons_zero, Act.put, List.setIfInBounds_toArray, List.set_cons_zero, List.set_cons_succ]
  refine wpAnyH_take (i := 17) (oi := _) (v := undef) rfl (by kernel_rfl) (by kernel_rfl) (by kernel_rfl) (fun _ _ _ h => h) (Or.inr ⟨by kernel_rfl, rfl⟩) hHeld ?restb17
  try simp only [List.getElem_toArray, List.getElem_cons_succ, List.getElem_cons_zero, Act.put, List.setIfInBounds_toArray, List.set_cons_zero, List.set_cons_succ]
  refine wpAnyH_take (i := 18) (oi := _) (v := undef) rfl (by kernel_rfl) (by kernel_rfl) (by kernel_rfl) (fun _ _ _ h => h) (Or.inr ⟨by kernel_rfl, rfl⟩) hHeld ?restb18
  try simp only [List.getElem_toArray, List.getElem_cons_succ, List.getElem_cons_zero, Act.put, List.setIfInBounds_toArray, List.set_cons_zero, List.set_cons_succ]
  refine wpAnyH_take (i := 19) (oi := _) (v := undef) rfl (by kernel_rfl) (by kernel_rfl) (by kernel_rfl) (fun _ _ _ h => h) (Or.inr ⟨by kernel_rfl, rfl⟩) hHeld ?restb19
  try simp only [List.getElem_toArray, List.getElem_cons_succ, List.getElem_cons_zero, Act.put, List.setIfInBounds_toArray, List.set_cons_zero, List.set_cons_succ]
  refine wpAnyH_take (i := 20) (oi := _) (v := undef) rfl (by kernel_rfl) (by kernel_rfl) (by kernel_rfl) (fun _ _ _ h => h) (Or.inr ⟨by kernel_rfl, rfl⟩) hHeld ?restb20
  try simp only [List.getElem_toArray, List.getElem_cons_succ, List.getElem_cons_zero, Act.put, List.setIfInBounds_toArray, List.set_cons_zero, List.set_cons_succ]
  refine wpAnyH_take (i := 21) (oi := _) (v := undef) rfl (by kernel_rfl) (by kernel_rfl) (by kernel_rfl) (fun _ _ _ h => h) (Or.inr ⟨by kernel_rfl, rfl⟩) hHeld ?restb21
  try simp only [List.getElem_toArray, List.getElem_cons_succ, List.getElem_cons_zero, Act.put, List.setIfInBounds_toArray, List.set_cons_zero, List.set_cons_succ]
  refine wpAnyH_take (i := 22) (oi := _) (v := undef) rfl (by kernel_rfl) (by kernel_rfl) (by kernel_rfl) (fun _ _ _ h => h) (Or.inr ⟨by kernel_rfl, rfl⟩) hHeld ?restb22
  try simp only [List.getElem_toArray, List.getElem_cons_succ, List.getElem_cons_zero, Act.put, List.setIfInBounds_toArray, List.set_cons_zero, List.set_cons_succ]
  refine wpAnyH_take (i := 23) (oi := _) (v := undef) rfl (by kernel_rfl) (by kernel_rfl) (by kernel_rfl) (fun _ _ _ h => h) (Or.inr ⟨by kernel_rfl, rfl⟩) hHeld ?restb23
  try simp only [List.getElem_toArray, List.getElem_cons_succ, List.getElem_cons_zero, Act.put, List.setIfInBounds_toArray, List.set_cons_zero, List.set_cons_succ]
  refine wpAnyH_take (i := 24) (oi := _) (v := undef) rfl (by kernel_rfl) (by kernel_rfl) (by kernel_rfl) (fun _ _ _ h => h) (Or.inr ⟨by kernel_rfl, rfl⟩) hHeld ?restb24
  try simp only [List.getElem_toArray, List.getElem_cons_succ, List.getElem_cons_zero, Act.put, List.setIfInBounds_toArray, List.set_cons_zero, List.set_cons_succ]
  refine wpAnyH_take (i := 25) (oi := _) (v := undef) rfl (by kernel_rfl) (by kernel_rfl) (by kernel_rfl) (fun _ _ _ h => h) (Or.inr ⟨by kernel_rfl, rfl⟩) hHeld ?restb25
  try simp only [List.getElem_toArray, List.getElem_cons_succ, List.getElem_cons_zero, Act.put, List.setIfInBounds_toArray, List.set_cons_zero, List.set_cons_succ]
  refine wpAnyH_take (i := 26) (oi := _) (v := undef) rfl (by kernel_rfl) (by kernel_rfl) (by kernel_rfl) (fun _ _ _ h => h) (Or.inr ⟨by kernel_rfl, rfl⟩) hHeld ?restb26
  try simp only [List.getElem_toArray, List.getElem_cons_succ, List.getElem_cons_zero, Act.put, List.setIfInBounds_toArray, List.set_cons_zero, List.set_cons_succ]
  refine wpAnyH_take (i := 27) (oi := _) (v := ?vvb27) rfl (by kernel_rfl) (by kernel_rfl) (by kernel_rfl) (fun _ _ _ h => h) (Or.inl ⟨by kernel_rfl, ?hyb27⟩) hHeld ?restb27
  case hyb27 => intro w hSw; (try dsimp only at hSw); (try go_split_ands); go_simp; try with_reducible rfl
  try simp only [List.getElem_toArray, List.getElem_cons_succ, List.getElem_cons_zero, Act.put, List.setIfInBounds_toArray, List.set_cons_zero, List.set_cons_succ]
  refine wpAnyH_take (i := 28) (oi := _) (v := ?vvb28) rfl (by kernel_rfl) (by kernel_rfl) (by kernel_rfl) (fun _ _ _ h => h) (Or.inl ⟨by kernel_rfl, ?hyb28⟩) hHeld ?restb28
  case hyb28 => intro w hSw; (try dsimp only at hSw); (try go_split_ands); go_simp; try with_reducible rfl
  try simp only [List.getElem_toArray, List.getElem_cons_succ, List.getElem_cons_zero, Act.put, List.setIfInBounds_toArray, List.set_cons_zero, List.set_cons_succ]
  refine wpAnyH_take (i := 29) (oi := _) (v := ?vvb29) rfl (by kernel_rfl) (by kernel_rfl) (by kernel_rfl) (fun _ _ _ h => h) (Or.inl ⟨by kernel_rfl, ?hyb29⟩) hHeld ?restb29
  case hyb29 => intro w hSw; (try dsimp only at hSw); (try go_split_ands); go_simp; try with_reducible rfl
  try simp only [List.getElem_toArray, List.getElem_cons_succ, List.getElem_cons_zero, Act.put, List.setIfInBounds_toArray, List.set_cons_zero, List.set_cons_succ]
  refine wpAnyH_done (by kernel_rfl) ?_ _
  all_goals
    go_wp2
    go_ret
    exact ⟨rfl, hB8⟩
set_option maxHeartbeats 8000000 in
set_option maxRecDepth 100000 in
theorem clashes_yes (a b : List D4) (pa pb : Option Addr) (na nb ca cb : Nat) (w : World) (hna : na = a.length) (hnb : nb = b.length) (h20 : na ≤ 20) (h20b : nb ≤ 20) (hnm : na = nb) (hab : a ≠ b) (hrt : rootD a = rootD b) (hao : allD4 a) (hbo : allD4 b) (ha : RdS w pa a) (hb : RdS w pb b) (hca : na ≤ ca) (hcam : ca ≤ maxLen) (hcb : nb ≤ cb) (hcbm : cb ≤ maxLen) (hT : TurnsOk w) :
    Calls Tryd.prog 7 #[.slice pa na ca, .slice pb nb cb] w fun e w' => e = .returned (.bool true) ∧ Below w.heap.size w w' := by
  have hd1 : decide (20 < (na : Int)) = false := by simp; omega
  have hd2 : decide (20 < (nb : Int)) = false := by simp; omega
  have hle : a.length ≤ 1000000 := by omega
  have hle2 : b.length ≤ 1000000 := by omega
  have hn1 : ((na : Int) == (nb : Int)) = true := by simp; omega
  have hn2 : ((na : Int) != (nb : Int)) = false := by simp; omega
  obtain ⟨⟨x, z⟩, ⟨u, v⟩, hc, hne, hpr⟩ := clash_some pairS noneD a.length a b rfl (by omega) hab hrt
  have hpr : pairS x z = pairS u v := hpr
  have HP : Hid (clashP a b = (x, z)) := by show _ = _; unfold clashP clashD; rw [hc]
  have HQ : Hid (clashQ a b = (u, v)) := by show _ = _; unfold clashQ clashD; rw [hc]
  have HK : Hid (clashOk a b = true) := by show _ = _; unfold clashOk clashD; rw [hc]
  obtain ⟨hxo, hzo, huo, hvo⟩ := clash_ok a.length a b rfl hao hbo x z u v hc
  have HD : Hid (decide (a = b) = false) := decide_eq_false hab
  obtain ⟨ra, hra'⟩ : ∃ y, rootD a = y := ⟨_, rfl⟩
  have hrb' : rootD b = ra := by rw [← hrt]; exact hra'
  have hE := eqD_yes ra
  obtain ⟨rb, hrbe⟩ : ∃ y, ra = y := ⟨_, rfl⟩
  obtain ⟨pr, hpx⟩ : ∃ y, pairS x z = y := ⟨_, rfl⟩
  have hpy : pairS u v = pr := by rw [← hpr]; exact hpx
  have hE2 := eqD_yes pr
  have hE3 := eqP_run x z u v
  rw [show (sameD x u && sameD z v) = false by
    rcases q1 : sameD x u with _ | _
    · rfl
    · rcases q2 : sameD z v with _ | _
      · rfl
      · exact absurd (by rw [(sameD_iff x u).mp q1, (sameD_iff z v).mp q2]) hne] at hE3
  have HRA := Lib.hid hra'
  have HRB : Hid (rootD b = rb) := by show _ = _; rw [hrb', hrbe]
  subst hrbe
  have HPX := Lib.hid hpx
  have HPY := Lib.hid hpy
  clear hab hrt hra' hrb' hc hne hpr hpx hpy hnm
  have hEp := eqP_run x z x z
  rw [(sameD_iff x x).mpr rfl, (sameD_iff z z).mpr rfl] at hEp
  have hEq := eqP_run u v u v
  rw [(sameD_iff u u).mpr rfl, (sameD_iff v v).mpr rfl] at hEq
  have HNA := Lib.hid hna
  have HNB := Lib.hid hnb
  have ha' : ∀ {W}, Below w.heap.size w W → RdS W pa a := fun h => ha.on h
  have hb' : ∀ {W}, Below w.heap.size w W → RdS W pb b := fun h => hb.on h
  have _u := And.intro h20 h20b
  clear hna hnb h20 h20b _u
  go_enter Tryd.func7, Tryd.ntmps7
  go_wp2_with fail
  refine (alive4_any w hT).mono ?_
  rintro e w1 ⟨rfl, hB1⟩
  go_wp2_with fail
  refine (cclash_val a b x z u v _ pa pb na nb ca cb w1 HNA.out HNB.out hle hao hbo (ha' hB1) (hb' hB1) hca hcam hcb hcbm (hT.below hB1) HP.out HQ.out HK.out).mono ?_
  rintro e w2 ⟨rfl, hA2⟩
  have hB2 := hB1.trans (hA2.mono hB1.size)
  go_wp2_with fail
  have hX : Arr .u32 41 w2.heap.size (both8 x z).toL ((w2.alloc (.cells #[.int .u32 x.d0, .int .u32 x.d1, .int .u32 x.d2, .int .u32 x.d3, .int .u32 z.d0, .int .u32 z.d1, .int .u32 z.d2, .int .u32 z.d3] 41)).alloc (.cells #[.int .u32 u.d0, .int .u32 u.d1, .int .u32 u.d2, .int .u32 u.d3, .int .u32 v.d0, .int .u32 v.d1, .int .u32 v.d2, .int .u32 v.d3] 41)) := (al8 x z w2).al _
  have hY : Arr .u32 41 (w2.heap.size + 1) (both8 u v).toL ((w2.alloc (.cells #[.int .u32 x.d0, .int .u32 x.d1, .int .u32 x.d2, .int .u32 x.d3, .int .u32 z.d0, .int .u32 z.d1, .int .u32 z.d2, .int .u32 z.d3] 41)).alloc (.cells #[.int .u32 u.d0, .int .u32 u.d1, .int .u32 u.d2, .int .u32 u.d3, .int .u32 v.d0, .int .u32 v.d1, .int .u32 v.d2, .int .u32 v.d3] 41)) := by
    have := al8 u v (w2.alloc (.cells #[.int .u32 x.d0, .int .u32 x.d1, .int .u32 x.d2, .int .u32 x.d3, .int .u32 z.d0, .int .u32 z.d1, .int .u32 z.d2, .int .u32 z.d3] 41))
    rw [show (w2.alloc (.cells #[.int .u32 x.d0, .int .u32 x.d1, .int .u32 x.d2, .int .u32 x.d3, .int .u32 z.d0, .int .u32 z.d1, .int .u32 z.d2, .int .u32 z.d3] 41)).heap.size = w2.heap.size + 1 by simp] at this
    exact this
  have hB3 := (hB2.alloc hB2.size (.cells #[.int .u32 x.d0, .int .u32 x.d1, .int .u32 x.d2, .int .u32 x.d3, .int .u32 z.d0, .int .u32 z.d1, .int .u32 z.d2, .int .u32 z.d3] 41)).alloc (by have := hB2.size; simp; omega) (.cells #[.int .u32 u.d0, .int .u32 u.d1, .int .u32 u.d2, .int .u32 u.d3, .int .u32 v.d0, .int .u32 v.d1, .int .u32 v.d2, .int .u32 v.d3] 41)
  generalize (w2.alloc (.cells #[.int .u32 x.d0, .int .u32 x.d1, .int .u32 x.d2, .int .u32 x.d3, .int .u32 z.d0, .int .u32 z.d1, .int .u32 z.d2, .int .u32 z.d3] 41)).alloc (.cells #[.int .u32 u.d0, .int .u32 u.d1, .int .u32 u.d2, .int .u32 u.d3, .int .u32 v.d0, .int .u32 v.d1, .int .u32 v.d2, .int .u32 v.d3] 41) = w3 at *
  refine (rclash_val a b x z u v _ pa pb na nb ca cb w3 HNA.out HNB.out hle hao hbo (ha' hB3) (hb' hB3) hca hcam hcb hcbm HP.out HQ.out HK.out).mono ?_
  rintro e w4 ⟨rfl, hA4⟩
  have hX4 := hX.on hA4
  have hY4 := hY.on hA4
  have hB4 := hB3.trans (hA4.mono hB3.size)
  have hXlt := hX4.lt
  have hYlt := hY4.lt
  have X8 := Arr.c8 hX4
  have Y8 := Arr.c8 hY4
  simp only [both8] at X8 Y8
  obtain ⟨x0, x1, x2, x3, x4, x5, x6, x7⟩ := X8
  obtain ⟨y0, y1, y2, y3, y4, y5, y6, y7⟩ := Y8
  have hX5 := (hX4.al (.cells #[.int .u32 x.d0, .int .u32 x.d1, .int .u32 x.d2, .int .u32 x.d3, .int .u32 z.d0, .int .u32 z.d1, .int .u32 z.d2, .int .u32 z.d3] 41)).al (.cells #[.int .u32 u.d0, .int .u32 u.d1, .int .u32 u.d2, .int .u32 u.d3, .int .u32 v.d0, .int .u32 v.d1, .int .u32 v.d2, .int .u32 v.d3] 41)
  have hY5 := (hY4.al (.cells #[.int .u32 x.d0, .int .u32 x.d1, .int .u32 x.d2, .int .u32 x.d3, .int .u32 z.d0, .int .u32 z.d1, .int .u32 z.d2, .int .u32 z.d3] 41)).al (.cells #[.int .u32 u.d0, .int .u32 u.d1, .int .u32 u.d2, .int .u32 u.d3, .int .u32 v.d0, .int .u32 v.d1, .int .u32 v.d2, .int .u32 v.d3] 41)
  have hB5 := (hB4.alloc hB4.size (.cells #[.int .u32 x.d0, .int .u32 x.d1, .int .u32 x.d2, .int .u32 x.d3, .int .u32 z.d0, .int .u32 z.d1, .int .u32 z.d2, .int .u32 z.d3] 41)).alloc (by have := hB4.size; simp; omega) (.cells #[.int .u32 u.d0, .int .u32 u.d1, .int .u32 u.d2, .int .u32 u.d3, .int .u32 v.d0, .int .u32 v.d1, .int .u32 v.d2, .int .u32 v.d3] 41)
  clear hX hY hB2 hB3 hA2 hA4 hX4 hY4
  go_wp2_with fail
  clear x0 x1 x2 x3 x4 x5 x6 x7 y0 y1 y2 y3 y4 y5 y6 y7
  generalize (w4.alloc (.cells #[.int .u32 x.d0, .int .u32 x.d1, .int .u32 x.d2, .int .u32 x.d3, .int .u32 z.d0, .int .u32 z.d1, .int .u32 z.d2, .int .u32 z.d3] 41)).alloc (.cells #[.int .u32 u.d0, .int .u32 u.d1, .int .u32 u.d2, .int .u32 u.d3, .int .u32 v.d0, .int .u32 v.d1, .int .u32 v.d2, .int .u32 v.d3] 41) = w5 at *
  refine (rsame_any a b pa pb na nb ca cb w5 HNA.out HNB.out (ha' hB5) (hb' hB5) hca hcam hcb hcbm).mono ?_
  rintro e w6 ⟨rfl, hA6⟩
  rw [HD.out]
  have hB6 := hB5.trans (hA6.mono hB5.size)
  have hX6 := hX5.on hA6
  have hY6 := hY5.on hA6
  go_wp2_with fail
  have hXd : Arr .u32 41 w2.heap.size (both8 x z).toL w6.drew := hX6
  have hYd : Arr .u32 41 (w2.heap.size + 1) (both8 u v).toL w6.drew := hY6
  have hBd := hB6.drew
  have hTd := hT.below hBd
  have X8 := Arr.c8 hXd
  have Y8 := Arr.c8 hYd
  simp only [both8] at X8 Y8
  have HS0 : Hid (w6.drew.cell? ⟨w2.heap.size, 0, none⟩ = some (.int .u32 x.d0) ∧ w6.drew.cell? ⟨w2.heap.size, 1, none⟩ = some (.int .u32 x.d1) ∧ w6.drew.cell? ⟨w2.heap.size, 2, none⟩ = some (.int .u32 x.d2) ∧ w6.drew.cell? ⟨w2.heap.size, 3, none⟩ = some (.int .u32 x.d3) ∧ w6.drew.cell? ⟨w2.heap.size, 4, none⟩ = some (.int .u32 z.d0) ∧ w6.drew.cell? ⟨w2.heap.size, 5, none⟩ = some (.int .u32 z.d1) ∧ w6.drew.cell? ⟨w2.heap.size, 6, none⟩ = some (.int .u32 z.d2) ∧ w6.drew.cell? ⟨w2.heap.size, 7, none⟩ = some (.int .u32 z.d3) ∧ w6.drew.cell? ⟨w2.heap.size + 1, 0, none⟩ = some (.int .u32 u.d0) ∧ w6.drew.cell? ⟨w2.heap.size + 1, 1, none⟩ = some (.int .u32 u.d1) ∧ w6.drew.cell? ⟨w2.heap.size + 1, 2, none⟩ = some (.int .u32 u.d2) ∧ w6.drew.cell? ⟨w2.heap.size + 1, 3, none⟩ = some (.int .u32 u.d3) ∧ w6.drew.cell? ⟨w2.heap.size + 1, 4, none⟩ = some (.int .u32 v.d0) ∧ w6.drew.cell? ⟨w2.heap.size + 1, 5, none⟩ = some (.int .u32 v.d1) ∧ w6.drew.cell? ⟨w2.heap.size + 1, 6, none⟩ = some (.int .u32 v.d2) ∧ w6.drew.cell? ⟨w2.heap.size + 1, 7, none⟩ = some (.int .u32 v.d3)) := ⟨X8.1, X8.2.1, X8.2.2.1, X8.2.2.2.1, X8.2.2.2.2.1, X8.2.2.2.2.2.1, X8.2.2.2.2.2.2.1, X8.2.2.2.2.2.2.2, Y8⟩
  have hra := ha' hBd
  have hrb := hb' hBd
  clear hX5 hY5 hX6 hY6 hXd hYd X8 Y8 hB5 hB6 hA6 hEp hEq
  go_region_held3 (fun w' => w'.cell? ⟨w2.heap.size, 0, none⟩ = some (.int .u32 x.d0) ∧ w'.cell? ⟨w2.heap.size, 1, none⟩ = some (.int .u32 x.d1) ∧ w'.cell? ⟨w2.heap.size, 2, none⟩ = some (.int .u32 x.d2) ∧ w'.cell? ⟨w2.heap.size, 3, none⟩ = some (.int .u32 x.d3) ∧ w'.cell? ⟨w2.heap.size, 4, none⟩ = some (.int .u32 z.d0) ∧ w'.cell? ⟨w2.heap.size, 5, none⟩ = some (.int .u32 z.d1) ∧ w'.cell? ⟨w2.heap.size, 6, none⟩ = some (.int .u32 z.d2) ∧ w'.cell? ⟨w2.heap.size, 7, none⟩ = some (.int .u32 z.d3) ∧ w'.cell? ⟨w2.heap.size + 1, 0, none⟩ = some (.int .u32 u.d0) ∧ w'.cell? ⟨w2.heap.size + 1, 1, none⟩ = some (.int .u32 u.d1) ∧ w'.cell? ⟨w2.heap.size + 1, 2, none⟩ = some (.int .u32 u.d2) ∧ w'.cell? ⟨w2.heap.size + 1, 3, none⟩ = some (.int .u32 u.d3) ∧ w'.cell? ⟨w2.heap.size + 1, 4, none⟩ = some (.int .u32 v.d0) ∧ w'.cell? ⟨w2.heap.size + 1, 5, none⟩ = some (.int .u32 v.d1) ∧ w'.cell? ⟨w2.heap.size + 1, 6, none⟩ = some (.int .u32 v.d2) ∧ w'.cell? ⟨w2.heap.size + 1, 7, none⟩ = some (.int .u32 v.d3))
    (first | (with_reducible exact HS0.out) | ((with_reducible refine keep16 hA10 ?_); assumption) | ((with_reducible refine keep16 hA9 ?_); assumption) | ((with_reducible refine keep16 hA8 ?_); assumption) | ((with_reducible refine keep16 hA7 ?_); assumption))
    (first
      | (go_at_call 11; (with_reducible refine (croot_gen a hle hao ra pa na ca _ hra HNA.out hca hcam hTd HRA.out).mono ?_); rintro e w7 ⟨rfl, hA7⟩; have hB7 := hBd.trans (hA7.mono hBd.size); have hrb7 := hb' hB7; have hT7 := hT.below hB7)
      | (go_at_call 11; (with_reducible refine (croot_gen b hle2 hbo ra pb nb cb _ hrb7 HNB.out hcb hcbm hT7 HRB.out).mono ?_); rintro e w8 ⟨rfl, hA8⟩; have hB8 := hB7.trans (hA8.mono hB7.size))
      | (go_at_call 24; (with_reducible refine (rpair_val x z pr _ hxo hzo HPX.out).mono ?_); rintro e w9 ⟨rfl, hA9⟩; have hB9 := hB8.trans (hA9.mono hB8.size))
      | (go_at_call 24; (with_reducible refine (rpair_val u v pr _ huo hvo HPY.out).mono ?_); rintro e w10 ⟨rfl, hA10⟩; have hB10 := hB9.trans (hA10.mono hB9.size)))
  all_goals
    go_wp2
    go_ret
    exact ⟨rfl, hB10⟩
theorem clashes_any (a b : List D4) (pa pb : Option Addr) (ca cb : Nat) (w : World) (hao : allD4 a) (hbo : allD4 b) (ha : RdS w pa a) (hb : RdS w pb b) (hca : a.length ≤ ca) (hcb : b.length ≤ cb) (hcam : ca ≤ maxLen) (hcbm : cb ≤ maxLen) (hT : TurnsOk w) :
    Calls Tryd.prog 7 #[.slice pa a.length ca, .slice pb b.length cb] w fun e w' => e = .returned (.bool true) ∧ Below w.heap.size w w' := by
  by_cases h : 20 < a.length ∨ 20 < b.length
  · exact clashes_long pa pb _ _ ca cb w hT h
  · by_cases hnm : a.length = b.length
    · by_cases hab : a = b
      · exact clashes_same a b pa pb _ _ ca cb w rfl rfl (by omega) (by omega) hab hao hbo ha hb hca hcam hcb hcbm hT
      · by_cases hrt : rootD a = rootD b
        · exact clashes_yes a b pa pb _ _ ca cb w rfl rfl (by omega) (by omega) hnm hab hrt hao hbo ha hb hca hcam hcb hcbm hT
        · exact clashes_root a b pa pb _ _ ca cb w rfl rfl (by omega) (by omega) hnm hab hrt hao hbo ha hb hca hcam hcb hcbm hT
    · exact clashes_len a b pa pb _ _ ca cb w rfl rfl (by omega) (by omega) hnm hao hbo ha hb hca hcam hcb hcbm hT
end Go.Proofs.YtnimbclnhgbdcaaDoor
