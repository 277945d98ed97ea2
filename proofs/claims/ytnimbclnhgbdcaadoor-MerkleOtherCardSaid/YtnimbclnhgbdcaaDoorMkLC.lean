/-
  The walk of MerkleGoesOn (written by gen_law2.py).
-/
import Derived.Test.YtnimbclnhgbdcaaDoorMkLA
import Derived.Test.YtnimbclnhgbdcaaDoorMkY
namespace Go.Proofs.YtnimbclnhgbdcaaDoor
open Go.RowKit

theorem goesD_ok : ∀ (n : Nat) (l : List D4) (m : Nat) (bw : Bool), l.length = n → allD4 l → allD4 (goesD l m bw) := by
  intro n
  induction n using Nat.strongRecOn with
  | _ n ih =>
    intro l m bw hn h
    by_cases q : m = l.length ∨ l.length < 2
    · rw [goesD, goes, dif_pos q]
      cases bw
      · intro d hd; simp at hd; subst hd; exact rootD_ok _ _ rfl h
      · intro d hd; cases hd
    · have h2 : 2 ≤ l.length := by omega
      have hl := half_lt h2
      have hp := half_pos l.length
      by_cases k : m ≤ half l.length
      · rw [goesD, goes_left _ _ l m bw (by omega) h2 k]
        intro d hd
        rcases List.mem_append.mp hd with q | q
        · exact ih (half l.length) (by omega) (l.take (half l.length)) m bw (by rw [List.length_take]; omega) (h.take _) d q
        · simp at q; subst q; exact rootD_ok _ _ rfl (h.drop _)
      · rw [goesD, goes_right _ _ l m bw (by omega) h2 k]
        intro d hd
        rcases List.mem_append.mp hd with q | q
        · exact ih (l.length - half l.length) (by omega) (l.drop (half l.length)) _ false (by rw [List.length_drop]) (h.drop _) d q
        · simp at q; subst q; exact rootD_ok _ _ rfl (h.take _)
theorem check_goes (l : List D4) (m : Nat) (h1 : 1 ≤ m) (hm : m ≤ l.length) (hl : l.length ≤ 1000) : checkOnD (rootD (l.take m)) (m : Int) (rootD l) (l.length : Int) (goesD l m true) = true := by
  have hw := goes_len pairS noneD 10 l m true (by omega) h1 hm
  unfold checkOnD
  rw [if_neg (by show ¬ (_ ∨ _ ∨ _ ∨ 20 < (goes pairS noneD l m true).length); omega)]
  have := on_goes pairS noneD l.length l m true (rootD (l.take m)) rfl h1 hm (fun _ => rfl)
  simp only [Int.toNat_natCast]
  show ((on pairS (rootD (l.take m)) m l.length true (goes pairS noneD l m true)).2.2 && (sameD (on pairS (rootD (l.take m)) m l.length true (goes pairS noneD l m true)).1 (rootD (l.take m)) && sameD (on pairS (rootD (l.take m)) m l.length true (goes pairS noneD l m true)).2.1 (rootD l))) = true
  rw [this]
  show (true && (sameD (rootD (l.take m)) (rootD (l.take m)) && sameD (rootD l) (rootD l))) = true
  rw [(sameD_iff _ _).mpr rfl, (sameD_iff _ _).mpr rfl]; rfl
theorem ccheckOn_val (x root : D4) (m n : Int) (q : List D4) (bl : Bool) (a : Option Addr) (L cap : Nat) (w : World) (hL : L = q.length) (hxo : x.ok) (hq : allD4 q) (hr : RdS w a q) (hc : L ≤ cap) (hm : cap ≤ maxLen) (hT : TurnsOk w) (hb : checkOnD x m root n q = bl) :
    Calls Tryd.prog 20 #[.agg #[.int .u32 x.d0, .int .u32 x.d1, .int .u32 x.d2, .int .u32 x.d3], .int .i64 m, .agg #[.int .u32 root.d0, .int .u32 root.d1, .int .u32 root.d2, .int .u32 root.d3], .int .i64 n, .slice a L cap] w fun e w' => e = .returned (.bool bl) ∧ Below w.heap.size w w' := by
  subst hL; subst hb
  exact ccheckOn_any x root m n q a cap w hxo hq hr hc hm hT
set_option maxHeartbeats 1000000 in
set_option maxRecDepth 100000 in
theorem goesOn_long (n cap : Nat) (i : Int) (p : Option Addr) (w : World) (hT : TurnsOk w) (h : 40 < n) : Calls Tryd.prog 5 #[.slice p n cap, .int .i64 i] w fun e w' => e = .returned (.bool true) ∧ Below w.heap.size w w' := by
  have hd : decide (40 < (n : Int)) = true := by simp; omega
  go_enter Tryd.func5, Tryd.ntmps5
  go_wp2_with fail
  refine (alive4_any w hT).mono ?_
  rintro e w1 ⟨rfl, hB⟩
  go_wp2_with fail
  go_ret
  exact ⟨rfl, hB⟩
set_option maxHeartbeats 4000000 in
set_option maxRecDepth 100000 in
theorem goesOn_out (l : List D4) (i : Int) (p : Option Addr) (cap : Nat) (w : World) (hi : i < 1 ∨ (l.length : Int) < i) (hl : l.length ≤ 40) (hT : TurnsOk w) :
    Calls Tryd.prog 5 #[.slice p l.length cap, .int .i64 i] w fun e w' => e = .returned (.bool true) ∧ Below w.heap.size w w' := by
  have hd : decide (40 < (l.length : Int)) = false := by simp; omega
  obtain ⟨n, hn⟩ : ∃ n, l.length = n := ⟨_, rfl⟩
  have HO := Lib.hid hi
  have HN := Lib.hid hn
  rw [hn] at hd ⊢
  clear hn hi hl
  go_enter Tryd.func5, Tryd.ntmps5
  go_wp2_with fail
  refine (alive4_any w hT).mono ?_
  rintro e w1 ⟨rfl, hB1⟩
  go_wp2_with fail
  refine (cproveOn_no p n cap i w1 (by have := HO.out; rw [HN.out] at this; exact this)).mono ?_
  rintro e w1 ⟨rfl, rfl⟩
  go_wp2_with fail
  refine (rproveOn_no p n cap i w1 (by have := HO.out; rw [HN.out] at this; exact this)).mono ?_
  rintro e w1 ⟨rfl, rfl⟩
  go_wp2_with fail
  refine (rsame_yes [] none none 0 0 0 0 _ rfl rfl (rds_nil _ _) (rds_nil _ _) (Nat.le_refl _) (Nat.zero_le _) (Nat.le_refl _) (Nat.zero_le _)).mono ?_
  rintro e w2 ⟨rfl, hA2⟩
  have hB2 := hB1.trans (hA2.mono hB1.size)
  go_wp2_with fail
  go_ret
  exact ⟨rfl, hB2⟩
set_option maxHeartbeats 4000000 in
set_option maxRecDepth 100000 in
theorem goesOn_in (l : List D4) (M : Nat) (p : Option Addr) (cap : Nat) (w : World) (h1 : 1 ≤ M) (hi : M ≤ l.length) (hl : l.length ≤ 40) (hok : allD4 l) (hr : RdS w p l) (hc : l.length ≤ cap) (hm : cap ≤ maxLen) (hT : TurnsOk w) :
    Calls Tryd.prog 5 #[.slice p l.length cap, .int .i64 (M : Int)] w fun e w' => e = .returned (.bool true) ∧ Below w.heap.size w w' := by
  have hd : decide (40 < (l.length : Int)) = false := by simp; omega
  obtain ⟨y, hy⟩ : ∃ y, rootD l = y := ⟨_, rfl⟩
  have HY := Lib.hid hy
  obtain ⟨z, hz⟩ : ∃ z, rootD (l.take M) = z := ⟨_, rfl⟩
  have HZ := Lib.hid hz
  obtain ⟨q, hq⟩ : ∃ q, goesD l M true = q := ⟨_, rfl⟩
  have HQ := Lib.hid hq
  obtain ⟨n, hn⟩ : ∃ n, l.length = n := ⟨_, rfl⟩
  have HN := Lib.hid hn
  have hqo : allD4 q := by rw [← hq]; exact goesD_ok _ l M true rfl hok
  have hzo : z.ok := by rw [← hz]; exact rootD_ok _ _ rfl (hok.take M)
  have HC : Hid (checkOnD z (M : Int) y (n : Int) q = true) := by
    show _ = _
    rw [← hy, ← hz, ← hq, ← hn]
    exact check_goes l M h1 hi (by omega)
  obtain ⟨b, o, rfl, hrd⟩ := hr (by intro e; rw [e] at hi; simp at hi; omega)
  have HTL : Hid ((l.take M).length = M) := by show _ = _; rw [List.length_take]; omega
  have HI := Lib.hid hi
  have H1 := Lib.hid h1
  have hi0 : (0 : Int) ≤ (M : Int) := by omega
  have hin : (M : Int) ≤ (n : Int) := by omega
  have hinc : (M : Int) ≤ (cap : Int) := by omega
  have hMc : M ≤ cap := by omega
  rw [hn] at hd hc ⊢
  have hncap : (n : Int) ≤ (cap : Int) := by omega
  have hle : l.length ≤ 1000000 := by omega
  obtain ⟨m, hqm⟩ : ∃ m, q.length = m := ⟨_, rfl⟩
  have HM := Lib.hid hqm
  clear hy hn hi hl hq hz hqm h1
  have hcm : cap ≤ maxLen := hm
  unfold maxLen at hm
  go_enter Tryd.func5, Tryd.ntmps5
  go_wp2_with fail
  refine (alive4_any w hT).mono ?_
  rintro e w1 ⟨rfl, hB1⟩
  go_wp2_with fail
  refine (cproveOn_val l q M b o n cap _ w1 hle hok H1.out HI.out (hrd.on hB1) HN.out.symm rfl hc hcm (hT.below hB1) HQ.out).mono ?_
  rintro e w2 ⟨p1, c1, rfl, hp1, hp2, hp3, hA2⟩
  have hB2 := hB1.trans (hA2.mono hB1.size)
  rw [HM.out] at hp1 ⊢
  go_wp2_with fail
  refine (rproveOn_val l q M b o n cap _ w2 hle hok H1.out HI.out (hrd.on hB2) HN.out.symm rfl hc hcm HQ.out).mono ?_
  rintro e w3 ⟨p2, c2, rfl, hq1, hq2, hq3, hA3⟩
  have hB3 := hB2.trans (hA3.mono hB2.size)
  have hp4 := hp3.on1 hA3
  rw [HM.out] at hq1 ⊢
  go_wp2_with fail
  refine (rsame_yes q p1 p2 m m c1 c2 w3 HM.out.symm HM.out.symm hp4 hq3 hp1 hp2 hq1 hq2).mono ?_
  rintro e w4 ⟨rfl, hA4⟩
  have hB4 := hB3.trans (hA4.mono hB3.size)
  have hp5 := hp4.on1 hA4
  go_wp2_with fail
  refine (croot_val (l.take M) (croot_any _ (by rw [List.length_take]; omega) (hok.take M)) z b o M cap w4 ((hrd.on hB4).take M) HTL.out.symm (by rw [HTL.out]; exact hMc) hcm (hT.below hB4) HZ.out).mono ?_
  rintro e w5 ⟨rfl, hA5⟩
  have hB5 := hB4.trans (hA5.mono hB4.size)
  have hp6 := hp5.on1 hA5
  go_wp2_with fail
  refine (croot_gen l hle hok y _ n cap w5 (fun _ => ⟨b, o, rfl, hrd.on hB5⟩) HN.out.symm hc hcm (hT.below hB5) HY.out).mono ?_
  rintro e w6 ⟨rfl, hA6⟩
  have hB6 := hB5.trans (hA6.mono hB5.size)
  have hp7 := hp6.on1 hA6
  go_wp2_with fail
  refine (ccheckOn_val z y _ _ q true p1 m c1 w6 HM.out.symm hzo hqo hp7 hp1 hp2 (hT.below hB6) HC.out).mono ?_
  rintro e w7 ⟨rfl, hA7⟩
  have hB7 := hB6.trans (hA7.mono hB6.size)
  go_wp2_with fail
  go_ret
  exact ⟨rfl, hB7⟩
theorem goesOn_any (l : List D4) (i : Int) (p : Option Addr) (cap : Nat) (w : World) (hok : allD4 l) (hr : RdS w p l) (hc : l.length ≤ cap) (hm : cap ≤ maxLen) (hT : TurnsOk w) :
    Calls Tryd.prog 5 #[.slice p l.length cap, .int .i64 i] w fun e w' => e = .returned (.bool true) ∧ Below w.heap.size w w' := by
  by_cases h : 40 < l.length
  · exact goesOn_long l.length cap i p w hT h
  · by_cases k : i < 1 ∨ (l.length : Int) < i
    · exact goesOn_out l i p cap w k (by omega) hT
    · have e : ((i.toNat : Nat) : Int) = i := by omega
      have := goesOn_in l i.toNat p cap w (by omega) (by omega) (by omega) hok hr hc hm hT
      rwa [e] at this
end Go.Proofs.YtnimbclnhgbdcaaDoor
