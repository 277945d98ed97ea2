/-
  The code's Check (written by gen_check.py).
-/
import Derived.Test.YtnimbclnhgbdcaaDoorMkS
import Derived.Test.YtnimbclnhgbdcaaDoorMkH
namespace Go.Proofs.YtnimbclnhgbdcaaDoor
open Go.RowKit Go.Lib

theorem upR_len : ∀ (p : List D4) (a n i : Nat) (x : D4), n ≤ 2 ^ a → (upR pairS n i x p).2 = true → p.length ≤ a := by
  intro p
  induction p with
  | nil => intro a n i x _ _; exact Nat.zero_le _
  | cons y r ih =>
    intro a n i x hn h
    have h1 : ¬ n ≤ 1 := by
      intro e
      simp [upR, e] at h
    cases a with
    | zero => simp at hn; omega
    | succ a =>
      obtain ⟨h2, h3⟩ := half_bound (show 2 ≤ n by omega) hn
      rw [upR, if_neg h1] at h
      by_cases k : i < half n
      · rw [if_pos k] at h
        have := ih a (half n) i x h2 h
        show r.length + 1 ≤ a + 1; omega
      · rw [if_neg k] at h
        have := ih a (n - half n) (i - half n) x h3 h
        show r.length + 1 ≤ a + 1; omega
theorem check_same (root x : D4) (n i : Nat) (p : List D4) (hn : n ≤ 1000) :
    (sameD (rootF n i x p false).1 root && (((((rootF n i x p false).2.1.length : Nat) : Int) == 0) && !(rootF n i x p false).2.2)) = (if 20 < p.length then false else (upD n i x p).2 && sameD (upD n i x p).1 root) := by
  obtain ⟨g1, g2⟩ := rootR_up pairS zeroD n i x p.reverse false
  have hl : (upR pairS n i x p.reverse).2 = true → p.length ≤ 10 := fun h => by
    have := upR_len p.reverse 10 n i x (by omega) h
    rwa [List.length_reverse] at this
  unfold upD up rootF
  cases hb : (upR pairS n i x p.reverse).2 with
  | true =>
    rw [g1 hb, if_neg (by have := hl hb; omega)]
    simp
  | false =>
    have : (((((rootR pairS zeroD n i x p.reverse false).2.1.reverse.length : Nat) : Int) == 0) && !(rootR pairS zeroD n i x p.reverse false).2.2) = false := by
      rcases g2 hb with q | q
      · have : (rootR pairS zeroD n i x p.reverse false).2.1.length ≠ 0 := fun e => q (List.length_eq_zero_iff.mp e)
        have e2 : ((((rootR pairS zeroD n i x p.reverse false).2.1.reverse.length : Nat) : Int) == 0) = false := by
          rw [List.length_reverse]; simp; exact q
        rw [e2]; rfl
      · rw [q]; simp
    simp only [this, Bool.and_false, Bool.false_and, ite_self]
theorem below_rest {B B' g : Nat} {w w1 w2 : World} {v : Value} {s : Bool} (h : Below B w w1) (k : Rest B' g w1 w2 v s) (_hB : w.heap.size ≤ w1.heap.size) (hg : B ≤ g) (hBB : B ≤ B' := by omega) : Below B w w2 :=
  ⟨k.os.trans h.os, k.tape.trans h.tape, k.output.trans h.output, Nat.le_trans h.size k.size, fun i hi => (k.block i (by omega) (by omega)).trans (h.block i hi)⟩
theorem ccheck_no (root leaf : D4) (n i : Int) (a : Option Addr) (L cap : Nat) (w : World) (h : 1000 < n ∨ i < 0 ∨ n ≤ i) :
    Calls Tryd.prog 16 #[root.val, .int .i64 n, .int .i64 i, leaf.val, .slice a L cap] w fun e w' => e = .returned (.bool false) ∧ Below w.heap.size w w' := by
  obtain ⟨w0, hw0⟩ : ∃ w0, (w.alloc (.cells #[.int .u32 root.d0, .int .u32 root.d1, .int .u32 root.d2, .int .u32 root.d3] 26)).alloc (.cells #[.int .u32 leaf.d0, .int .u32 leaf.d1, .int .u32 leaf.d2, .int .u32 leaf.d3] 26) = w0 := ⟨_, rfl⟩
  obtain ⟨_, _, hB⟩ := boxes2 root leaf w w0 hw0
  obtain ⟨g1, hg1⟩ : ∃ g, decide (1000 < n) = g := ⟨_, rfl⟩
  obtain ⟨g2, hg2⟩ : ∃ g, decide (i < 0) = g := ⟨_, rfl⟩
  obtain ⟨g3, hg3⟩ : ∃ g, decide (n ≤ i) = g := ⟨_, rfl⟩
  have hall : g1 = true ∨ g2 = true ∨ g3 = true := by
    subst hg1; subst hg2; subst hg3
    simp
    omega
  clear h
  go_enter Tryd.func16, Tryd.ntmps16
  simp only [D4.val]
  cases g1 <;> cases g2 <;> cases g3 <;> simp at hall <;> (go_wp2_with fail; go_ret; exact ⟨rfl, hB⟩)
set_option maxHeartbeats 4000000 in
set_option maxRecDepth 100000 in
theorem ccheck_yes (root x : D4) (n i : Int) (q : List D4) (a : Option Addr) (cap : Nat) (w : World) (h1 : n ≤ 1000) (h2 : 0 ≤ i) (h3 : i < n) (hxo : x.ok) (hq : allD4 q) (hr : RdS w a q) (hc : q.length ≤ cap) (hm : cap ≤ maxLen) (hT : TurnsOk w) :
    Calls Tryd.prog 16 #[root.val, .int .i64 n, .int .i64 i, x.val, .slice a q.length cap] w fun e w' => e = .returned (.bool (sameD (rootF n.toNat i.toNat x q false).1 root && (((((rootF n.toNat i.toNat x q false).2.1.length : Nat) : Int) == 0) && !(rootF n.toNat i.toNat x q false).2.2))) ∧ Below w.heap.size w w' := by
  obtain ⟨⟨z, q2, s2⟩, hz⟩ : ∃ z, rootF n.toNat i.toNat x q false = z := ⟨_, rfl⟩
  rw [hz]
  have HZ := Lib.hid hz
  clear hz
  show Calls _ _ _ w fun e w' => e = .returned (.bool (sameD z root && (((q2.length : Int) == 0) && !s2))) ∧ _
  obtain ⟨bl, hbl⟩ : ∃ bl, sameD z root = bl := ⟨_, rfl⟩
  rw [hbl]
  obtain ⟨w0, hw0⟩ : ∃ w0, (w.alloc (.cells #[.int .u32 root.d0, .int .u32 root.d1, .int .u32 root.d2, .int .u32 root.d3] 26)).alloc (.cells #[.int .u32 x.d0, .int .u32 x.d1, .int .u32 x.d2, .int .u32 x.d3] 26) = w0 := ⟨_, rfl⟩
  obtain ⟨hA, hL, hB⟩ := boxes2 root x w w0 hw0
  have hsz : w0.heap.size = w.heap.size + 1 + 1 := by rw [← hw0]; simp
  have hg1 : decide (1000 < n) = false := by simp; omega
  have hg2 : decide (i < 0) = false := by simp; omega
  have hg3 : decide (n ≤ i) = false := by simp; omega
  have hu : (n.toNat : Int) = n := by omega
  have hv : (i.toNat : Int) = i := by omega
  obtain ⟨N, hN⟩ : ∃ N, n.toNat = N := ⟨_, rfl⟩
  obtain ⟨I, hI⟩ : ∃ I, i.toNat = I := ⟨_, rfl⟩
  rw [hN] at HZ hu
  rw [hI] at HZ hv
  obtain ⟨L, hL0⟩ : ∃ L, q.length = L := ⟨_, rfl⟩
  have HL := Lib.hid hL0
  obtain ⟨w1, hw1⟩ : ∃ w1, w0.alloc (.cells #[.slice a L cap, .bool false] 54) = w1 := ⟨_, rfl⟩
  have hRB : restB w0.heap.size (.slice a q.length cap) false w1 := by rw [← hw1, hL0]; exact heap_alloc_new w0 _
  have hAl : Below w0.heap.size w0 w1 := by rw [← hw1]; exact (Below.refl _ _).alloc (Nat.le_refl _) _
  have hA1 := hA.on hAl
  have hL1 := hL.on hAl
  have hB1 := hB.trans (hAl.mono hB.size)
  have hT1 := (hT.below hB).below hAl
  have hr1 : RdG w0.heap.size w1 a q := fun hne => by
    obtain ⟨b, o, e, hrd⟩ := hr hne
    have := hrd.1
    exact ⟨b, o, e, by omega, (hrd.on hB).on hAl⟩
  rw [hL0] at hc ⊢
  have hc' : q.length ≤ cap := by rw [hL0]; exact hc
  have hs1 : w0.heap.size < w1.heap.size := by rw [← hw1]; simp
  rw [hsz] at hRB hr1 hs1
  have HU := Lib.hid hu
  have HV := Lib.hid hv
  have hN1 : 1 ≤ N := by omega
  have hN2 : N ≤ 1000000 := by omega
  have hI2 : I ≤ 1000000 := by omega
  clear hL0 hu hv hN hI h1 h2 h3 hr hT hA hL hB
  subst hw1
  have HRB := Lib.hid hRB
  have HS1 := Lib.hid hs1
  have HA := Lib.hid hA1
  have HLL := Lib.hid hL1
  clear hRB hs1 hA1 hL1
  have hE := eqD_run z root
  rw [hbl] at hE
  have HH := rr_all N hN1 hN2
  clear hbl
  go_enter Tryd.func16, Tryd.ntmps16
  simp only [D4.val]
  go_wp2_with fail
  generalize w0.alloc (.cells #[.slice a L cap, .bool false] 54) = w1 at *
  have hRB := HRB.out
  have hA1 := HA.out
  have hL1 := HLL.out
  clear HRB HS1 HA HLL
  have hRd : restB (w.heap.size + 1 + 1) (.slice a q.length cap) false w1.drew := hRB
  have hrd : RdG (w.heap.size + 1 + 1) w1.drew a q := hr1
  have hTd : TurnsOk w1.drew := hT1
  have hBd : Below w.heap.size w w1.drew := hB1.drew
  have hL4 := Arr.c4 (show Arr .u32 26 (w.heap.size + 1) x.toL w1.drew from hL1)
  have hA4 := Arr.c4 (show Arr .u32 26 w.heap.size root.toL w1.drew from hA1)
  have hS0 : w1.drew.cell? ⟨w.heap.size + 1, 0, none⟩ = some (.int .u32 x.d0) ∧ w1.drew.cell? ⟨w.heap.size + 1, 1, none⟩ = some (.int .u32 x.d1) ∧ w1.drew.cell? ⟨w.heap.size + 1, 2, none⟩ = some (.int .u32 x.d2) ∧ w1.drew.cell? ⟨w.heap.size + 1, 3, none⟩ = some (.int .u32 x.d3) ∧ w1.drew.cell? ⟨w.heap.size, 0, none⟩ = some (.int .u32 root.d0) ∧ w1.drew.cell? ⟨w.heap.size, 1, none⟩ = some (.int .u32 root.d1) ∧ w1.drew.cell? ⟨w.heap.size, 2, none⟩ = some (.int .u32 root.d2) ∧ w1.drew.cell? ⟨w.heap.size, 3, none⟩ = some (.int .u32 root.d3) := ⟨hL4.1, hL4.2.1, hL4.2.2.1, hL4.2.2.2, hA4.1, hA4.2.1, hA4.2.2.1, hA4.2.2.2⟩
  have HS0 := Lib.hid hS0
  have hxg : w.heap.size + 1 ≠ w.heap.size + 1 + 1 := by omega
  have hyg : w.heap.size ≠ w.heap.size + 1 + 1 := by omega
  have hbg : w.heap.size ≤ w.heap.size + 1 + 1 := by omega
  clear hS0 hL4 hA4 hRB hr1 hT1 hB1 hA1 hL1 hAl hw0
  cases bl
  all_goals
    go_region_held3 (fun w' => w'.cell? ⟨w.heap.size + 1, 0, none⟩ = some (.int .u32 x.d0) ∧ w'.cell? ⟨w.heap.size + 1, 1, none⟩ = some (.int .u32 x.d1) ∧ w'.cell? ⟨w.heap.size + 1, 2, none⟩ = some (.int .u32 x.d2) ∧ w'.cell? ⟨w.heap.size + 1, 3, none⟩ = some (.int .u32 x.d3) ∧ w'.cell? ⟨w.heap.size, 0, none⟩ = some (.int .u32 root.d0) ∧ w'.cell? ⟨w.heap.size, 1, none⟩ = some (.int .u32 root.d1) ∧ w'.cell? ⟨w.heap.size, 2, none⟩ = some (.int .u32 root.d2) ∧ w'.cell? ⟨w.heap.size, 3, none⟩ = some (.int .u32 root.d3))
      (first | ((with_reducible refine keep2r hA3 hxg hyg ?_); assumption) | (with_reducible exact HS0.out))
      (first
        | (go_at_call 33; (with_reducible refine (rr_val N HH I x z q q2 false s2 _ cap a n i _ HU.out HV.out hI2 hxo hq hRd hrd hc' hm hTd HZ.out).mono ?_); rintro e w3 ⟨rfl, hA3⟩; have hB3 := below_rest hBd hA3 hBd.size hbg hBd.size)
        | (go_at_call 34; (with_reducible refine (usedUp_any _ q2.length cap a s2 _ hA3.here).mono ?_); rintro e w4 ⟨rfl, rfl⟩))
  all_goals
    go_wp2
    go_ret
    exact ⟨rfl, hB3⟩
theorem ccheck_any (root x : D4) (n i : Int) (q : List D4) (a : Option Addr) (cap : Nat) (w : World) (hxo : x.ok) (hq : allD4 q) (hr : RdS w a q) (hc : q.length ≤ cap) (hm : cap ≤ maxLen) (hT : TurnsOk w) :
    Calls Tryd.prog 16 #[root.val, .int .i64 n, .int .i64 i, x.val, .slice a q.length cap] w fun e w' => e = .returned (.bool (checkD root n i x q)) ∧ Below w.heap.size w w' := by
  by_cases h : 1000 < n ∨ i < 0 ∨ n ≤ i
  · refine (ccheck_no root x n i a q.length cap w h).mono ?_
    rintro e w' ⟨rfl, hB⟩
    refine ⟨?_, hB⟩
    unfold checkD
    rw [if_pos (by omega)]
  · refine (ccheck_yes root x n i q a cap w (by omega) (by omega) (by omega) hxo hq hr hc hm hT).mono ?_
    rintro e w' ⟨rfl, hB⟩
    refine ⟨?_, hB⟩
    rw [check_same root x n.toNat i.toNat q (by omega)]
    unfold checkD
    congr 2
    by_cases k : 20 < q.length
    · rw [if_pos k, if_pos (by omega)]
    · rw [if_neg k, if_neg (by omega)]
end Go.Proofs.YtnimbclnhgbdcaaDoor
