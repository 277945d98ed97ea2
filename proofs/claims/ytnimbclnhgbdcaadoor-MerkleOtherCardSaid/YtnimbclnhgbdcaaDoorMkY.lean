/-
  The code's CheckOn (written by gen_checkon.py).
-/
import Derived.Test.YtnimbclnhgbdcaaDoorMkXL
import Derived.Test.YtnimbclnhgbdcaaDoorMkXR
import Derived.Test.YtnimbclnhgbdcaaDoorMkV
namespace Go.Proofs.YtnimbclnhgbdcaaDoor
open Go.RowKit Go.Lib

theorem rts_all : ∀ (n : Nat), 1 ≤ n → n ≤ 1000000 → RTS n := by
  intro n
  induction n using Nat.strongRecOn with
  | _ n ih =>
    intro h1 hle m x bw q s g cap a w hm1 hml hx hq hR hr hc hm hT
    by_cases e : m = n
    · subst e
      cases bw
      · exact rts_cut m x q s g cap a w hR hr hc hm
      · exact rts_whole m x q s g cap a w hR
    · have h2 : 2 ≤ n := by omega
      have hl := half_lt h2
      have hp := half_pos n
      by_cases k : m ≤ half n
      · exact rts_left n h2 hle (ih _ hl hp (by omega)) m hm1 hml e k x bw q s g cap a w hx hq hR hr hc hm hT
      · exact rts_right n h2 hle (ih _ (by omega) (by omega) (by omega)) m hm1 hml e k x bw q s g cap a w hx hq hR hr hc hm hT
theorem onR_len : ∀ (p : List D4) (a m n : Nat) (x : D4) (bw : Bool), n ≤ 2 ^ a → 1 ≤ m → m ≤ n → (onR pairS x m n bw p).2.2 = true → p.length ≤ a + 1 := by
  intro p
  induction p with
  | nil => intro a m n x bw _ _ _ _; exact Nat.zero_le _
  | cons y r ih =>
    intro a m n x bw hn h1 hmn h
    by_cases e : m = n
    · subst e
      rw [onR, if_pos rfl] at h
      split at h
      · rename_i k
        rw [k.2]
        show 0 + 1 ≤ a + 1
        omega
      · cases h
    · rw [onR, if_neg e] at h
      cases a with
      | zero => simp at hn; omega
      | succ a =>
        obtain ⟨h2, h3⟩ := half_bound (show 2 ≤ n by omega) hn
        by_cases k : m ≤ half n
        · rw [if_pos k] at h
          have := ih a m (half n) x bw h2 h1 k h
          show r.length + 1 ≤ a + 1 + 1; omega
        · rw [if_neg k] at h
          have := ih a (m - half n) (n - half n) x false h3 (by omega) (by omega) h
          show r.length + 1 ≤ a + 1 + 1; omega
def onD (old : D4) (m n : Nat) (bw : Bool) (p : List D4) : D4 × D4 × Bool := on pairS old m n bw p
/-- Does a proof show it, of a list that goes on another? -/
def checkOnD (old : D4) (m : Int) (root : D4) (n : Int) (p : List D4) : Bool :=
  if 1000 < n ∨ m < 1 ∨ n < m ∨ 20 < p.length then false else (onD old m.toNat n.toNat true p).2.2 && (sameD (onD old m.toNat n.toNat true p).1 old && sameD (onD old m.toNat n.toNat true p).2.1 root)
theorem checkOn_same (root x : D4) (m n : Nat) (p : List D4) (h1 : 1 ≤ m) (hmn : m ≤ n) (hn : n ≤ 1000) :
    (sameD (rootsF x m n true p false).1 x && (sameD (rootsF x m n true p false).2.1 root && (((((rootsF x m n true p false).2.2.1.length : Nat) : Int) == 0) && !(rootsF x m n true p false).2.2.2))) = (if 20 < p.length then false else (onD x m n true p).2.2 && (sameD (onD x m n true p).1 x && sameD (onD x m n true p).2.1 root)) := by
  obtain ⟨g1, g2⟩ := rootsR_on pairS zeroD n m x true p.reverse false h1 hmn
  have hl : (onR pairS x m n true p.reverse).2.2 = true → p.length ≤ 11 := fun h => by
    have := onR_len p.reverse 10 m n x true (by omega) h1 hmn h
    rwa [List.length_reverse] at this
  unfold onD on rootsF
  cases hb : (onR pairS x m n true p.reverse).2.2 with
  | true =>
    rw [g1 hb, if_neg (by have := hl hb; omega)]
    simp
  | false =>
    have : (((((rootsR pairS zeroD x m n true p.reverse false).2.2.1.reverse.length : Nat) : Int) == 0) && !(rootsR pairS zeroD x m n true p.reverse false).2.2.2) = false := by
      rcases g2 hb with q | q
      · have e2 : ((((rootsR pairS zeroD x m n true p.reverse false).2.2.1.reverse.length : Nat) : Int) == 0) = false := by
          rw [List.length_reverse]; simp; exact q
        rw [e2]; rfl
      · rw [q]; simp
    simp only [this, Bool.and_false, Bool.false_and, ite_self]
theorem ccheckOn_no (old root : D4) (m n : Int) (a : Option Addr) (L cap : Nat) (w : World) (h : 1000 < n ∨ m < 1 ∨ n < m) :
    Calls Tryd.prog 20 #[old.val, .int .i64 m, root.val, .int .i64 n, .slice a L cap] w fun e w' => e = .returned (.bool false) ∧ Below w.heap.size w w' := by
  obtain ⟨w0, hw0⟩ : ∃ w0, (w.alloc (.cells #[.int .u32 old.d0, .int .u32 old.d1, .int .u32 old.d2, .int .u32 old.d3] 26)).alloc (.cells #[.int .u32 root.d0, .int .u32 root.d1, .int .u32 root.d2, .int .u32 root.d3] 26) = w0 := ⟨_, rfl⟩
  obtain ⟨_, _, hB⟩ := boxes2 old root w w0 hw0
  obtain ⟨g1, hg1⟩ : ∃ g, decide (1000 < n) = g := ⟨_, rfl⟩
  obtain ⟨g2, hg2⟩ : ∃ g, decide (m < 1) = g := ⟨_, rfl⟩
  obtain ⟨g3, hg3⟩ : ∃ g, decide (n < m) = g := ⟨_, rfl⟩
  have hall : g1 = true ∨ g2 = true ∨ g3 = true := by
    subst hg1; subst hg2; subst hg3
    simp
    omega
  clear h
  go_enter Tryd.func20, Tryd.ntmps20
  simp only [D4.val]
  cases g1 <;> cases g2 <;> cases g3 <;> simp at hall <;> (go_wp2_with fail; go_ret; exact ⟨rfl, hB⟩)
set_option maxHeartbeats 4000000 in
set_option maxRecDepth 100000 in
theorem ccheckOn_yes (x root : D4) (m n : Int) (q : List D4) (a : Option Addr) (cap : Nat) (w : World) (h1 : n ≤ 1000) (h2 : 1 ≤ m) (h3 : m ≤ n) (hxo : x.ok) (hq : allD4 q) (hr : RdS w a q) (hc : q.length ≤ cap) (hm : cap ≤ maxLen) (hT : TurnsOk w) :
    Calls Tryd.prog 20 #[x.val, .int .i64 m, root.val, .int .i64 n, .slice a q.length cap] w fun e w' => e = .returned (.bool (sameD (rootsF x m.toNat n.toNat true q false).1 x && (sameD (rootsF x m.toNat n.toNat true q false).2.1 root && (((((rootsF x m.toNat n.toNat true q false).2.2.1.length : Nat) : Int) == 0) && !(rootsF x m.toNat n.toNat true q false).2.2.2)))) ∧ Below w.heap.size w w' := by
  obtain ⟨⟨f, z, q2, s2⟩, hz⟩ : ∃ z, rootsF x m.toNat n.toNat true q false = z := ⟨_, rfl⟩
  rw [hz]
  have HZ := Lib.hid hz
  clear hz
  show Calls _ _ _ w fun e w' => e = .returned (.bool (sameD f x && (sameD z root && (((q2.length : Int) == 0) && !s2)))) ∧ _
  obtain ⟨b1, hb1⟩ : ∃ bl, sameD f x = bl := ⟨_, rfl⟩
  obtain ⟨b2, hb2⟩ : ∃ bl, sameD z root = bl := ⟨_, rfl⟩
  rw [hb1, hb2]
  obtain ⟨w0, hw0⟩ : ∃ w0, (w.alloc (.cells #[.int .u32 x.d0, .int .u32 x.d1, .int .u32 x.d2, .int .u32 x.d3] 26)).alloc (.cells #[.int .u32 root.d0, .int .u32 root.d1, .int .u32 root.d2, .int .u32 root.d3] 26) = w0 := ⟨_, rfl⟩
  obtain ⟨hA, hL, hB⟩ := boxes2 x root w w0 hw0
  have hsz : w0.heap.size = w.heap.size + 1 + 1 := by rw [← hw0]; simp
  have hg1 : decide (1000 < n) = false := by simp; omega
  have hg2 : decide (m < 1) = false := by simp; omega
  have hg3 : decide (n < m) = false := by simp; omega
  have hu : (m.toNat : Int) = m := by omega
  have hv : (n.toNat : Int) = n := by omega
  obtain ⟨N, hN⟩ : ∃ N, n.toNat = N := ⟨_, rfl⟩
  obtain ⟨I, hI⟩ : ∃ I, m.toNat = I := ⟨_, rfl⟩
  rw [hN] at HZ hv
  rw [hI] at HZ hu
  obtain ⟨L, hL0⟩ : ∃ L, q.length = L := ⟨_, rfl⟩
  have HL := Lib.hid hL0
  obtain ⟨w1, hw1⟩ : ∃ w1, w0.alloc (.cells #[.slice a L cap, .bool false] 54) = w1 := ⟨_, rfl⟩
  have hRB : restB w0.heap.size (.slice a q.length cap) false w1 := by rw [← hw1, hL0]; exact heap_alloc_new w0 _
  have hAl : Below w0.heap.size w0 w1 := by rw [← hw1]; exact (Below.refl _ _).alloc (Nat.le_refl _) _
  have hA1 := hA.on hAl
  have hL1 := hL.on hAl
  have hB1 := hB.trans (hAl.mono hB.size)
  have hT1 := (hT.below hB).below hAl
  have hr1 : RdG w0.heap.size w1 a q := fun hne => by
    obtain ⟨b, o, e, hrd⟩ := hr hne
    have := hrd.1
    exact ⟨b, o, e, by omega, (hrd.on hB).on hAl⟩
  rw [hL0] at hc ⊢
  have hc' : q.length ≤ cap := by rw [hL0]; exact hc
  have hs1 : w0.heap.size < w1.heap.size := by rw [← hw1]; simp
  rw [hsz] at hRB hr1 hs1
  have HU := Lib.hid hu
  have HV := Lib.hid hv
  have hN1 : 1 ≤ N := by omega
  have hN2 : N ≤ 1000000 := by omega
  have hI1 : 1 ≤ I := by omega
  have hI2 : I ≤ N := by omega
  clear hL0 hu hv hN hI h1 h2 h3 hr hT hA hL hB
  subst hw1
  have HRB := Lib.hid hRB
  have HS1 := Lib.hid hs1
  have HA := Lib.hid hA1
  have HLL := Lib.hid hL1
  have X4 := Arr.c4 hA1
  obtain ⟨x0, x1, x2, x3⟩ := X4
  clear hRB hs1 hA1 hL1
  have hE1 := eqD_run f x
  rw [hb1] at hE1
  have hE2 := eqD_run z root
  rw [hb2] at hE2
  have HH := rts_all N hN1 hN2
  clear hb1 hb2
  go_enter Tryd.func20, Tryd.ntmps20
  simp only [D4.val]
  go_wp2_with fail
  generalize w0.alloc (.cells #[.slice a L cap, .bool false] 54) = w1 at *
  have hRB := HRB.out
  have hA1 := HA.out
  have hL1 := HLL.out
  have hs1 := HS1.out
  clear HRB HS1 HA HLL
  refine (rts_val N HH I x f z true q q2 false s2 _ cap a m n w1 HU.out HV.out hI1 hI2 hxo hq hRB hr1 hc' hm hT1 HZ.out).mono ?_
  rintro e w3 ⟨rfl, hA3⟩
  have hA4 := hA1.onR hA3 hA1.lt (by omega)
  have hL4 := hL1.onR hA3 hL1.lt (by omega)
  have hB3 : Below w.heap.size w w3 := below_rest hB1 hA3 hB1.size (by omega) hB1.size
  have hR3 := hA3.here
  have hs3 := hA3.size
  clear hA3 hA1 hL1 hB1 hRB hr1 hT1 x0 x1 x2 x3 hAl hw0
  obtain ⟨x0, x1, x2, x3⟩ := Arr.c4 hA4
  obtain ⟨y0, y1, y2, y3⟩ := Arr.c4 hL4
  have hxlt := hA4.lt
  have hylt := hL4.lt
  have hF1 : restB (w.heap.size + 1 + 1) (.slice a q2.length cap) s2 ((w3.alloc (.cells #[.int .u32 f.d0, .int .u32 f.d1, .int .u32 f.d2, .int .u32 f.d3] 26)).alloc (.cells #[.int .u32 z.d0, .int .u32 z.d1, .int .u32 z.d2, .int .u32 z.d3] 26)) := (hR3.al _).al _
  have hBf : Below w.heap.size w ((w3.alloc (.cells #[.int .u32 f.d0, .int .u32 f.d1, .int .u32 f.d2, .int .u32 f.d3] 26)).alloc (.cells #[.int .u32 z.d0, .int .u32 z.d1, .int .u32 z.d2, .int .u32 z.d3] 26)) := (hB3.alloc hB3.size _).alloc (by have := hB3.size; simp; omega) _
  cases b1 <;> cases b2
  all_goals
    go_wp2_with (go_at_call 34; (with_reducible refine (usedUp_any _ q2.length cap a s2 _ hF1).mono ?_); rintro e w4 ⟨rfl, rfl⟩)
    go_ret
    exact ⟨rfl, hBf⟩
theorem ccheckOn_any (x root : D4) (m n : Int) (q : List D4) (a : Option Addr) (cap : Nat) (w : World) (hxo : x.ok) (hq : allD4 q) (hr : RdS w a q) (hc : q.length ≤ cap) (hm : cap ≤ maxLen) (hT : TurnsOk w) :
    Calls Tryd.prog 20 #[x.val, .int .i64 m, root.val, .int .i64 n, .slice a q.length cap] w fun e w' => e = .returned (.bool (checkOnD x m root n q)) ∧ Below w.heap.size w w' := by
  by_cases h : 1000 < n ∨ m < 1 ∨ n < m
  · refine (ccheckOn_no x root m n a q.length cap w h).mono ?_
    rintro e w' ⟨rfl, hB⟩
    refine ⟨?_, hB⟩
    unfold checkOnD
    rw [if_pos (by omega)]
  · refine (ccheckOn_yes x root m n q a cap w (by omega) (by omega) (by omega) hxo hq hr hc hm hT).mono ?_
    rintro e w' ⟨rfl, hB⟩
    refine ⟨?_, hB⟩
    rw [checkOn_same root x m.toNat n.toNat q (by omega) (by omega) (by omega)]
    unfold checkOnD
    congr 2
    by_cases k : 20 < q.length
    · rw [if_pos k, if_pos (by omega)]
    · rw [if_neg k, if_neg (by omega)]
end Go.Proofs.YtnimbclnhgbdcaaDoor
