/-
  The document's CheckOn (written by gen_ref.py).
-/
import Derived.Test.YtnimbclnhgbdcaaDoorMkIL
import Derived.Test.YtnimbclnhgbdcaaDoorMkIR
namespace Go.Proofs.YtnimbclnhgbdcaaDoor
open Go.RowKit Go.Lib

theorem onD_none {x : D4} {m n : Nat} {bw : Bool} (h : m ≠ n) : onD x m n bw [] = (x, x, false) := by simp [onD, on, onR, h]
theorem onD_whole (x : D4) (n : Nat) (p : List D4) : onD x n n true p = (x, x, ((p.length : Int) == 0)) := by
  rcases List.eq_nil_or_concat p with rfl | ⟨r, y, rfl⟩
  · simp [onD, on, onR]
  · simp [onD, on, onR]
    omega
theorem onD_cut1 (x y : D4) (n : Nat) : onD x n n false [y] = (y, y, true) := by simp [onD, on, onR]
theorem onD_cutN (x : D4) (n : Nat) (p : List D4) (h : p.length ≠ 1) : onD x n n false p = (x, x, false) := by
  rcases List.eq_nil_or_concat p with rfl | ⟨r, y, rfl⟩
  · simp [onD, on, onR]
  · have : r ≠ [] := by intro e; subst e; simp at h
    simp [onD, on, onR, this]
theorem on_all : ∀ (N : Nat) (p : List D4), p.length = N → allD4 p → OnC p := by
  intro N
  induction N with
  | zero =>
    intro p hp hok x m n bw a cap w h1 hmn hle hx hr hc hm
    have : p = [] := List.length_eq_zero_iff.mp hp
    subst this
    by_cases e : m = n
    · subst e
      cases bw
      · rw [onD_cutN x m [] (by simp)]
        exact on_cCutN x m 0 a cap (by omega) w
      · rw [onD_whole]
        exact on_cWhole x m 0 a cap _ rfl w
    · rw [onD_none e]
      exact on_cNone x m n bw a cap e w
  | succ N ih =>
    intro p hp hok x m n bw a cap w h1 hmn hle hx hr hc hm
    rcases List.eq_nil_or_concat p with rfl | ⟨r, y, rfl⟩
    · simp at hp
    · rw [List.concat_eq_append] at *
      have hl : (r ++ [y]).length = r.length + 1 := by simp
      obtain ⟨b, o, rfl, hrd⟩ := hr (by simp)
      by_cases e : m = n
      · subst e
        cases bw
        · by_cases k : r = []
          · subst k
            rw [List.nil_append] at *
            rw [onD_cut1]
            have hy := hrd.2 0 (by simp)
            simp only [Nat.zero_mul, Nat.add_zero, List.getD_cons_zero] at hy
            exact on_cCut1 x y m b o cap w (by simpa using hc) hm hy hrd.1
          · have hn1 : (r ++ [y]).length ≠ 1 := by
              have : r.length ≠ 0 := fun q => k (List.length_eq_zero_iff.mp q)
              omega
            rw [onD_cutN x m _ hn1]
            exact on_cCutN x m _ _ cap hn1 w
        · rw [onD_whole]
          exact on_cWhole x m _ _ cap _ rfl w
      · have H := ih r (by omega) hok.left
        rw [hl] at hc ⊢
        by_cases k : m ≤ half n
        · exact on_cL r y H x m n bw b o cap w h1 hmn e hle k hx hok.lastOk hok.left hrd hc hm
        · exact on_cR r y H x m n bw b o cap w h1 hmn e hle k hx hok.lastOk hok.left hrd hc hm
theorem on_gen (p : List D4) (hp : allD4 p) (x f z : D4) (ok : Bool) (m n : Nat) (bw : Bool) (a : Option Addr) (L cap : Nat) (u v : Int) (w : World) (hu : (m : Int) = u) (hv : (n : Int) = v) (h1 : 1 ≤ m) (hmn : m ≤ n) (hle : n ≤ 1000000) (hx : x.ok) (hr : RdS w a p) (hL : L = p.length) (hc : p.length ≤ cap) (hm : cap ≤ maxLen) (hz : onD x m n bw p = (f, z, ok)) :
    Calls Tryd.prog 39 #[.agg #[.int .u32 x.d0, .int .u32 x.d1, .int .u32 x.d2, .int .u32 x.d3], .int .i64 u, .int .i64 v, .bool bw, .slice a L cap] w fun e w' => e = .returned (.tuple #[.agg #[.int .u32 f.d0, .int .u32 f.d1, .int .u32 f.d2, .int .u32 f.d3], .agg #[.int .u32 z.d0, .int .u32 z.d1, .int .u32 z.d2, .int .u32 z.d3], .bool ok]) ∧ Below w.heap.size w w' := by
  subst hu; subst hv; subst hL
  have := on_all p.length p rfl hp x m n bw a cap w h1 hmn hle hx hr hc hm
  rw [hz] at this
  exact this
set_option maxHeartbeats 2000000 in
set_option maxRecDepth 100000 in
theorem rcheckOn_no (old root : D4) (m n : Int) (a : Option Addr) (L cap : Nat) (w : World) (h : 1000 < n ∨ m < 1 ∨ n < m ∨ 20 < L) :
    Calls Tryd.prog 21 #[old.val, .int .i64 m, root.val, .int .i64 n, .slice a L cap] w fun e w' => e = .returned (.bool false) ∧ Below w.heap.size w w' := by
  obtain ⟨w0, hw0⟩ : ∃ w0, (w.alloc (.cells #[.int .u32 old.d0, .int .u32 old.d1, .int .u32 old.d2, .int .u32 old.d3] 26)).alloc (.cells #[.int .u32 root.d0, .int .u32 root.d1, .int .u32 root.d2, .int .u32 root.d3] 26) = w0 := ⟨_, rfl⟩
  obtain ⟨_, _, hB⟩ := boxes2 old root w w0 hw0
  obtain ⟨g1, hg1⟩ : ∃ g, decide (1000 < n) = g := ⟨_, rfl⟩
  obtain ⟨g2, hg2⟩ : ∃ g, decide (m < 1) = g := ⟨_, rfl⟩
  obtain ⟨g3, hg3⟩ : ∃ g, decide (n < m) = g := ⟨_, rfl⟩
  obtain ⟨g4, hg4⟩ : ∃ g, decide (20 < (L : Int)) = g := ⟨_, rfl⟩
  have hall : g1 = true ∨ g2 = true ∨ g3 = true ∨ g4 = true := by
    subst hg1; subst hg2; subst hg3; subst hg4
    simp
    omega
  clear h
  go_enter Tryd.func21, Tryd.ntmps21
  simp only [D4.val]
  cases g1 <;> cases g2 <;> cases g3 <;> cases g4 <;> simp at hall <;> (go_wp2_with fail; go_ret; exact ⟨rfl, hB⟩)
set_option maxHeartbeats 2000000 in
set_option maxRecDepth 100000 in
theorem rcheckOn_yes (x root : D4) (m n : Int) (p : List D4) (a : Option Addr) (cap : Nat) (w : World) (h1 : n ≤ 1000) (h2 : 1 ≤ m) (h3 : m ≤ n) (h4 : p.length ≤ 20) (hxo : x.ok) (hp : allD4 p) (hr : RdS w a p) (hc : p.length ≤ cap) (hm : cap ≤ maxLen) :
    Calls Tryd.prog 21 #[x.val, .int .i64 m, root.val, .int .i64 n, .slice a p.length cap] w fun e w' => e = .returned (.bool ((onD x m.toNat n.toNat true p).2.2 && (sameD (onD x m.toNat n.toNat true p).1 x && sameD (onD x m.toNat n.toNat true p).2.1 root))) ∧ Below w.heap.size w w' := by
  obtain ⟨⟨f, z, ok⟩, hz⟩ : ∃ z, onD x m.toNat n.toNat true p = z := ⟨_, rfl⟩
  rw [hz]
  have HZ := Lib.hid hz
  clear hz
  show Calls _ _ _ w fun e w' => e = .returned (.bool (ok && (sameD f x && sameD z root))) ∧ _
  obtain ⟨b1, hb1⟩ : ∃ bl, sameD f x = bl := ⟨_, rfl⟩
  obtain ⟨b2, hb2⟩ : ∃ bl, sameD z root = bl := ⟨_, rfl⟩
  rw [hb1, hb2]
  obtain ⟨w0, hw0⟩ : ∃ w0, (w.alloc (.cells #[.int .u32 x.d0, .int .u32 x.d1, .int .u32 x.d2, .int .u32 x.d3] 26)).alloc (.cells #[.int .u32 root.d0, .int .u32 root.d1, .int .u32 root.d2, .int .u32 root.d3] 26) = w0 := ⟨_, rfl⟩
  obtain ⟨hA, hL, hB⟩ := boxes2 x root w w0 hw0
  obtain ⟨l0, l1, l2, l3⟩ := Arr.c4 hA
  have hr0 := hr.on hB
  clear hr
  have hg1 : decide (1000 < n) = false := by simp; omega
  have hg2 : decide (m < 1) = false := by simp; omega
  have hg3 : decide (n < m) = false := by simp; omega
  have hg4 : decide (20 < (p.length : Int)) = false := by simp; omega
  have hu : (m.toNat : Int) = m := by omega
  have hv : (n.toNat : Int) = n := by omega
  obtain ⟨N, hN⟩ : ∃ N, n.toNat = N := ⟨_, rfl⟩
  obtain ⟨I, hI⟩ : ∃ I, m.toNat = I := ⟨_, rfl⟩
  rw [hN] at HZ hv
  rw [hI] at HZ hu
  obtain ⟨L, hL0⟩ : ∃ L, p.length = L := ⟨_, rfl⟩
  rw [hL0] at hg4 ⊢
  have HL := Lib.hid hL0
  have HU := Lib.hid hu
  have HV := Lib.hid hv
  have hI1 : 1 ≤ I := by omega
  have hIN : I ≤ N := by omega
  have hN2 : N ≤ 1000000 := by omega
  have hE1 := eqD_run f x
  rw [hb1] at hE1
  have hE2 := eqD_run z root
  rw [hb2] at hE2
  clear hL0 hu hv hN hI h1 h2 h3 h4 hb1 hb2
  go_enter Tryd.func21, Tryd.ntmps21
  simp only [D4.val]
  go_wp2_with fail
  clear hw0
  refine (on_gen p hp x f z ok I N true a L cap m n w0 HU.out HV.out hI1 hIN hN2 hxo hr0 HL.out.symm hc hm HZ.out).mono ?_
  rintro e w1 ⟨rfl, hB1⟩
  have hA1 := hA.on hB1
  have hL1 := hL.on hB1
  have hB2 := hB.trans (hB1.mono hB.size)
  clear hA hL hB hB1 hr0 l0 l1 l2 l3
  obtain ⟨l0, l1, l2, l3⟩ := Arr.c4 hA1
  obtain ⟨k0, k1, k2, k3⟩ := Arr.c4 hL1
  have hAlt := hA1.lt
  have hLlt := hL1.lt
  have hBf := (hB2.alloc hB2.size (.cells #[.int .u32 f.d0, .int .u32 f.d1, .int .u32 f.d2, .int .u32 f.d3] 26)).alloc (by have := hB2.size; simp; omega) (.cells #[.int .u32 z.d0, .int .u32 z.d1, .int .u32 z.d2, .int .u32 z.d3] 26)
  cases ok <;> cases b1 <;> cases b2
  all_goals
    go_wp2_with fail
    go_ret
    exact ⟨rfl, hBf⟩
theorem rcheckOn_any (x root : D4) (m n : Int) (q : List D4) (a : Option Addr) (cap : Nat) (w : World) (hxo : x.ok) (hq : allD4 q) (hr : RdS w a q) (hc : q.length ≤ cap) (hm : cap ≤ maxLen) :
    Calls Tryd.prog 21 #[x.val, .int .i64 m, root.val, .int .i64 n, .slice a q.length cap] w fun e w' => e = .returned (.bool (checkOnD x m root n q)) ∧ Below w.heap.size w w' := by
  unfold checkOnD
  split
  · rename_i h
    exact rcheckOn_no x root m n a q.length cap w h
  · rename_i h
    exact rcheckOn_yes x root m n q a cap w (by omega) (by omega) (by omega) (by omega) hxo hq hr hc hm
end Go.Proofs.YtnimbclnhgbdcaaDoor
