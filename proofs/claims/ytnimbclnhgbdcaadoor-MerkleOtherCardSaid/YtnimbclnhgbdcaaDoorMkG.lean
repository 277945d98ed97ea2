/-
  The document's proof that a list goes on another (written by gen_goes.py out of the text on way, and ended by hand).
-/
import Derived.Test.YtnimbclnhgbdcaaDoorMkE
namespace Go.Proofs.YtnimbclnhgbdcaaDoor
open Go.RowKit

def goesD (l : List D4) (m : Nat) (bw : Bool) : List D4 := goes pairS noneD l m bw
/-- What the document's goes answers. -/
def GoesC (l : List D4) (m : Nat) (bw : Bool) : Prop := ∀ (b o cap : Nat) (w : World), RdL w b o l → l.length ≤ cap → cap ≤ maxLen →
  Calls Tryd.prog 37 #[.slice (some ⟨b, o, none⟩) l.length cap, .int .i64 (m : Int), .bool bw] w fun e w' => ∃ v, e = .returned v ∧ OwnsD w.heap.size v (goesD l m bw) w' ∧ Below w.heap.size w w'
theorem goes_val (l : List D4) (i : Nat) (bw : Bool) (H : GoesC l i bw) (q : List D4) (b o n cap : Nat) (m : Int) (w : World) (hr : RdL w b o l) (hn : n = l.length) (hi : (i : Int) = m) (hc : l.length ≤ cap) (hm : cap ≤ maxLen) (hq : goesD l i bw = q) :
    Calls Tryd.prog 37 #[.slice (some ⟨b, o, none⟩) n cap, .int .i64 m, .bool bw] w fun e w' => ∃ v, e = .returned v ∧ OwnsD w.heap.size v q w' ∧ Below w.heap.size w w' := by
  subst hq; subst hn; subst hi
  exact H b o cap w hr hc hm
theorem goes_cWhole (l : List D4) : GoesC l l.length true := by
  intro b o cap w _ _ hm
  have HE : Hid (goesD l l.length true = []) := by show _ = _; rw [goesD, goes_all _ _ _ _ _ rfl]; rfl
  unfold maxLen at hm
  go_enter Tryd.func37, Tryd.ntmps37
  go_wp2
  go_ret
  exact ⟨_, rfl, by rw [HE.out]; exact OwnsD.nil _ _, Below.refl _ _⟩
theorem ownsD_one (z : D4) (w : World) (B : Nat) (hB : B ≤ w.heap.size) : OwnsD B (.slice (some ⟨w.heap.size, 0, none⟩) 1 1) [z] (w.alloc (.cells #[.int .u32 z.d0, .int .u32 z.d1, .int .u32 z.d2, .int .u32 z.d3] 26)) :=
  ⟨rfl, .inr ⟨w.heap.size, 1, _, rfl, hB, heap_alloc_new w _, Nat.le_refl _, by unfold maxLen; omega, rfl, rfl⟩⟩
theorem goes_cCut (l : List D4) (hle : l.length ≤ 1000000) (hok : allD4 l) : GoesC l l.length false := by
  intro b o cap w hr hc hm
  obtain ⟨z, hz⟩ : ∃ z, rootD l = z := ⟨_, rfl⟩
  have HE : Hid (goesD l l.length false = [z]) := by show _ = _; rw [goesD, goes_all _ _ _ _ _ rfl, ← hz]; rfl
  have HZ := Lib.hid hz
  clear hz
  have hcm := hm
  unfold maxLen at hm
  go_enter Tryd.func37, Tryd.ntmps37
  go_wp2_with fail
  refine (root_val l (root_any l hle hok) z b o _ cap w hr rfl hc hcm HZ.out).mono ?_
  rintro e w1 ⟨rfl, hA⟩
  go_wp2
  go_ret
  exact ⟨_, rfl, by rw [HE.out]; exact ownsD_one z w1 _ hA.size, hA.alloc hA.size _⟩
set_option maxHeartbeats 4000000 in
set_option maxRecDepth 100000 in
theorem goes_cL (l : List D4) (m : Nat) (bw : Bool) (h2 : 2 ≤ l.length) (hle : l.length ≤ 1000000) (hm1 : 1 ≤ m) (hne : m ≠ l.length) (hi : m ≤ half l.length) (hT : GoesC (l.take (half l.length)) m bw) (hD : RootC (l.drop (half l.length))) : GoesC l m bw := by
  intro b o cap w hr hc hm
  obtain ⟨n, hn⟩ : ∃ n, l.length = n := ⟨_, rfl⟩
  have hk1 := half_lt h2
  have hk0 := half_pos l.length
  obtain ⟨k, hk⟩ : ∃ k, half l.length = k := ⟨_, rfl⟩
  obtain ⟨q, hq⟩ : ∃ q, goesD (l.take k) m bw = q := ⟨_, rfl⟩
  obtain ⟨z, hz⟩ : ∃ z, rootD (l.drop k) = z := ⟨_, rfl⟩
  have hqn : q.length ≤ 21 := by rw [← hq]; exact goes_len pairS noneD 20 _ _ _ (by rw [List.length_take]; have : (2 : Nat) ^ 20 = 1048576 := (by decide); omega) hm1 (by rw [List.length_take]; omega)
  have HE : Hid (goesD l m bw = q ++ [z]) := by show _ = _; rw [goesD, goes_left pairS noneD l m bw hne h2 hi, hk]; show goesD _ _ _ ++ [rootD _] = _; rw [hq, hz]
  rw [hk] at hk0 hk1 hT hD hi
  have hlt : (l.take k).length = k := by rw [List.length_take]; omega
  have hld : (l.drop k).length = n - k := by rw [List.length_drop, hn]
  rw [hn] at hk hk1 h2 hle hc hne
  have HZ := Lib.hid hz
  have HQ := Lib.hid hq
  have HK := Lib.hid hk
  have HLT := Lib.hid hlt
  have HLD := Lib.hid hld
  clear hz hq hk hlt hld
  rw [hn]
  clear hn
  have hcm : cap ≤ maxLen := hm
  unfold maxLen at hm
  have hdi : decide ((m : Int) ≤ (k : Int)) = true := by simp; omega
  have hn1 : ((m : Int) == (n : Int)) = false := by simp; omega
  go_enter Tryd.func37, Tryd.ntmps37
  go_wp2_with fail
  refine (half_val n k w hle HK.out).mono ?_
  rintro e w1 ⟨rfl, rfl⟩
  go_wp2_with fail
  have hrd : RdL w.drew b o l := hr
  have hBd : Below w.heap.size w w.drew := (Below.refl _ w).drew
  clear hr
  have hki : (k : Int) ≤ (n : Int) := by omega
  have hkc : (k : Int) ≤ (cap : Int) := by omega
  have hk00 : (0 : Int) ≤ (k : Int) := by omega
  have hnc : (n : Int) ≤ (cap : Int) := by omega
  have hck : cap ≠ k := by omega
  have hcm2 : cap - k ≤ maxLen := by unfold maxLen; omega
  have hc1 : (l.take k).length ≤ cap := by rw [HLT.out]; omega
  have hc2 : (l.drop k).length ≤ cap - k := by rw [HLD.out]; omega
  have hr1 := hrd.take k
  obtain ⟨i0, hin, hz0, hz1, hz2⟩ := info_parts info_dg
  go_region_held3 (fun _ => True)
    (trivial)
    (first
      | (go_at_call 37; (with_reducible refine (goes_val _ _ _ hT q b o k cap _ _ hr1 HLT.out.symm rfl hc1 hcm HQ.out).mono ?_); rintro e w1 ⟨v1, rfl, hown1, hA1⟩; have hB1 := hBd.trans (hA1.mono hBd.size); have hr2 := (hrd.on hA1).drop k)
      | (go_at_call 14; (with_reducible refine (root_val _ hD z b (o + k * 4) (n - k) (cap - k) _ hr2 HLD.out.symm hc2 hcm2 HZ.out).mono ?_); rintro e w2 ⟨rfl, hA2⟩; have hown2 := hown1.on hA2; have hB2 := hB1.trans (hA2.mono hB1.size); have hbw := hB2.size)
      | (refine step_append_lies _ (by rfl) _ _ _ (by rfl) w.heap.size 26 i0 _ 4 16 Tryd.underlying22 hin hz0 hz1 hz2 rfl (by omega) v1 q.length (dCells q) (by rfl) (hown2.alloc _) ⟨w2.heap.size, 0, none⟩ 1 1 [.int .u32 z.d0, .int .u32 z.d1, .int .u32 z.d2, .int .u32 z.d3] (by rfl) (by rfl) (World.news_of_block (cs := #[.int .u32 z.d0, .int .u32 z.d1, .int .u32 z.d2, .int .u32 z.d3]) (t := 26) (fr := (0, 0)) (heap_alloc_new w2 _)) (by simp [Value.oneCell']) (by omega) (by unfold maxLen; omega) (by omega) (by simp; omega) (w2.heap.size + 1) (by simp) ?_; intro gg gcap w3 hown3 hgrow hat hlt3))
  all_goals
    have hB3 : Below w.heap.size w w3 := (hB2.alloc hB2.size _).grown hgrow (by simp; omega) (fun k hk => (World.ownsRow.lt hown2 k hk).1)
    have hO := OwnsD.snoc (d := z) hown3
    clear hown3 hgrow hat hown2 hown1 hA1 hA2
    go_wp2
    go_ret
    exact ⟨_, rfl, by rw [HE.out]; exact hO, hB3⟩
set_option maxHeartbeats 4000000 in
set_option maxRecDepth 100000 in
theorem goes_cR (l : List D4) (m : Nat) (bw : Bool) (h2 : 2 ≤ l.length) (hle : l.length ≤ 1000000) (hin' : m ≤ l.length) (hne : m ≠ l.length) (hi : ¬ m ≤ half l.length) (hT : GoesC (l.drop (half l.length)) (m - half l.length) false) (hD : RootC (l.take (half l.length))) : GoesC l m bw := by
  intro b o cap w hr hc hm
  obtain ⟨n, hn⟩ : ∃ n, l.length = n := ⟨_, rfl⟩
  have hk1 := half_lt h2
  have hk0 := half_pos l.length
  obtain ⟨k, hk⟩ : ∃ k, half l.length = k := ⟨_, rfl⟩
  obtain ⟨q, hq⟩ : ∃ q, goesD (l.drop k) (m - k) false = q := ⟨_, rfl⟩
  obtain ⟨z, hz⟩ : ∃ z, rootD (l.take k) = z := ⟨_, rfl⟩
  have hqn : q.length ≤ 21 := by rw [← hq]; exact goes_len pairS noneD 20 _ _ _ (by rw [List.length_drop]; have : (2 : Nat) ^ 20 = 1048576 := (by decide); omega) (by omega) (by rw [List.length_drop]; omega)
  have HE : Hid (goesD l m bw = q ++ [z]) := by show _ = _; rw [goesD, goes_right pairS noneD l m bw hne h2 hi, hk]; show goesD _ _ _ ++ [rootD _] = _; rw [hq, hz]
  rw [hk] at hk0 hk1 hT hD hi
  have hlt : (l.take k).length = k := by rw [List.length_take]; omega
  have hld : (l.drop k).length = n - k := by rw [List.length_drop, hn]
  rw [hn] at hk hk1 h2 hle hc hin' hne
  have HZ := Lib.hid hz
  have HQ := Lib.hid hq
  have HK := Lib.hid hk
  have HLT := Lib.hid hlt
  have HLD := Lib.hid hld
  clear hz hq hk hlt hld
  rw [hn]
  clear hn
  have hcm : cap ≤ maxLen := hm
  unfold maxLen at hm
  have hdi : decide ((m : Int) ≤ (k : Int)) = false := by simp; omega
  have hn1 : ((m : Int) == (n : Int)) = false := by simp; omega
  go_enter Tryd.func37, Tryd.ntmps37
  go_wp2_with fail
  refine (half_val n k w hle HK.out).mono ?_
  rintro e w1 ⟨rfl, rfl⟩
  go_wp2_with fail
  have hrd : RdL w.drew b o l := hr
  have hBd : Below w.heap.size w w.drew := (Below.refl _ w).drew
  clear hr
  have hki : (k : Int) ≤ (n : Int) := by omega
  have hkc : (k : Int) ≤ (cap : Int) := by omega
  have hk00 : (0 : Int) ≤ (k : Int) := by omega
  have hnc : (n : Int) ≤ (cap : Int) := by omega
  have hck : cap ≠ k := by omega
  have hcm2 : cap - k ≤ maxLen := by unfold maxLen; omega
  have hc1 : (l.take k).length ≤ cap := by rw [HLT.out]; omega
  have hc2 : (l.drop k).length ≤ cap - k := by rw [HLD.out]; omega
  have hr1 := hrd.drop k
  have hwr : IntKind.i64.wrap ((m : Int) - (k : Int)) = ((m - k : Nat) : Int) := by rw [IntWalk.i64_in _ (by omega)]; omega
  obtain ⟨i0, hin, hz0, hz1, hz2⟩ := info_parts info_dg
  go_region_held3 (fun _ => True)
    (trivial)
    (first
      | (go_at_call 37; (with_reducible refine (goes_val _ _ _ hT q b (o + k * 4) (n - k) (cap - k) _ _ hr1 HLD.out.symm rfl hc2 hcm2 HQ.out).mono ?_); rintro e w1 ⟨v1, rfl, hown1, hA1⟩; have hB1 := hBd.trans (hA1.mono hBd.size); have hr2 := (hrd.on hA1).take k)
      | (go_at_call 14; (with_reducible refine (root_val _ hD z b o k cap _ hr2 HLT.out.symm hc1 hcm HZ.out).mono ?_); rintro e w2 ⟨rfl, hA2⟩; have hown2 := hown1.on hA2; have hB2 := hB1.trans (hA2.mono hB1.size); have hbw := hB2.size)
      | (refine step_append_lies _ (by rfl) _ _ _ (by rfl) w.heap.size 26 i0 _ 4 16 Tryd.underlying22 hin hz0 hz1 hz2 rfl (by omega) v1 q.length (dCells q) (by rfl) (hown2.alloc _) ⟨w2.heap.size, 0, none⟩ 1 1 [.int .u32 z.d0, .int .u32 z.d1, .int .u32 z.d2, .int .u32 z.d3] (by rfl) (by rfl) (World.news_of_block (cs := #[.int .u32 z.d0, .int .u32 z.d1, .int .u32 z.d2, .int .u32 z.d3]) (t := 26) (fr := (0, 0)) (heap_alloc_new w2 _)) (by simp [Value.oneCell']) (by omega) (by unfold maxLen; omega) (by omega) (by simp; omega) (w2.heap.size + 1) (by simp) ?_; intro gg gcap w3 hown3 hgrow hat hlt3))
  all_goals
    have hB3 : Below w.heap.size w w3 := (hB2.alloc hB2.size _).grown hgrow (by simp; omega) (fun k hk => (World.ownsRow.lt hown2 k hk).1)
    have hO := OwnsD.snoc (d := z) hown3
    clear hown3 hgrow hat hown2 hown1 hA1 hA2
    go_wp2
    go_ret
    exact ⟨_, rfl, by rw [HE.out]; exact hO, hB3⟩
theorem goes_allC : ∀ (n : Nat) (l : List D4), l.length = n → n ≤ 1000000 → allD4 l → ∀ m bw, 1 ≤ m → m ≤ n → GoesC l m bw := by
  intro n
  induction n using Nat.strongRecOn with
  | _ n ih =>
    intro l hn hle hok m bw h1 hm
    by_cases q : m = l.length
    · subst q
      cases bw
      · exact goes_cCut l (by omega) hok
      · exact goes_cWhole l
    · have h2 : 2 ≤ l.length := by omega
      have hl := half_lt h2
      have hp := half_pos l.length
      by_cases k : m ≤ half l.length
      · exact goes_cL l m bw h2 (by omega) h1 q k
          (ih (half l.length) (by omega) (l.take (half l.length)) (by rw [List.length_take]; omega) (by omega) (hok.take _) m bw h1 k)
          (root_any _ (by rw [List.length_drop]; omega) (hok.drop _))
      · exact goes_cR l m bw h2 (by omega) (by omega) q k
          (ih (l.length - half l.length) (by omega) (l.drop (half l.length)) (by rw [List.length_drop]) (by omega) (hok.drop _) (m - half l.length) false (by omega) (by omega))
          (root_any _ (by rw [List.length_take]; omega) (hok.take _))
/-- The document's ProveOn: no such length. -/
theorem rproveOn_no (p : Option Addr) (n cap : Nat) (m : Int) (w : World) (h : m < 1 ∨ (n : Int) < m) : Calls Tryd.prog 19 #[.slice p n cap, .int .i64 m] w fun e w' => e = .returned (.tuple #[.slice none 0 0, .int .i64 1]) ∧ w = w' := by
  by_cases q : m < 1
  · have hd : decide (m < 1) = true := by simp; omega
    go_enter Tryd.func19, Tryd.ntmps19
    go_wp2
    go_ret2
    exact ⟨rfl, rfl⟩
  · have hd : decide (m < 1) = false := by simp; omega
    have hd2 : decide ((n : Int) < m) = true := by simp; omega
    go_enter Tryd.func19, Tryd.ntmps19
    go_wp2
    go_ret2
    exact ⟨rfl, rfl⟩
theorem rproveOn_any (l : List D4) (m b o cap : Nat) (w : World) (hle : l.length ≤ 1000000) (hok : allD4 l) (h1 : 1 ≤ m) (hml : m ≤ l.length) (hr : RdL w b o l) (hc : l.length ≤ cap) (hm : cap ≤ maxLen) :
    Calls Tryd.prog 19 #[.slice (some ⟨b, o, none⟩) l.length cap, .int .i64 (m : Int)] w fun e w' => ∃ v, e = .returned (.tuple #[v, .int .i64 0]) ∧ OwnsD w.heap.size v (goesD l m true) w' ∧ Below w.heap.size w w' := by
  have H := goes_allC l.length l rfl hle hok m true h1 hml
  have hcm := hm
  unfold maxLen at hm
  have hd : decide ((m : Int) < 1) = false := by simp; omega
  have hd2 : decide ((l.length : Int) < (m : Int)) = false := by simp; omega
  go_enter Tryd.func19, Tryd.ntmps19
  go_wp2_with fail
  refine (H b o cap w hr hc hcm).mono ?_
  rintro e w1 ⟨v, rfl, hO, hB⟩
  go_wp2
  go_ret2
  exact ⟨_, rfl, hO, hB⟩
end Go.Proofs.YtnimbclnhgbdcaaDoor
