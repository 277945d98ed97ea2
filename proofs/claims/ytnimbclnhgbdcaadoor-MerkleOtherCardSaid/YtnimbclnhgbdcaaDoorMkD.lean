/-
  The document's proof of a place.
-/
import Derived.Test.YtnimbclnhgbdcaaDoorMkC
namespace Go.Proofs.YtnimbclnhgbdcaaDoor
open Go.RowKit

def wayD (l : List D4) (i : Nat) : List D4 := way pairS noneD l i
/-- What the document's way answers. -/
def WayC (l : List D4) (i : Nat) : Prop := ∀ (b o cap : Nat) (w : World), RdL w b o l → l.length ≤ cap → cap ≤ maxLen →
  Calls Tryd.prog 31 #[.slice (some ⟨b, o, none⟩) l.length cap, .int .i64 (i : Int)] w fun e w' => ∃ v, e = .returned v ∧ OwnsD w.heap.size v (wayD l i) w' ∧ Below w.heap.size w w'
theorem way_val (l : List D4) (i : Nat) (H : WayC l i) (q : List D4) (b o n cap : Nat) (m : Int) (w : World) (hr : RdL w b o l) (hn : n = l.length) (hi : (i : Int) = m) (hc : l.length ≤ cap) (hm : cap ≤ maxLen) (hq : wayD l i = q) :
    Calls Tryd.prog 31 #[.slice (some ⟨b, o, none⟩) n cap, .int .i64 m] w fun e w' => ∃ v, e = .returned v ∧ OwnsD w.heap.size v q w' ∧ Below w.heap.size w w' := by
  subst hq; subst hn; subst hi
  exact H b o cap w hr hc hm
set_option maxHeartbeats 2000000 in
set_option maxRecDepth 100000 in
theorem way_c1 (a : D4) : WayC [a] 0 := by
  intro b o cap w hr hc hm
  have HE : Hid (wayD [a] 0 = []) := by show _ = _; rw [wayD, way_few _ _ _ _ (by simp)]
  unfold maxLen at hm
  go_enter Tryd.func31, Tryd.ntmps31
  go_wp2
  go_ret
  exact ⟨_, rfl, by rw [HE.out]; exact OwnsD.nil _ _, Below.refl _ _⟩
set_option maxHeartbeats 4000000 in
set_option maxRecDepth 100000 in
theorem way_cL (l : List D4) (i : Nat) (h2 : 2 ≤ l.length) (hle : l.length ≤ 1000000) (hi : i < half l.length) (hT : WayC (l.take (half l.length)) i) (hD : RootC (l.drop (half l.length))) : WayC l i := by
  intro b o cap w hr hc hm
  obtain ⟨n, hn⟩ : ∃ n, l.length = n := ⟨_, rfl⟩
  have hk1 := half_lt h2
  have hk0 := half_pos l.length
  obtain ⟨k, hk⟩ : ∃ k, half l.length = k := ⟨_, rfl⟩
  obtain ⟨q, hq⟩ : ∃ q, wayD (l.take k) i = q := ⟨_, rfl⟩
  obtain ⟨z, hz⟩ : ∃ z, rootD (l.drop k) = z := ⟨_, rfl⟩
  have hqn : q.length ≤ 20 := by rw [← hq]; exact way_len _ _ 20 _ _ (by rw [List.length_take]; have : (2 : Nat) ^ 20 = 1048576 := (by decide); omega)
  have HE : Hid (wayD l i = q ++ [z]) := by show _ = _; rw [wayD, way_left pairS noneD l i h2 hi, hk]; show wayD _ _ ++ [rootD _] = _; rw [hq, hz]
  rw [hk] at hk0 hk1 hT hD hi
  have hlt : (l.take k).length = k := by rw [List.length_take]; omega
  have hld : (l.drop k).length = n - k := by rw [List.length_drop, hn]
  rw [hn] at hk hk1 h2 hle hc
  have HZ := Lib.hid hz
  have HQ := Lib.hid hq
  have HK := Lib.hid hk
  have HLT := Lib.hid hlt
  have HLD := Lib.hid hld
  clear hz hq hk hlt hld
  rw [hn]
  clear hn
  have hcm : cap ≤ maxLen := hm
  unfold maxLen at hm
  have hdi : decide ((i : Int) < (k : Int)) = true := by simp; omega
  have hn1 : ((n : Int) == 1) = false := by simp; omega
  go_enter Tryd.func31, Tryd.ntmps31
  go_wp2_with fail
  refine (half_val n k w hle HK.out).mono ?_
  rintro e w1 ⟨rfl, rfl⟩
  go_wp2_with fail
  have hrd : RdL w.drew b o l := hr
  have hBd : Below w.heap.size w w.drew := (Below.refl _ w).drew
  clear hr
  have hki : (k : Int) ≤ (n : Int) := by omega
  have hkc : (k : Int) ≤ (cap : Int) := by omega
  have hk00 : (0 : Int) ≤ (k : Int) := by omega
  have hnc : (n : Int) ≤ (cap : Int) := by omega
  have hck : cap ≠ k := by omega
  have hcm2 : cap - k ≤ maxLen := by unfold maxLen; omega
  have hc1 : (l.take k).length ≤ cap := by rw [HLT.out]; omega
  have hc2 : (l.drop k).length ≤ cap - k := by rw [HLD.out]; omega
  have hr1 := hrd.take k
  obtain ⟨i0, hin, hz0, hz1, hz2⟩ := info_parts info_dg
  go_region_held3 (fun _ => True)
    (trivial)
    (first
      | (go_at_call 31; (with_reducible refine (way_val _ _ hT q b o k cap _ _ hr1 HLT.out.symm rfl hc1 hcm HQ.out).mono ?_); rintro e w1 ⟨v1, rfl, hown1, hA1⟩; have hB1 := hBd.trans (hA1.mono hBd.size); have hr2 := (hrd.on hA1).drop k)
      | (go_at_call 14; (with_reducible refine (root_val _ hD z b (o + k * 4) (n - k) (cap - k) _ hr2 HLD.out.symm hc2 hcm2 HZ.out).mono ?_); rintro e w2 ⟨rfl, hA2⟩; have hown2 := hown1.on hA2; have hB2 := hB1.trans (hA2.mono hB1.size); have hbw := hB2.size)
      | (refine step_append_lies _ (by rfl) _ _ _ (by rfl) w.heap.size 26 i0 _ 4 16 Tryd.underlying22 hin hz0 hz1 hz2 rfl (by omega) v1 q.length (dCells q) (by rfl) (hown2.alloc _) ⟨w2.heap.size, 0, none⟩ 1 1 [.int .u32 z.d0, .int .u32 z.d1, .int .u32 z.d2, .int .u32 z.d3] (by rfl) (by rfl) (World.news_of_block (cs := #[.int .u32 z.d0, .int .u32 z.d1, .int .u32 z.d2, .int .u32 z.d3]) (t := 26) (fr := (0, 0)) (heap_alloc_new w2 _)) (by simp [Value.oneCell']) (by omega) (by unfold maxLen; omega) (by omega) (by simp; omega) (w2.heap.size + 1) (by simp) ?_; intro gg gcap w3 hown3 hgrow hat hlt3))
  all_goals
    have hB3 : Below w.heap.size w w3 := (hB2.alloc hB2.size _).grown hgrow (by simp; omega) (fun k hk => (World.ownsRow.lt hown2 k hk).1)
    have hO := OwnsD.snoc (d := z) hown3
    clear hown3 hgrow hat hown2 hown1 hA1 hA2
    go_wp2
    go_ret
    exact ⟨_, rfl, by rw [HE.out]; exact hO, hB3⟩
set_option maxHeartbeats 4000000 in
set_option maxRecDepth 100000 in
theorem way_cR (l : List D4) (i : Nat) (h2 : 2 ≤ l.length) (hle : l.length ≤ 1000000) (hin' : i < l.length) (hi : ¬ i < half l.length) (hT : WayC (l.drop (half l.length)) (i - half l.length)) (hD : RootC (l.take (half l.length))) : WayC l i := by
  intro b o cap w hr hc hm
  obtain ⟨n, hn⟩ : ∃ n, l.length = n := ⟨_, rfl⟩
  have hk1 := half_lt h2
  have hk0 := half_pos l.length
  obtain ⟨k, hk⟩ : ∃ k, half l.length = k := ⟨_, rfl⟩
  obtain ⟨q, hq⟩ : ∃ q, wayD (l.drop k) (i - k) = q := ⟨_, rfl⟩
  obtain ⟨z, hz⟩ : ∃ z, rootD (l.take k) = z := ⟨_, rfl⟩
  have hqn : q.length ≤ 20 := by rw [← hq]; exact way_len _ _ 20 _ _ (by rw [List.length_drop]; have : (2 : Nat) ^ 20 = 1048576 := (by decide); omega)
  have HE : Hid (wayD l i = q ++ [z]) := by show _ = _; rw [wayD, way_right pairS noneD l i h2 hi, hk]; show wayD _ _ ++ [rootD _] = _; rw [hq, hz]
  rw [hk] at hk0 hk1 hT hD hi
  have hlt : (l.take k).length = k := by rw [List.length_take]; omega
  have hld : (l.drop k).length = n - k := by rw [List.length_drop, hn]
  rw [hn] at hk hk1 h2 hle hc hin'
  have HZ := Lib.hid hz
  have HQ := Lib.hid hq
  have HK := Lib.hid hk
  have HLT := Lib.hid hlt
  have HLD := Lib.hid hld
  clear hz hq hk hlt hld
  rw [hn]
  clear hn
  have hcm : cap ≤ maxLen := hm
  unfold maxLen at hm
  have hdi : decide ((i : Int) < (k : Int)) = false := by simp; omega
  have hn1 : ((n : Int) == 1) = false := by simp; omega
  go_enter Tryd.func31, Tryd.ntmps31
  go_wp2_with fail
  refine (half_val n k w hle HK.out).mono ?_
  rintro e w1 ⟨rfl, rfl⟩
  go_wp2_with fail
  have hrd : RdL w.drew b o l := hr
  have hBd : Below w.heap.size w w.drew := (Below.refl _ w).drew
  clear hr
  have hki : (k : Int) ≤ (n : Int) := by omega
  have hkc : (k : Int) ≤ (cap : Int) := by omega
  have hk00 : (0 : Int) ≤ (k : Int) := by omega
  have hnc : (n : Int) ≤ (cap : Int) := by omega
  have hck : cap ≠ k := by omega
  have hcm2 : cap - k ≤ maxLen := by unfold maxLen; omega
  have hc1 : (l.take k).length ≤ cap := by rw [HLT.out]; omega
  have hc2 : (l.drop k).length ≤ cap - k := by rw [HLD.out]; omega
  have hr1 := hrd.drop k
  have hwr : IntKind.i64.wrap ((i : Int) - (k : Int)) = ((i - k : Nat) : Int) := by rw [IntWalk.i64_in _ (by omega)]; omega
  obtain ⟨i0, hin, hz0, hz1, hz2⟩ := info_parts info_dg
  go_region_held3 (fun _ => True)
    (trivial)
    (first
      | (go_at_call 31; (with_reducible refine (way_val _ _ hT q b (o + k * 4) (n - k) (cap - k) _ _ hr1 HLD.out.symm rfl hc2 hcm2 HQ.out).mono ?_); rintro e w1 ⟨v1, rfl, hown1, hA1⟩; have hB1 := hBd.trans (hA1.mono hBd.size); have hr2 := (hrd.on hA1).take k)
      | (go_at_call 14; (with_reducible refine (root_val _ hD z b o k cap _ hr2 HLT.out.symm hc1 hcm HZ.out).mono ?_); rintro e w2 ⟨rfl, hA2⟩; have hown2 := hown1.on hA2; have hB2 := hB1.trans (hA2.mono hB1.size); have hbw := hB2.size)
      | (refine step_append_lies _ (by rfl) _ _ _ (by rfl) w.heap.size 26 i0 _ 4 16 Tryd.underlying22 hin hz0 hz1 hz2 rfl (by omega) v1 q.length (dCells q) (by rfl) (hown2.alloc _) ⟨w2.heap.size, 0, none⟩ 1 1 [.int .u32 z.d0, .int .u32 z.d1, .int .u32 z.d2, .int .u32 z.d3] (by rfl) (by rfl) (World.news_of_block (cs := #[.int .u32 z.d0, .int .u32 z.d1, .int .u32 z.d2, .int .u32 z.d3]) (t := 26) (fr := (0, 0)) (heap_alloc_new w2 _)) (by simp [Value.oneCell']) (by omega) (by unfold maxLen; omega) (by omega) (by simp; omega) (w2.heap.size + 1) (by simp) ?_; intro gg gcap w3 hown3 hgrow hat hlt3))
  all_goals
    have hB3 : Below w.heap.size w w3 := (hB2.alloc hB2.size _).grown hgrow (by simp; omega) (fun k hk => (World.ownsRow.lt hown2 k hk).1)
    have hO := OwnsD.snoc (d := z) hown3
    clear hown3 hgrow hat hown2 hown1 hA1 hA2
    go_wp2
    go_ret
    exact ⟨_, rfl, by rw [HE.out]; exact hO, hB3⟩
end Go.Proofs.YtnimbclnhgbdcaaDoor
