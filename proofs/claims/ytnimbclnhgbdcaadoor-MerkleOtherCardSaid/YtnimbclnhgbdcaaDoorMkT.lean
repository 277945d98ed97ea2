/-
  The code's Prove and ProveOn (written by gen_pf.py).
-/
import Derived.Test.YtnimbclnhgbdcaaDoorMkQ
import Derived.Test.YtnimbclnhgbdcaaDoorMkG
namespace Go.Proofs.YtnimbclnhgbdcaaDoor
open Go.RowKit Go.Lib

theorem OwnsD.low {B B' : Nat} {v : Value} {l : List D4} {w : World} (h : OwnsD B v l w) (hB : B' ≤ B) : OwnsD B' v l w := by
  refine ⟨h.1, ?_⟩
  rcases h.2 with q | ⟨g, cap, cur, hv, hb, q⟩
  · exact .inl q
  · exact .inr ⟨g, cap, cur, hv, Nat.le_trans hB hb, q⟩
def PInC (l : List D4) (i : Nat) : Prop := ∀ (b o cap : Nat) (w : World), RdL w b o l → l.length ≤ cap → cap ≤ maxLen → TurnsOk w →
  Calls Tryd.prog 30 #[.slice (some ⟨b, o, none⟩) l.length cap, .int .i64 (i : Int)] w fun e w' => ∃ v, e = .returned v ∧ OwnsD w.heap.size v (wayD l i) w' ∧ Below w.heap.size w w'
theorem pin_val (l : List D4) (i : Nat) (H : PInC l i) (q : List D4) (b o n cap : Nat) (m : Int) (w : World) (hr : RdL w b o l) (hn : n = l.length) (hi : (i : Int) = m) (hc : l.length ≤ cap) (hm : cap ≤ maxLen) (hT : TurnsOk w) (hq : wayD l i = q) :
    Calls Tryd.prog 30 #[.slice (some ⟨b, o, none⟩) n cap, .int .i64 m] w fun e w' => ∃ v, e = .returned v ∧ OwnsD w.heap.size v q w' ∧ Below w.heap.size w w' := by
  subst hq; subst hn; subst hi
  exact H b o cap w hr hc hm hT
def POnC (l : List D4) (m : Nat) (bw : Bool) : Prop := ∀ (b o cap : Nat) (w : World), RdL w b o l → l.length ≤ cap → cap ≤ maxLen → TurnsOk w →
  Calls Tryd.prog 36 #[.slice (some ⟨b, o, none⟩) l.length cap, .int .i64 (m : Int), .bool bw] w fun e w' => ∃ v, e = .returned v ∧ OwnsD w.heap.size v (goesD l m bw) w' ∧ Below w.heap.size w w'
theorem pon_val (l : List D4) (m : Nat) (bw : Bool) (H : POnC l m bw) (q : List D4) (b o n cap : Nat) (u : Int) (w : World) (hr : RdL w b o l) (hn : n = l.length) (hi : (m : Int) = u) (hc : l.length ≤ cap) (hm : cap ≤ maxLen) (hT : TurnsOk w) (hq : goesD l m bw = q) :
    Calls Tryd.prog 36 #[.slice (some ⟨b, o, none⟩) n cap, .int .i64 u, .bool bw] w fun e w' => ∃ v, e = .returned v ∧ OwnsD w.heap.size v q w' ∧ Below w.heap.size w w' := by
  subst hq; subst hn; subst hi
  exact H b o cap w hr hc hm hT
set_option maxHeartbeats 2000000 in
set_option maxRecDepth 100000 in
theorem pin_c1 (a : D4) : PInC [a] 0 := by
  intro b o cap w hr hc hm hT
  have HE : Hid (wayD [a] 0 = []) := by show _ = _; rw [wayD, way_few _ _ _ _ (by simp)]
  unfold maxLen at hm
  go_enter Tryd.func30, Tryd.ntmps30
  go_wp2
  go_ret
  exact ⟨_, rfl, by rw [HE.out]; exact OwnsD.nil _ _, Below.refl _ _⟩
set_option maxHeartbeats 2000000 in
set_option maxRecDepth 100000 in
theorem pon_cWhole (l : List D4) : POnC l l.length true := by
  intro b o cap w hr hc hm hT
  have HE : Hid (goesD l l.length true = []) := by show _ = _; rw [goesD, goes_all _ _ _ _ _ rfl]; rfl
  unfold maxLen at hm
  go_enter Tryd.func36, Tryd.ntmps36
  go_wp2
  go_ret
  exact ⟨_, rfl, by rw [HE.out]; exact OwnsD.nil _ _, Below.refl _ _⟩
set_option maxHeartbeats 2000000 in
set_option maxRecDepth 100000 in
theorem pon_cCut (l : List D4) (hle : l.length ≤ 1000000) (hok : allD4 l) : POnC l l.length false := by
  intro b o cap w hr hc hm hT
  obtain ⟨z, hz⟩ : ∃ z, rootD l = z := ⟨_, rfl⟩
  have HE : Hid (goesD l l.length false = [z]) := by show _ = _; rw [goesD, goes_all _ _ _ _ _ rfl]; show [rootD l] = _; rw [hz]
  have HZ := Lib.hid hz
  clear hz
  have hcm : cap ≤ maxLen := hm
  unfold maxLen at hm
  go_enter Tryd.func36, Tryd.ntmps36
  go_wp2_with fail
  refine (croot_val l (croot_any l hle hok) z b o _ cap w hr rfl hc hcm hT HZ.out).mono ?_
  rintro e w1 ⟨rfl, hA⟩
  go_wp2
  go_ret
  exact ⟨_, rfl, by rw [HE.out]; exact ownsD_one z w1 _ hA.size, hA.alloc hA.size _⟩
set_option maxHeartbeats 4000000 in
set_option maxRecDepth 100000 in
theorem pin_cL (l : List D4) (i : Nat) (h2 : 2 ≤ l.length) (hle : l.length ≤ 1000000) (hok : allD4 l) (hin : i < l.length) (hi : i < half l.length) (hT : PInC (l.take (half l.length)) i) : PInC l i := by
  have _u := hin
  intro b o cap w hr hc hm hTk
  obtain ⟨n, hn⟩ : ∃ n, l.length = n := ⟨_, rfl⟩
  have hk1 := half_lt h2
  have hk0 := half_pos l.length
  obtain ⟨k, hk⟩ : ∃ k, half l.length = k := ⟨_, rfl⟩
  obtain ⟨q, hq⟩ : ∃ q, wayD (l.take k) i = q := ⟨_, rfl⟩
  obtain ⟨z, hz⟩ : ∃ z, rootD (l.drop k) = z := ⟨_, rfl⟩
  have hqn : q.length ≤ 21 := by rw [← hq]; exact Nat.le_succ_of_le (way_len _ _ 20 _ _ (by rw [List.length_take]; have : (2 : Nat) ^ 20 = 1048576 := (by decide); omega))
  have HE : Hid (wayD l i = q ++ [z]) := by show _ = _; rw [wayD, way_left pairS noneD l i h2 hi, hk]; show wayD _ _ ++ [rootD _] = _; rw [hq, hz]
  rw [hk] at hk0 hk1 hT hi
  have hlt : (l.take k).length = k := by rw [List.length_take]; omega
  have hld : (l.drop k).length = n - k := by rw [List.length_drop, hn]
  have hD : CRootC (l.drop k) := croot_any _ (by rw [List.length_drop]; omega) (hok.drop k)
  rw [hn] at hk hk1 h2 hle hc hin
  have HZ := Lib.hid hz
  have HQ := Lib.hid hq
  have HK := Lib.hid hk
  have HLT := Lib.hid hlt
  have HLD := Lib.hid hld
  clear hz hq hk hlt hld
  rw [hn]
  clear hn
  have hcm : cap ≤ maxLen := hm
  have hcm2 : cap - k ≤ maxLen := by omega
  unfold maxLen at hm
  have hdi : decide ((i : Int) < (k : Int)) = true := by simp; omega
  have hn1 : ((n : Int) == 1) = false := by simp; omega
  have hc1 : (l.take k).length ≤ cap := by rw [HLT.out]; omega
  have hc2 : (l.drop k).length ≤ cap - k := by rw [HLD.out]; omega
  obtain ⟨i0, hinf, hz0, hz1, hz2⟩ := info_parts info_dg
  go_enter Tryd.func30, Tryd.ntmps30
  go_wp2_with fail
  refine (split_any n k cap b o w h2 hle HK.out hc hcm).mono ?_
  rintro e w1 ⟨rfl, hA1⟩
  have hr1 := hr.on hA1
  have hT1 := hTk.below hA1
  have hs1 : w.heap.size ≤ w1.heap.size := hA1.size
  clear hr hTk
  go_wp2_with fail
  refine (pin_val _ _ hT q b o k cap _ w1 (hr1.take k) HLT.out.symm rfl hc1 hcm hT1 HQ.out).mono ?_
  rintro e w2 ⟨v1, rfl, hown1, hA2⟩
  have hB2 := hA1.trans (hA2.mono hA1.size)
  have hr2 := hr1.on hA2
  have hT2 := hT1.below hA2
  clear hr1 hT1 hA1
  go_wp2_with fail
  refine (croot_val _ hD z b (o + k * 4) (n - k) (cap - k) w2 (hr2.drop k) HLD.out.symm hc2 hcm2 hT2 HZ.out).mono ?_
  rintro e w3 ⟨rfl, hA3⟩
  have hown3 := hown1.on hA3
  have hB3 := hB2.trans (hA3.mono hB2.size)
  have hs3 : w1.heap.size ≤ w3.heap.size := Nat.le_trans hA2.size hA3.size
  clear hr2 hT2 hA2 hA3 hown1 hB2
  go_wp2_with (at_builtin; refine wpList_append_lies _ (by rfl) _ _ _ (by rfl) w1.heap.size 26 i0 _ 4 16 Tryd.underlying22 hinf hz0 hz1 hz2 rfl (by omega) v1 q.length (dCells q) (by rfl) (hown3.alloc _) ⟨w3.heap.size, 0, none⟩ 1 1 [.int .u32 z.d0, .int .u32 z.d1, .int .u32 z.d2, .int .u32 z.d3] (by rfl) (by rfl) (World.news_of_block (cs := #[.int .u32 z.d0, .int .u32 z.d1, .int .u32 z.d2, .int .u32 z.d3]) (t := 26) (fr := (0, 0)) (heap_alloc_new w3 _)) (by simp [Value.oneCell']) (by omega) (by unfold maxLen; omega) (by omega) (by simp; omega) (w3.heap.size + 1) (by simp) ?_)
  intro gg gcap w4 hown4 hgrow hat hlt4
  have hB4 : Below w.heap.size w w4 := (hB3.alloc hB3.size _).grown hgrow (by simp; omega) (fun k hk => by have := (World.ownsRow.lt hown3 k hk).1; omega)
  have hO := OwnsD.snoc (d := z) hown4
  clear hown4 hgrow hat hown3
  go_wp2
  go_ret
  exact ⟨_, rfl, by rw [HE.out]; exact hO.low hs1, hB4⟩
set_option maxHeartbeats 4000000 in
set_option maxRecDepth 100000 in
theorem pin_cR (l : List D4) (i : Nat) (h2 : 2 ≤ l.length) (hle : l.length ≤ 1000000) (hok : allD4 l) (hin : i < l.length) (hi : ¬ i < half l.length) (hT : PInC (l.drop (half l.length)) (i - half l.length)) : PInC l i := by
  have _u := hin
  intro b o cap w hr hc hm hTk
  obtain ⟨n, hn⟩ : ∃ n, l.length = n := ⟨_, rfl⟩
  have hk1 := half_lt h2
  have hk0 := half_pos l.length
  obtain ⟨k, hk⟩ : ∃ k, half l.length = k := ⟨_, rfl⟩
  obtain ⟨q, hq⟩ : ∃ q, wayD (l.drop k) (i - k) = q := ⟨_, rfl⟩
  obtain ⟨z, hz⟩ : ∃ z, rootD (l.take k) = z := ⟨_, rfl⟩
  have hqn : q.length ≤ 21 := by rw [← hq]; exact Nat.le_succ_of_le (way_len _ _ 20 _ _ (by rw [List.length_drop]; have : (2 : Nat) ^ 20 = 1048576 := (by decide); omega))
  have HE : Hid (wayD l i = q ++ [z]) := by show _ = _; rw [wayD, way_right pairS noneD l i h2 hi, hk]; show wayD _ _ ++ [rootD _] = _; rw [hq, hz]
  rw [hk] at hk0 hk1 hT hi
  have hlt : (l.take k).length = k := by rw [List.length_take]; omega
  have hld : (l.drop k).length = n - k := by rw [List.length_drop, hn]
  have hD : CRootC (l.take k) := croot_any _ (by rw [List.length_take]; omega) (hok.take k)
  rw [hn] at hk hk1 h2 hle hc hin
  have HZ := Lib.hid hz
  have HQ := Lib.hid hq
  have HK := Lib.hid hk
  have HLT := Lib.hid hlt
  have HLD := Lib.hid hld
  clear hz hq hk hlt hld
  rw [hn]
  clear hn
  have hcm : cap ≤ maxLen := hm
  have hcm2 : cap - k ≤ maxLen := by omega
  unfold maxLen at hm
  have hdi : decide ((i : Int) < (k : Int)) = false := by simp; omega
  have hn1 : ((n : Int) == 1) = false := by simp; omega
  have hwr : IntKind.i64.wrap ((i : Int) - (k : Int)) = ((i - k : Nat) : Int) := by rw [IntWalk.i64_in _ (by omega)]; omega
  have hc1 : (l.take k).length ≤ cap := by rw [HLT.out]; omega
  have hc2 : (l.drop k).length ≤ cap - k := by rw [HLD.out]; omega
  obtain ⟨i0, hinf, hz0, hz1, hz2⟩ := info_parts info_dg
  go_enter Tryd.func30, Tryd.ntmps30
  go_wp2_with fail
  refine (split_any n k cap b o w h2 hle HK.out hc hcm).mono ?_
  rintro e w1 ⟨rfl, hA1⟩
  have hr1 := hr.on hA1
  have hT1 := hTk.below hA1
  have hs1 : w.heap.size ≤ w1.heap.size := hA1.size
  clear hr hTk
  go_wp2_with fail
  refine (pin_val _ _ hT q b (o + k * 4) (n - k) (cap - k) _ w1 (hr1.drop k) HLD.out.symm rfl hc2 hcm2 hT1 HQ.out).mono ?_
  rintro e w2 ⟨v1, rfl, hown1, hA2⟩
  have hB2 := hA1.trans (hA2.mono hA1.size)
  have hr2 := hr1.on hA2
  have hT2 := hT1.below hA2
  clear hr1 hT1 hA1
  go_wp2_with fail
  refine (croot_val _ hD z b o k cap w2 (hr2.take k) HLT.out.symm hc1 hcm hT2 HZ.out).mono ?_
  rintro e w3 ⟨rfl, hA3⟩
  have hown3 := hown1.on hA3
  have hB3 := hB2.trans (hA3.mono hB2.size)
  have hs3 : w1.heap.size ≤ w3.heap.size := Nat.le_trans hA2.size hA3.size
  clear hr2 hT2 hA2 hA3 hown1 hB2
  go_wp2_with (at_builtin; refine wpList_append_lies _ (by rfl) _ _ _ (by rfl) w1.heap.size 26 i0 _ 4 16 Tryd.underlying22 hinf hz0 hz1 hz2 rfl (by omega) v1 q.length (dCells q) (by rfl) (hown3.alloc _) ⟨w3.heap.size, 0, none⟩ 1 1 [.int .u32 z.d0, .int .u32 z.d1, .int .u32 z.d2, .int .u32 z.d3] (by rfl) (by rfl) (World.news_of_block (cs := #[.int .u32 z.d0, .int .u32 z.d1, .int .u32 z.d2, .int .u32 z.d3]) (t := 26) (fr := (0, 0)) (heap_alloc_new w3 _)) (by simp [Value.oneCell']) (by omega) (by unfold maxLen; omega) (by omega) (by simp; omega) (w3.heap.size + 1) (by simp) ?_)
  intro gg gcap w4 hown4 hgrow hat hlt4
  have hB4 : Below w.heap.size w w4 := (hB3.alloc hB3.size _).grown hgrow (by simp; omega) (fun k hk => by have := (World.ownsRow.lt hown3 k hk).1; omega)
  have hO := OwnsD.snoc (d := z) hown4
  clear hown4 hgrow hat hown3
  go_wp2
  go_ret
  exact ⟨_, rfl, by rw [HE.out]; exact hO.low hs1, hB4⟩
set_option maxHeartbeats 4000000 in
set_option maxRecDepth 100000 in
theorem pon_cL (l : List D4) (m : Nat) (bw : Bool) (h2 : 2 ≤ l.length) (hle : l.length ≤ 1000000) (hok : allD4 l) (hm1 : 1 ≤ m) (hml : m ≤ l.length) (hne : m ≠ l.length) (hi : m ≤ half l.length) (hT : POnC (l.take (half l.length)) m bw) : POnC l m bw := by
  have _u := And.intro hm1 hml
  intro b o cap w hr hc hm hTk
  obtain ⟨n, hn⟩ : ∃ n, l.length = n := ⟨_, rfl⟩
  have hk1 := half_lt h2
  have hk0 := half_pos l.length
  obtain ⟨k, hk⟩ : ∃ k, half l.length = k := ⟨_, rfl⟩
  obtain ⟨q, hq⟩ : ∃ q, goesD (l.take k) m bw = q := ⟨_, rfl⟩
  obtain ⟨z, hz⟩ : ∃ z, rootD (l.drop k) = z := ⟨_, rfl⟩
  have hqn : q.length ≤ 21 := by rw [← hq]; exact goes_len pairS noneD 20 _ _ _ (by rw [List.length_take]; have : (2 : Nat) ^ 20 = 1048576 := (by decide); omega) (by omega) (by rw [List.length_take]; omega)
  have HE : Hid (goesD l m bw = q ++ [z]) := by show _ = _; rw [goesD, goes_left pairS noneD l m bw hne h2 hi, hk]; show goesD _ _ _ ++ [rootD _] = _; rw [hq, hz]
  rw [hk] at hk0 hk1 hT hi
  have hlt : (l.take k).length = k := by rw [List.length_take]; omega
  have hld : (l.drop k).length = n - k := by rw [List.length_drop, hn]
  have hD : CRootC (l.drop k) := croot_any _ (by rw [List.length_drop]; omega) (hok.drop k)
  rw [hn] at hk hk1 h2 hle hc hml hne
  have HZ := Lib.hid hz
  have HQ := Lib.hid hq
  have HK := Lib.hid hk
  have HLT := Lib.hid hlt
  have HLD := Lib.hid hld
  clear hz hq hk hlt hld
  rw [hn]
  clear hn
  have hcm : cap ≤ maxLen := hm
  have hcm2 : cap - k ≤ maxLen := by omega
  unfold maxLen at hm
  have hdi : decide ((m : Int) ≤ (k : Int)) = true := by simp; omega
  have hn1 : ((m : Int) == (n : Int)) = false := by simp; omega
  have hc1 : (l.take k).length ≤ cap := by rw [HLT.out]; omega
  have hc2 : (l.drop k).length ≤ cap - k := by rw [HLD.out]; omega
  obtain ⟨i0, hinf, hz0, hz1, hz2⟩ := info_parts info_dg
  go_enter Tryd.func36, Tryd.ntmps36
  go_wp2_with fail
  refine (split_any n k cap b o w h2 hle HK.out hc hcm).mono ?_
  rintro e w1 ⟨rfl, hA1⟩
  have hr1 := hr.on hA1
  have hT1 := hTk.below hA1
  have hs1 : w.heap.size ≤ w1.heap.size := hA1.size
  clear hr hTk
  go_wp2_with fail
  refine (pon_val _ _ _ hT q b o k cap _ w1 (hr1.take k) HLT.out.symm rfl hc1 hcm hT1 HQ.out).mono ?_
  rintro e w2 ⟨v1, rfl, hown1, hA2⟩
  have hB2 := hA1.trans (hA2.mono hA1.size)
  have hr2 := hr1.on hA2
  have hT2 := hT1.below hA2
  clear hr1 hT1 hA1
  go_wp2_with fail
  refine (croot_val _ hD z b (o + k * 4) (n - k) (cap - k) w2 (hr2.drop k) HLD.out.symm hc2 hcm2 hT2 HZ.out).mono ?_
  rintro e w3 ⟨rfl, hA3⟩
  have hown3 := hown1.on hA3
  have hB3 := hB2.trans (hA3.mono hB2.size)
  have hs3 : w1.heap.size ≤ w3.heap.size := Nat.le_trans hA2.size hA3.size
  clear hr2 hT2 hA2 hA3 hown1 hB2
  go_wp2_with (at_builtin; refine wpList_append_lies _ (by rfl) _ _ _ (by rfl) w1.heap.size 26 i0 _ 4 16 Tryd.underlying22 hinf hz0 hz1 hz2 rfl (by omega) v1 q.length (dCells q) (by rfl) (hown3.alloc _) ⟨w3.heap.size, 0, none⟩ 1 1 [.int .u32 z.d0, .int .u32 z.d1, .int .u32 z.d2, .int .u32 z.d3] (by rfl) (by rfl) (World.news_of_block (cs := #[.int .u32 z.d0, .int .u32 z.d1, .int .u32 z.d2, .int .u32 z.d3]) (t := 26) (fr := (0, 0)) (heap_alloc_new w3 _)) (by simp [Value.oneCell']) (by omega) (by unfold maxLen; omega) (by omega) (by simp; omega) (w3.heap.size + 1) (by simp) ?_)
  intro gg gcap w4 hown4 hgrow hat hlt4
  have hB4 : Below w.heap.size w w4 := (hB3.alloc hB3.size _).grown hgrow (by simp; omega) (fun k hk => by have := (World.ownsRow.lt hown3 k hk).1; omega)
  have hO := OwnsD.snoc (d := z) hown4
  clear hown4 hgrow hat hown3
  go_wp2
  go_ret
  exact ⟨_, rfl, by rw [HE.out]; exact hO.low hs1, hB4⟩
set_option maxHeartbeats 4000000 in
set_option maxRecDepth 100000 in
theorem pon_cR (l : List D4) (m : Nat) (bw : Bool) (h2 : 2 ≤ l.length) (hle : l.length ≤ 1000000) (hok : allD4 l) (hm1 : 1 ≤ m) (hml : m ≤ l.length) (hne : m ≠ l.length) (hi : ¬ m ≤ half l.length) (hT : POnC (l.drop (half l.length)) (m - half l.length) false) : POnC l m bw := by
  have _u := And.intro hm1 hml
  intro b o cap w hr hc hm hTk
  obtain ⟨n, hn⟩ : ∃ n, l.length = n := ⟨_, rfl⟩
  have hk1 := half_lt h2
  have hk0 := half_pos l.length
  obtain ⟨k, hk⟩ : ∃ k, half l.length = k := ⟨_, rfl⟩
  obtain ⟨q, hq⟩ : ∃ q, goesD (l.drop k) (m - k) false = q := ⟨_, rfl⟩
  obtain ⟨z, hz⟩ : ∃ z, rootD (l.take k) = z := ⟨_, rfl⟩
  have hqn : q.length ≤ 21 := by rw [← hq]; exact goes_len pairS noneD 20 _ _ _ (by rw [List.length_drop]; have : (2 : Nat) ^ 20 = 1048576 := (by decide); omega) (by omega) (by rw [List.length_drop]; omega)
  have HE : Hid (goesD l m bw = q ++ [z]) := by show _ = _; rw [goesD, goes_right pairS noneD l m bw hne h2 hi, hk]; show goesD _ _ _ ++ [rootD _] = _; rw [hq, hz]
  rw [hk] at hk0 hk1 hT hi
  have hlt : (l.take k).length = k := by rw [List.length_take]; omega
  have hld : (l.drop k).length = n - k := by rw [List.length_drop, hn]
  have hD : CRootC (l.take k) := croot_any _ (by rw [List.length_take]; omega) (hok.take k)
  rw [hn] at hk hk1 h2 hle hc hml hne
  have HZ := Lib.hid hz
  have HQ := Lib.hid hq
  have HK := Lib.hid hk
  have HLT := Lib.hid hlt
  have HLD := Lib.hid hld
  clear hz hq hk hlt hld
  rw [hn]
  clear hn
  have hcm : cap ≤ maxLen := hm
  have hcm2 : cap - k ≤ maxLen := by omega
  unfold maxLen at hm
  have hdi : decide ((m : Int) ≤ (k : Int)) = false := by simp; omega
  have hn1 : ((m : Int) == (n : Int)) = false := by simp; omega
  have hwr : IntKind.i64.wrap ((m : Int) - (k : Int)) = ((m - k : Nat) : Int) := by rw [IntWalk.i64_in _ (by omega)]; omega
  have hc1 : (l.take k).length ≤ cap := by rw [HLT.out]; omega
  have hc2 : (l.drop k).length ≤ cap - k := by rw [HLD.out]; omega
  obtain ⟨i0, hinf, hz0, hz1, hz2⟩ := info_parts info_dg
  go_enter Tryd.func36, Tryd.ntmps36
  go_wp2_with fail
  refine (split_any n k cap b o w h2 hle HK.out hc hcm).mono ?_
  rintro e w1 ⟨rfl, hA1⟩
  have hr1 := hr.on hA1
  have hT1 := hTk.below hA1
  have hs1 : w.heap.size ≤ w1.heap.size := hA1.size
  clear hr hTk
  go_wp2_with fail
  refine (pon_val _ _ _ hT q b (o + k * 4) (n - k) (cap - k) _ w1 (hr1.drop k) HLD.out.symm rfl hc2 hcm2 hT1 HQ.out).mono ?_
  rintro e w2 ⟨v1, rfl, hown1, hA2⟩
  have hB2 := hA1.trans (hA2.mono hA1.size)
  have hr2 := hr1.on hA2
  have hT2 := hT1.below hA2
  clear hr1 hT1 hA1
  go_wp2_with fail
  refine (croot_val _ hD z b o k cap w2 (hr2.take k) HLT.out.symm hc1 hcm hT2 HZ.out).mono ?_
  rintro e w3 ⟨rfl, hA3⟩
  have hown3 := hown1.on hA3
  have hB3 := hB2.trans (hA3.mono hB2.size)
  have hs3 : w1.heap.size ≤ w3.heap.size := Nat.le_trans hA2.size hA3.size
  clear hr2 hT2 hA2 hA3 hown1 hB2
  go_wp2_with (at_builtin; refine wpList_append_lies _ (by rfl) _ _ _ (by rfl) w1.heap.size 26 i0 _ 4 16 Tryd.underlying22 hinf hz0 hz1 hz2 rfl (by omega) v1 q.length (dCells q) (by rfl) (hown3.alloc _) ⟨w3.heap.size, 0, none⟩ 1 1 [.int .u32 z.d0, .int .u32 z.d1, .int .u32 z.d2, .int .u32 z.d3] (by rfl) (by rfl) (World.news_of_block (cs := #[.int .u32 z.d0, .int .u32 z.d1, .int .u32 z.d2, .int .u32 z.d3]) (t := 26) (fr := (0, 0)) (heap_alloc_new w3 _)) (by simp [Value.oneCell']) (by omega) (by unfold maxLen; omega) (by omega) (by simp; omega) (w3.heap.size + 1) (by simp) ?_)
  intro gg gcap w4 hown4 hgrow hat hlt4
  have hB4 : Below w.heap.size w w4 := (hB3.alloc hB3.size _).grown hgrow (by simp; omega) (fun k hk => by have := (World.ownsRow.lt hown3 k hk).1; omega)
  have hO := OwnsD.snoc (d := z) hown4
  clear hown4 hgrow hat hown3
  go_wp2
  go_ret
  exact ⟨_, rfl, by rw [HE.out]; exact hO.low hs1, hB4⟩
end Go.Proofs.YtnimbclnhgbdcaaDoor
