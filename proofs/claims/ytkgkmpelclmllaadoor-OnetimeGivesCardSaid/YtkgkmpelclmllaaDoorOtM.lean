/-
  The document's Public, Sign, Reach.
-/
import Derived.Test.YtkgkmpelclmllaaDoorOtL
import Derived.Test.YtkgkmpelclmllaaDoorOtF
import Derived.Test.YtkgkmpelclmllaaDoorOtJ
import Derived.Test.YtkgkmpelclmllaaDoorOtG
namespace Go.Proofs.YtkgkmpelclmllaaDoor
open Go.RowKit

theorem keep5 {B b1 o1 b2 o2 : Nat} {W w' : World} {u : Int} {x : D4} (h : Below B W w') (h1 : b1 < B) (h2 : b2 < B) (f : W.cell? ⟨b1, o1, none⟩ = some (.int .i64 u) ∧ W.cell? ⟨b2, o2, none⟩ = some (.int .u32 x.d0) ∧ W.cell? ⟨b2, o2 + 1, none⟩ = some (.int .u32 x.d1) ∧ W.cell? ⟨b2, o2 + 2, none⟩ = some (.int .u32 x.d2) ∧ W.cell? ⟨b2, o2 + 3, none⟩ = some (.int .u32 x.d3)) :
    w'.cell? ⟨b1, o1, none⟩ = some (.int .i64 u) ∧ w'.cell? ⟨b2, o2, none⟩ = some (.int .u32 x.d0) ∧ w'.cell? ⟨b2, o2 + 1, none⟩ = some (.int .u32 x.d1) ∧ w'.cell? ⟨b2, o2 + 2, none⟩ = some (.int .u32 x.d2) ∧ w'.cell? ⟨b2, o2 + 3, none⟩ = some (.int .u32 x.d3) := by
  obtain ⟨f0, f1, f2, f3, f4⟩ := f
  exact ⟨by rw [h.cell (p := ⟨_, _, none⟩) h1]; exact f0, by rw [h.cell (p := ⟨_, _, none⟩) h2]; exact f1, by rw [h.cell (p := ⟨_, _, none⟩) h2]; exact f2, by rw [h.cell (p := ⟨_, _, none⟩) h2]; exact f3, by rw [h.cell (p := ⟨_, _, none⟩) h2]; exact f4⟩
theorem OwnsD.lt {B : Nat} {v : Value} {l : List D4} {w : World} (h : OwnsD B v l w) {k : Nat} (hk : v.ownBlock = some k) : B ≤ k := (World.ownsRow.lt h k hk).1
theorem rsteps_val (d : D4) (N : List Nat) (w : World) (hd : d.ok) (hN : numL d = N) :
    Calls Tryd.prog 13 #[.agg #[.int .u32 d.d0, .int .u32 d.d1, .int .u32 d.d2, .int .u32 d.d3]] w fun e w' => ∃ g cap, e = .returned (.slice (some ⟨g, 0, none⟩) 35 cap) ∧ w.heap.size ≤ g ∧ 35 ≤ cap ∧ cap ≤ maxLen ∧ RdN w' g N ∧ Below w.heap.size w w' := by
  subst hN; exact rsteps_any d w hd

set_option maxHeartbeats 2000000 in
set_option maxRecDepth 100000 in
theorem rpublic_any (seed v : D4) (w : World) (hs : seed.ok) (hv : publicD seed = v) :
    Calls Tryd.prog 15 #[.agg #[.int .u32 seed.d0, .int .u32 seed.d1, .int .u32 seed.d2, .int .u32 seed.d3]] w fun e w' => e = .returned (.agg #[.int .u32 v.d0, .int .u32 v.d1, .int .u32 v.d2, .int .u32 v.d3]) ∧ Below w.heap.size w w' := by
  obtain ⟨i0, hinf, hz0, hz1, hz2⟩ := info_parts info_dg
  obtain ⟨f, hf⟩ : ∃ f, (fun i => walkD (beginD seed i) 15) = f := ⟨_, rfl⟩
  have HV : Hid (endsD (mapR f 35) = v) := by show _ = _; rw [← hv, publicD, hf]
  have HF : Hid (∀ i, f i = walkD (beginD seed i) 15) := fun i => by rw [← hf]
  obtain ⟨w0, hw0⟩ : ∃ w0, (w.alloc (.cells #[.int .u32 seed.d0, .int .u32 seed.d1, .int .u32 seed.d2, .int .u32 seed.d3] 24)).alloc (.cells #[.int .u32 0, .int .u32 0, .int .u32 0, .int .u32 0] 24) = w0 := ⟨_, rfl⟩
  obtain ⟨hS0, hR0, hB0⟩ := start46 seed w w0 hw0
  have hs1 := hS0.lt
  have hs2 := hR0.lt
  clear hv hf
  go_enter Tryd.func15, Tryd.ntmps15
  go_wp2_with fail
  clear hw0
  go_loopw [3, 4] (fun v i wr => ∃ k : Nat, k ≤ 35 ∧ i = .int .i64 (k : Int) ∧ OwnsD w0.heap.size v (mapR f k) wr ∧ Below w0.heap.size w0 wr) (fun _ i _ => 35 - (intOf i).toNat)
  case atStart => exact ⟨0, Nat.zero_le _, rfl, OwnsD.nil _ _, Below.refl _ _⟩
  case round =>
    obtain ⟨k, hk, rfl, hO, hC⟩ := hrel
    have hS := hS0.thr hC hs1
    obtain ⟨l0, l1, l2, l3⟩ := Arr.c4 hS
    by_cases hlt : k < 35
    · have hkd : decide ((k : Int) < 35) = true := by simp; omega
      obtain ⟨z, hz⟩ : ∃ z, beginD seed k = z := ⟨_, rfl⟩
      have hzo : z.ok := by rw [← hz]; exact beginD_ok hs (by omega)
      obtain ⟨y, hy⟩ : ∃ y, walkD z 15 = y := ⟨_, rfl⟩
      have HY : Hid (f k = y) := by show _ = _; rw [HF.out k, hz, hy]
      have HZ0 := Lib.hid hz
      have HY0 := Lib.hid hy
      have HZO := Lib.hid hzo
      have hml := mapR_len f k
      clear hz hy hzo
      go_wp2_with fail
      refine (rbegin_any seed z k wr hs (by omega) HZ0.out).mono ?_
      rintro e w1 ⟨rfl, hD⟩
      go_wp2_with fail
      refine (rwalk_any 15 15 z y w1 HZO.out (by omega) rfl HY0.out).mono ?_
      rintro e w2 ⟨rfl, hE⟩
      have hD2 := hD.trans (hE.mono hD.size)
      have hO2 := hO.on hD2
      have hC2 := hC.trans (hD2.mono hC.size)
      have hown2 : w2.ownsRow w0.heap.size 24 4 u3 (mapR f k).length (dCells (mapR f k)) := hO2
      have hbw := hC2.size
      clear hS hD hE hO hC hD2 l0 l1 l2 l3
      go_wp2_with (at_builtin; refine wpList_append_lies _ (by rfl) _ _ _ (by rfl) w0.heap.size 24 i0 _ 4 16 Tryd.underlying32 hinf hz0 hz1 hz2 rfl (by omega) u3 (mapR f k).length (dCells (mapR f k)) (by rfl) (hown2.alloc _) ⟨w2.heap.size, 0, none⟩ 1 1 [.int .u32 y.d0, .int .u32 y.d1, .int .u32 y.d2, .int .u32 y.d3] (by rfl) (by rfl) (World.news_of_block (cs := #[.int .u32 y.d0, .int .u32 y.d1, .int .u32 y.d2, .int .u32 y.d3]) (t := 24) (fr := (0, 0)) (heap_alloc_new w2 _)) (by simp [Value.oneCell']) (by omega) (by unfold maxLen; omega) (by omega) (by simp; omega) (w2.heap.size + 1) (by simp) ?_; intro gg gcap w3 hown3 hgrow hat hlt3)
      have hC3 : Below w0.heap.size w0 w3 := (hC2.alloc hbw _).grown hgrow (by simp; omega) (fun k hk => (World.ownsRow.lt hown2 k hk).1)
      have hO3 := OwnsD.snoc (d := y) hown3
      rw [← HY.out, ← mapR_succ, hml] at hO3
      clear hown3 hgrow hat hown2 hO2 hC2
      go_wp2
      go_roundw
      case rel => exact ⟨k + 1, by omega, by go_num, hO3, hC3⟩
      case measure => simp [intOf]; omega
    · have hk35 : k = 35 := by omega
      subst hk35
      obtain ⟨p, cap, rfl, hc, hm, hrd⟩ := hO.form
      have hml := mapR_len f 35
      rw [hml] at hc ⊢
      have hR := hR0.thr hC hs2
      have hB := hB0.trans (hC.mono hB0.size)
      have hok : allD4 (mapR f 35) := mapR_ok fun i _ => by rw [HF.out i]; exact walkD_ok (beginD_ok hs (by omega)) _
      have HOK := Lib.hid hok
      have HML := Lib.hid hml
      clear hO hS hC l0 l1 l2 l3 hok hml
      go_wp2_with fail
      refine (rof_list (mapR f 35) v p 35 cap wr HOK.out HML.out (by omega) hrd hc hm HV.out).mono ?_
      rintro e w2 ⟨rfl, hE⟩
      have hR2 := hR.on hE
      have hB2 := hB.trans (hE.mono hB.size)
      obtain ⟨b0, b1, b2, b3⟩ := Arr.c4 (d := zeroD) hR2
      obtain ⟨f0, f1, f2, f3⟩ := hR2.f4
      have hRf := put4 (d := v) hR2 rfl
      have hBf := below_put4 hB2 (show w.heap.size ≤ w.heap.size + 1 by omega) v
      clear hR hB hR2 hB2 hE hrd
      go_wp2_with fail
      generalize (((w2.setCell ⟨w.heap.size + 1, 0, none⟩ (.int .u32 v.d0)).setCell ⟨w.heap.size + 1, 1, none⟩ (.int .u32 v.d1)).setCell ⟨w.heap.size + 1, 2, none⟩ (.int .u32 v.d2)).setCell ⟨w.heap.size + 1, 3, none⟩ (.int .u32 v.d3) = wf at *
      obtain ⟨r0, r1, r2, r3⟩ := hRf.c4
      refine bodyPost_ret (v := v.val) (by simp [results, Tryd.results15, go_sem, D4.val, r0, r1, r2, r3]) rfl ⟨rfl, hBf⟩
end Go.Proofs.YtkgkmpelclmllaaDoor
