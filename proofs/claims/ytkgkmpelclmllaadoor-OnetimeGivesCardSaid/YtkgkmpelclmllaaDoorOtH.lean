/-
  The code's Check.
-/
import Derived.Test.YtkgkmpelclmllaaDoorOtG
namespace Go.Proofs.YtkgkmpelclmllaaDoor
open Go.RowKit

def checkV (pub msg : D4) (S : List D4) : Bool := is35 S && sameD (reachV msg S) pub
theorem reachV_ok {S : List D4} (msg : D4) (h : allD4 S) : (reachV msg S).ok := by
  unfold reachV
  split
  · exact reachD_ok msg h
  · simp [zeroD, D4.ok, isW]
set_option maxHeartbeats 2000000 in
set_option maxRecDepth 100000 in
theorem ccheck_any (pub msg : D4) (S : List D4) (q : Bool) (p : Option Addr) (n scap : Nat) (w : World) (hmo : msg.ok) (hSo : allD4 S) (hn : n = S.length) (hr : RdS w p S) (hsc : S.length ≤ scap) (hscm : scap ≤ maxLen) (hT : TurnsOk w) (hq : checkV pub msg S = q) :
    Calls Tryd.prog 20 #[.agg #[.int .u32 pub.d0, .int .u32 pub.d1, .int .u32 pub.d2, .int .u32 pub.d3], .agg #[.int .u32 msg.d0, .int .u32 msg.d1, .int .u32 msg.d2, .int .u32 msg.d3], .slice p n scap] w fun e w' => e = .returned (.bool q) ∧ Below w.heap.size w w' := by
  obtain ⟨v, hv⟩ : ∃ v, reachV msg S = v := ⟨_, rfl⟩
  obtain ⟨g, hg⟩ : ∃ g, is35 S = g := ⟨_, rfl⟩
  rw [checkV, hv, hg] at hq
  obtain ⟨s, hs⟩ : ∃ s, sameD v pub = s := ⟨_, rfl⟩
  rw [hs] at hq
  have hE := eqD_run v pub
  rw [hs] at hE
  have HQ := Lib.hid hq
  have HV := Lib.hid hv
  have HG := Lib.hid hg
  have HN := Lib.hid hn
  have HSo := Lib.hid hSo
  obtain ⟨w0, hw0⟩ : ∃ w0, (w.alloc (.cells #[.int .u32 pub.d0, .int .u32 pub.d1, .int .u32 pub.d2, .int .u32 pub.d3] 24)).alloc (.cells #[.int .u32 msg.d0, .int .u32 msg.d1, .int .u32 msg.d2, .int .u32 msg.d3] 24) = w0 := ⟨_, rfl⟩
  obtain ⟨hP0, hM0, hB0⟩ := start47 pub msg w w0 hw0
  have hT0 := hT.below hB0
  have hr0 : RdS w0 p S := fun h => by obtain ⟨b, o, e, h1⟩ := hr h; exact ⟨b, o, e, h1.on hB0⟩
  obtain ⟨m0, m1, m2, m3⟩ := Arr.c4 hM0
  clear hT hr hq hv hg hs hn hSo
  go_enter Tryd.func20, Tryd.ntmps20
  go_wp2_with fail
  clear hw0
  refine (creach_any msg v S g p n scap w0 hmo HSo.out HN.out hr0 hsc hscm hT0 HV.out HG.out).mono ?_
  rintro e w1 ⟨rfl, hD⟩
  have hP1 := hP0.on hD
  have hB1 := hB0.trans (hD.mono hB0.size)
  clear hP0 hM0 hB0 hT0 hr0 m0 m1 m2 m3 hD
  obtain ⟨w2, hw2⟩ : ∃ w2, w1.alloc (.cells #[.int .u32 v.d0, .int .u32 v.d1, .int .u32 v.d2, .int .u32 v.d3] 24) = w2 := ⟨_, rfl⟩
  have hX2 : Arr .u32 24 w1.heap.size v.toL w2 := by rw [← hw2]; exact heap_alloc_new w1 _
  have hD2 : Below w1.heap.size w1 w2 := by rw [← hw2]; exact (Below.refl _ _).alloc (Nat.le_refl _) _
  have hP2 := hP1.on hD2
  have hB2 := hB1.trans (hD2.mono hB1.size)
  obtain ⟨l0, l1, l2, l3⟩ := Arr.c4 hP2
  obtain ⟨m0, m1, m2, m3⟩ := Arr.c4 hX2
  clear hP1 hB1 hD2
  cases g
  · go_wp2_with fail
    go_ret
    exact ⟨by rw [← HQ.out]; rfl, hB2⟩
  · go_wp2_with fail
    go_ret
    exact ⟨by rw [← HQ.out]; rfl, hB2⟩
end Go.Proofs.YtkgkmpelclmllaaDoor
