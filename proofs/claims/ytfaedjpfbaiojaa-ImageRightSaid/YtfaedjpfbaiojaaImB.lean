/-
  The document's Same of two images (written by gen_imB.py).
-/
import Derived.Test.YtfaedjpfbaiojaaImA
namespace Go.Proofs.Ytfaedjpfbaiojaa
open Go.RowKit

/-- Two images: alike? -/
def sameM (xs ys : List Int) (d e : Int) : Bool := d == e && xs == ys
theorem RdW.at {w : World} {p : Option Addr} {n c : Nat} {xs : List Int} (h : RdW w (.slice p n c) xs) {k : Nat} (hk : k < xs.length) : ∃ bk o, p = some ⟨bk, o, none⟩ ∧ w.cell? ⟨bk, o + k, none⟩ = some (.int .u32 xs[k]) := by
  obtain ⟨p', cap, hv, hp⟩ := h
  cases hv
  obtain ⟨bk, o, h1, h2, h3⟩ := hp (by omega)
  exact ⟨bk, o, h1, h3 k hk⟩
theorem take_all {xs ys : List Int} (hl : xs.length = ys.length) (h : ∀ j, j < xs.length → xs[j]? = ys[j]?) : xs = ys := by
  apply List.ext_getElem?
  intro j
  rcases Nat.lt_or_ge j xs.length with q | q
  · exact h j q
  · rw [List.getElem?_eq_none q, List.getElem?_eq_none (by omega)]
set_option maxHeartbeats 8000000 in
set_option maxRecDepth 100000 in
theorem same8_data (p p' : Option Addr) (n n' c c' : Nat) (xs ys : List Int) (d d' : Int) (w : World) (_hn : n = xs.length) (_hn' : n' = ys.length) (_hm : xs.length ≤ 1000000) (_hm' : ys.length ≤ 1000000) (_h1 : RdW w (.slice p n c) xs) (_h2 : RdW w (.slice p' n' c') ys) (hdd : (d == d') = false) : Calls Try.prog 14 #[.agg #[.slice p n c, .int .i64 d], .agg #[.slice p' n' c', .int .i64 d']] w fun e w' => e = .returned (.bool (sameM xs ys d d')) ∧ Below w.heap.size w w' := by
  have hd : (d == d') = false := hdd
  have HS : Hid (sameM xs ys d d' = false) := by show _ = _; unfold sameM; rw [hdd]; rfl
  clear hdd _h1 _h2 _hn _hn'
  obtain ⟨w1, hw1⟩ : ∃ w', w.alloc (.cells #[.slice p n c, .int .i64 d] 24) = w' := ⟨_, rfl⟩
  have hI : Box 24 w.heap.size [.slice p n c, .int .i64 d] w1 := by rw [← hw1]; exact Box.new 24 [.slice p n c, .int .i64 d] w
  have hD : Below w.heap.size w w1 := by rw [← hw1]; exact (Below.refl _ _).alloc (Nat.le_refl _) _
  have hB := hD
  clear hD
  obtain ⟨w2, hw2⟩ : ∃ w', w1.alloc (.cells #[.slice p' n' c', .int .i64 d'] 24) = w' := ⟨_, rfl⟩
  have hK : Box 24 w1.heap.size [.slice p' n' c', .int .i64 d'] w2 := by rw [← hw2]; exact Box.new 24 [.slice p' n' c', .int .i64 d'] w1
  have hD : Below w1.heap.size w1 w2 := by rw [← hw2]; exact (Below.refl _ _).alloc (Nat.le_refl _) _
  replace hI := hI.on hD
  replace hB := hB.trans (hD.mono hB.size)
  clear hD
  go_enter Try.func14, Try.ntmps14
  have chI0 := hI.cell (j := 0) (v := .slice p n c) rfl
  have chI1 := hI.cell (j := 1) (v := .int .i64 d) rfl
  have chK0 := hK.cell (j := 0) (v := .slice p' n' c') rfl
  have chK1 := hK.cell (j := 1) (v := .int .i64 d') rfl
  go_wp2_with fail
  clear hw1 hw2 chI0 chI1 chK0 chK1
  go_ret
  exact ⟨by rw [HS.out]; rfl, hB⟩
set_option maxHeartbeats 8000000 in
set_option maxRecDepth 100000 in
theorem same8_len (p p' : Option Addr) (n n' c c' : Nat) (xs ys : List Int) (d : Int) (w : World) (hn : n = xs.length) (hn' : n' = ys.length) (_hm : xs.length ≤ 1000000) (_hm' : ys.length ≤ 1000000) (_h1 : RdW w (.slice p n c) xs) (_h2 : RdW w (.slice p' n' c') ys) (hlen : ¬ n = n') : Calls Try.prog 14 #[.agg #[.slice p n c, .int .i64 d], .agg #[.slice p' n' c', .int .i64 d]] w fun e w' => e = .returned (.bool (sameM xs ys d d)) ∧ Below w.heap.size w w' := by
  have hnn : ((n : Int) == (n' : Int)) = false := by simp; omega
  have hne : ¬ xs = ys := fun e => hlen (by rw [hn, hn', e])
  have HS : Hid (sameM xs ys d d = false) := by show _ = _; unfold sameM; rw [beq_eq_false_iff_ne.2 hne, Bool.and_false]
  clear hne hlen _h1 _h2 hn hn'
  obtain ⟨w1, hw1⟩ : ∃ w', w.alloc (.cells #[.slice p n c, .int .i64 d] 24) = w' := ⟨_, rfl⟩
  have hI : Box 24 w.heap.size [.slice p n c, .int .i64 d] w1 := by rw [← hw1]; exact Box.new 24 [.slice p n c, .int .i64 d] w
  have hD : Below w.heap.size w w1 := by rw [← hw1]; exact (Below.refl _ _).alloc (Nat.le_refl _) _
  have hB := hD
  clear hD
  obtain ⟨w2, hw2⟩ : ∃ w', w1.alloc (.cells #[.slice p' n' c', .int .i64 d] 24) = w' := ⟨_, rfl⟩
  have hK : Box 24 w1.heap.size [.slice p' n' c', .int .i64 d] w2 := by rw [← hw2]; exact Box.new 24 [.slice p' n' c', .int .i64 d] w1
  have hD : Below w1.heap.size w1 w2 := by rw [← hw2]; exact (Below.refl _ _).alloc (Nat.le_refl _) _
  replace hI := hI.on hD
  replace hB := hB.trans (hD.mono hB.size)
  clear hD
  go_enter Try.func14, Try.ntmps14
  have chI0 := hI.cell (j := 0) (v := .slice p n c) rfl
  have chI1 := hI.cell (j := 1) (v := .int .i64 d) rfl
  have chK0 := hK.cell (j := 0) (v := .slice p' n' c') rfl
  have chK1 := hK.cell (j := 1) (v := .int .i64 d) rfl
  go_wp2_with fail
  clear hw1 hw2 chI0 chI1 chK0 chK1
  go_ret
  exact ⟨by rw [HS.out]; rfl, hB⟩
set_option maxHeartbeats 8000000 in
set_option maxRecDepth 100000 in
theorem same8_yes (p p' : Option Addr) (n c c' : Nat) (xs ys : List Int) (d : Int) (w : World) (hn : n = xs.length) (hl : n = ys.length) (hm : xs.length ≤ 1000000) (h1 : RdW w (.slice p n c) xs) (h2 : RdW w (.slice p' n c') ys) : Calls Try.prog 14 #[.agg #[.slice p n c, .int .i64 d], .agg #[.slice p' n c', .int .i64 d]] w fun e w' => e = .returned (.bool (sameM xs ys d d)) ∧ Below w.heap.size w w' := by
  have hnm : n ≤ 1000000 := by omega
  have HL := Lib.hid hl
  have HN := Lib.hid hn
  clear hl hn
  obtain ⟨w1, hw1⟩ : ∃ w', w.alloc (.cells #[.slice p n c, .int .i64 d] 24) = w' := ⟨_, rfl⟩
  have hI : Box 24 w.heap.size [.slice p n c, .int .i64 d] w1 := by rw [← hw1]; exact Box.new 24 [.slice p n c, .int .i64 d] w
  have hD : Below w.heap.size w w1 := by rw [← hw1]; exact (Below.refl _ _).alloc (Nat.le_refl _) _
  replace h1 := h1.on hD
  replace h2 := h2.on hD
  have hB := hD
  clear hD
  obtain ⟨w2, hw2⟩ : ∃ w', w1.alloc (.cells #[.slice p' n c', .int .i64 d] 24) = w' := ⟨_, rfl⟩
  have hK : Box 24 w1.heap.size [.slice p' n c', .int .i64 d] w2 := by rw [← hw2]; exact Box.new 24 [.slice p' n c', .int .i64 d] w1
  have hD : Below w1.heap.size w1 w2 := by rw [← hw2]; exact (Below.refl _ _).alloc (Nat.le_refl _) _
  replace hI := hI.on hD
  replace h1 := h1.on hD
  replace h2 := h2.on hD
  replace hB := hB.trans (hD.mono hB.size)
  clear hD
  go_enter Try.func14, Try.ntmps14
  have chI0 := hI.cell (j := 0) (v := .slice p n c) rfl
  have chI1 := hI.cell (j := 1) (v := .int .i64 d) rfl
  have chK0 := hK.cell (j := 0) (v := .slice p' n c') rfl
  have chK1 := hK.cell (j := 1) (v := .int .i64 d) rfl
  go_wp2_with fail
  clear hw1 hw2 chI0 chI1 chK0 chK1
  go_loopw [5] (fun i wr => ∃ k m : Nat, k ≤ n ∧ i = .int .i64 (k : Int) ∧ wr = w2.drewN m ∧ Hid (∀ j, j < k → xs[j]? = ys[j]?)) (fun i _ => n - (intOf i).toNat)
  case atStart => exact ⟨0, 0, Nat.zero_le _, rfl, rfl, fun j hj => by omega⟩
  case round =>
    obtain ⟨k, m, hk, rfl, rfl, HK⟩ := hrel
    have a0 := hI.cell (j := 0) (v := .slice p n c) rfl
    have a1 := hK.cell (j := 0) (v := .slice p' n c') rfl
    by_cases hlt : k < n
    · have hlt' : (k : Int) < (n : Int) := by omega
      have hk0 : (0 : Int) ≤ (k : Int) := by omega
      have hkd : decide ((k : Int) < (n : Int)) = true := decide_eq_true hlt'
      have hx := HN.out
      have hy := HL.out
      obtain ⟨b1, o1, rfl, c1⟩ := h1.at (k := k) (by omega)
      obtain ⟨b2, o2, rfl, c2⟩ := h2.at (k := k) (by omega)
      have e1 : xs[k]? = some xs[k] := List.getElem?_eq_getElem (by omega)
      have e2 : ys[k]? = some ys[k] := List.getElem?_eq_getElem (by omega)
      generalize hxk : xs[k] = x at c1 e1
      generalize hyk : ys[k] = y at c2 e2
      have E1 := Lib.hid e1
      have E2 := Lib.hid e2
      clear hx hy e1 e2 hxk hyk
      cases hq : (x == y)
      · have HF : Hid (sameM xs ys d d = false) := by
          show _ = _
          unfold sameM
          have hne : ¬ xs = ys := fun e => by
            have h3 := E1.out
            rw [e, E2.out] at h3
            have h4 := Option.some.inj h3
            rw [h4, beq_self_eq_true] at hq
            cases hq
          rw [beq_eq_false_iff_ne.2 hne, Bool.and_false]
        go_wp2
        go_quiet (fail)
        go_wp2
        go_ret
        exact ⟨by rw [HF.out]; rfl, below_dN (below_dN hB _) _⟩
      · have HKn : Hid (∀ j, j < k + 1 → xs[j]? = ys[j]?) := fun j hj => by
          rcases Nat.lt_or_ge j k with q | q
          · exact HK.out j q
          · have hjk : j = k := by omega
            rw [hjk, E1.out, E2.out, eq_of_beq hq]
        go_wp2
        go_quiet (fail)
        go_wp2
        go_roundw
        case rel => exact ⟨k + 1, _, by omega, by go_num, rfl, HKn⟩
        case measure => simp [intOf]; omega
    · have hkd : decide ((k : Int) < (n : Int)) = false := decide_eq_false (by omega)
      have HT : Hid (sameM xs ys d d = true) := by
        show _ = _
        have h3 := HN.out
        have h4 := HL.out
        have h5 : xs = ys := take_all (by omega) fun j hj => HK.out j (by omega)
        unfold sameM
        rw [h5]; simp
      go_wp2
      go_ret
      exact ⟨by rw [HT.out]; rfl, below_dN hB _⟩
theorem rsame8_any (p p' : Option Addr) (n n' c c' : Nat) (xs ys : List Int) (d d' : Int) (w : World) (hn : n = xs.length) (hn' : n' = ys.length) (hm : xs.length ≤ 1000000) (hm' : ys.length ≤ 1000000) (h1 : RdW w (.slice p n c) xs) (h2 : RdW w (.slice p' n' c') ys) : Calls Try.prog 14 #[.agg #[.slice p n c, .int .i64 d], .agg #[.slice p' n' c', .int .i64 d']] w fun e w' => e = .returned (.bool (sameM xs ys d d')) ∧ Below w.heap.size w w' := by
  cases hd : (d == d')
  · exact same8_data p p' n n' c c' xs ys d d' w hn hn' hm hm' h1 h2 hd
  · have hdd := eq_of_beq hd
    subst hdd
    by_cases hl : n = n'
    · subst hl
      exact same8_yes p p' n c c' xs ys d w hn hn' hm h1 h2
    · exact same8_len p p' n n' c c' xs ys d w hn hn' hm hm' h1 h2 hl
end Go.Proofs.Ytfaedjpfbaiojaa
