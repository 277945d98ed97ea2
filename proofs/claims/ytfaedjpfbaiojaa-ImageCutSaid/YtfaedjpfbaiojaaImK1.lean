/-
  The code's Right, Same, Put; a prefix cut; mayHold (written by gen_imK.py).
-/
import Derived.Test.YtfaedjpfbaiojaaImC
import Derived.Test.YtfaedjpfbaiojaaImWd
namespace Go.Proofs.Ytfaedjpfbaiojaa
open Go.RowKit

set_option maxHeartbeats 8000000 in
set_option maxRecDepth 100000 in
theorem cright8_any (p : Option Addr) (n c : Nat) (d : Int) (w : World) : Calls Try.prog 11 #[.agg #[.slice p n c, .int .i64 d]] w fun e w' => e = .returned (.bool (rightM n d)) ∧ Below w.heap.size w w' := by
  obtain ⟨w1, hw1⟩ : ∃ w', w.alloc (.cells #[.slice p n c, .int .i64 d] 24) = w' := ⟨_, rfl⟩
  have hI : Box 24 w.heap.size [.slice p n c, .int .i64 d] w1 := by rw [← hw1]; exact Box.new 24 [.slice p n c, .int .i64 d] w
  have hD : Below w.heap.size w w1 := by rw [← hw1]; exact (Below.refl _ _).alloc (Nat.le_refl _) _
  have hB := hD
  clear hD
  have chI0 := hI.cell (j := 0) (v := .slice p n c) rfl
  have chI1 := hI.cell (j := 1) (v := .int .i64 d) rfl
  have hr : rightM n d = (decide ((n : Int) ≤ 16384) && (decide (0 ≤ d) && decide (d ≤ 32768))) := rfl
  rw [hr]
  clear hr
  cases h1 : decide ((n : Int) ≤ 16384) <;> cases h2 : decide (0 ≤ d) <;> cases h3 : decide (d ≤ 32768)
  all_goals
    go_enter Try.func11, Try.ntmps11
    go_wp2_with fail
    go_ret
    exact ⟨rfl, hB⟩
theorem cright8_val0 (p : Option Addr) (n cap : Nat) (d : Int) (g : Bool) (w : World) (h : rightM n d = g) : Calls Try.prog 11 #[.agg #[.slice p n cap, .int .i64 d]] w fun e w' => e = .returned (.bool g) ∧ Below w.heap.size w w' := by
  subst h; exact cright8_any p n cap d w
set_option maxHeartbeats 8000000 in
set_option maxRecDepth 100000 in
theorem equal_len (p p' : Option Addr) (n n' c c' : Nat) (xs ys : List Int) (w : World) (hn : n = xs.length) (hn' : n' = ys.length) (_hm : xs.length ≤ 1000000) (_hm' : ys.length ≤ 1000000) (_h1 : RdW w (.slice p n c) xs) (_h2 : RdW w (.slice p' n' c') ys) (hlen : ¬ n = n') : Calls Try.prog 19 #[.slice p n c, .slice p' n' c'] w fun e w' => e = .returned (.bool (xs == ys)) ∧ Below w.heap.size w w' := by
  have hnn : ((n : Int) == (n' : Int)) = false := by simp; omega
  have hnb : ((n : Int) != (n' : Int)) = true := by simp; omega
  have HS : Hid ((xs == ys) = false) := by
    show _ = _
    exact beq_eq_false_iff_ne.2 (fun e => hlen (by rw [hn, hn', e]))
  clear hlen _h1 _h2 hn hn'
  go_enter Try.func19, Try.ntmps19
  go_wp2_with fail
  go_ret
  exact ⟨by rw [HS.out]; rfl, Below.refl _ _⟩
set_option maxHeartbeats 8000000 in
set_option maxRecDepth 100000 in
theorem equal_yes (p p' : Option Addr) (n c c' : Nat) (xs ys : List Int) (w : World) (hn : n = xs.length) (hl : n = ys.length) (hm : xs.length ≤ 1000000) (h1 : RdW w (.slice p n c) xs) (h2 : RdW w (.slice p' n c') ys) : Calls Try.prog 19 #[.slice p n c, .slice p' n c'] w fun e w' => e = .returned (.bool (xs == ys)) ∧ Below w.heap.size w w' := by
  have hnm : n ≤ 1000000 := by omega
  have HL := Lib.hid hl
  have HN := Lib.hid hn
  clear hl hn
  go_enter Try.func19, Try.ntmps19
  go_wp2_with fail
  go_loopw [13] (fun i wr => ∃ k m : Nat, k ≤ n ∧ i = .int .i64 (k : Int) ∧ wr = w.drewN m ∧ Hid (∀ j, j < k → xs[j]? = ys[j]?)) (fun i _ => n - (intOf i).toNat)
  case atStart => exact ⟨0, 0, Nat.zero_le _, rfl, rfl, fun j hj => by omega⟩
  case round =>
    obtain ⟨k, m, hk, rfl, rfl, HK⟩ := hrel
    by_cases hlt : k < n
    · have hlt' : (k : Int) < (n : Int) := by omega
      have hk0 : (0 : Int) ≤ (k : Int) := by omega
      have hkd : decide ((k : Int) < (n : Int)) = true := decide_eq_true hlt'
      have hx := HN.out
      have hy := HL.out
      obtain ⟨b1, o1, rfl, c1⟩ := h1.at (k := k) (by omega)
      obtain ⟨b2, o2, rfl, c2⟩ := h2.at (k := k) (by omega)
      have e1 : xs[k]? = some xs[k] := List.getElem?_eq_getElem (by omega)
      have e2 : ys[k]? = some ys[k] := List.getElem?_eq_getElem (by omega)
      generalize hxk : xs[k] = x at c1 e1
      generalize hyk : ys[k] = y at c2 e2
      have E1 := Lib.hid e1
      have E2 := Lib.hid e2
      clear hx hy e1 e2 hxk hyk
      cases hq : (x == y)
      · have hqn : (x != y) = true := by simp [bne, hq]
        have HF : Hid ((xs == ys) = false) := by
          show _ = _
          have hne : ¬ xs = ys := fun e => by
            have h3 := E1.out
            rw [e, E2.out] at h3
            have h4 := Option.some.inj h3
            rw [h4, beq_self_eq_true] at hq
            cases hq
          exact beq_eq_false_iff_ne.2 hne
        go_wp2
        go_quiet (fail)
        go_wp2
        go_ret
        exact ⟨by rw [HF.out]; rfl, below_dN (below_dN (Below.refl _ _) _) _⟩
      · have hqn : (x != y) = false := by simp [bne, hq]
        have HKn : Hid (∀ j, j < k + 1 → xs[j]? = ys[j]?) := fun j hj => by
          rcases Nat.lt_or_ge j k with q | q
          · exact HK.out j q
          · have hjk : j = k := by omega
            rw [hjk, E1.out, E2.out, eq_of_beq hq]
        go_wp2
        go_quiet (fail)
        go_wp2
        go_roundw
        case rel => exact ⟨k + 1, _, by omega, by go_num, rfl, HKn⟩
        case measure => simp [intOf]; omega
    · have hkd : decide ((k : Int) < (n : Int)) = false := decide_eq_false (by omega)
      have HT : Hid ((xs == ys) = true) := by
        show _ = _
        have h3 := HN.out
        have h4 := HL.out
        have h5 : xs = ys := take_all (by omega) fun j hj => HK.out j (by omega)
        rw [h5]; simp
      go_wp2
      go_ret
      exact ⟨by rw [HT.out]; rfl, below_dN (Below.refl _ _) _⟩
theorem equal_val (p p' : Option Addr) (n n' c c' : Nat) (xs ys : List Int) (g : Bool) (w : World) (hn : n = xs.length) (hn' : n' = ys.length) (hm : xs.length ≤ 1000000) (hm' : ys.length ≤ 1000000) (h1 : RdW w (.slice p n c) xs) (h2 : RdW w (.slice p' n' c') ys) (hg : (xs == ys) = g) : Calls Try.prog 19 #[.slice p n c, .slice p' n' c'] w fun e w' => e = .returned (.bool g) ∧ Below w.heap.size w w' := by
  subst hg
  by_cases hl : n = n'
  · subst hl
    exact equal_yes p p' n c c' xs ys w hn hn' hm h1 h2
  · exact equal_len p p' n n' c c' xs ys w hn hn' hm hm' h1 h2 hl
set_option maxHeartbeats 8000000 in
set_option maxRecDepth 100000 in
theorem csame8_data (p p' : Option Addr) (n n' c c' : Nat) (xs ys : List Int) (d d' : Int) (w : World) (_hn : n = xs.length) (_hn' : n' = ys.length) (_hm : xs.length ≤ 1000000) (_hm' : ys.length ≤ 1000000) (_h1 : RdW w (.slice p n c) xs) (_h2 : RdW w (.slice p' n' c') ys) (hdd : (d == d') = false) : Calls Try.prog 13 #[.agg #[.slice p n c, .int .i64 d], .agg #[.slice p' n' c', .int .i64 d']] w fun e w' => e = .returned (.bool (sameM xs ys d d')) ∧ Below w.heap.size w w' := by
  have hd : (d == d') = false := hdd
  have HS : Hid (sameM xs ys d d' = false) := by show _ = _; unfold sameM; rw [hdd]; rfl
  clear hdd _h1 _h2 _hn _hn'
  obtain ⟨w1, hw1⟩ : ∃ w', w.alloc (.cells #[.slice p n c, .int .i64 d] 24) = w' := ⟨_, rfl⟩
  have hI : Box 24 w.heap.size [.slice p n c, .int .i64 d] w1 := by rw [← hw1]; exact Box.new 24 [.slice p n c, .int .i64 d] w
  have hD : Below w.heap.size w w1 := by rw [← hw1]; exact (Below.refl _ _).alloc (Nat.le_refl _) _
  have hB := hD
  clear hD
  obtain ⟨w2, hw2⟩ : ∃ w', w1.alloc (.cells #[.slice p' n' c', .int .i64 d'] 24) = w' := ⟨_, rfl⟩
  have hK : Box 24 w1.heap.size [.slice p' n' c', .int .i64 d'] w2 := by rw [← hw2]; exact Box.new 24 [.slice p' n' c', .int .i64 d'] w1
  have hD : Below w1.heap.size w1 w2 := by rw [← hw2]; exact (Below.refl _ _).alloc (Nat.le_refl _) _
  replace hI := hI.on hD
  replace hB := hB.trans (hD.mono hB.size)
  clear hD
  go_enter Try.func13, Try.ntmps13
  have chI0 := hI.cell (j := 0) (v := .slice p n c) rfl
  have chI1 := hI.cell (j := 1) (v := .int .i64 d) rfl
  have chK0 := hK.cell (j := 0) (v := .slice p' n' c') rfl
  have chK1 := hK.cell (j := 1) (v := .int .i64 d') rfl
  go_wp2_with fail
  clear hw1 hw2 chI0 chI1 chK0 chK1
  go_ret
  exact ⟨by rw [HS.out]; rfl, hB⟩
set_option maxHeartbeats 8000000 in
set_option maxRecDepth 100000 in
theorem csame8_true (p p' : Option Addr) (n n' c c' : Nat) (xs ys : List Int) (d d' : Int) (w : World) (hn : n = xs.length) (hn' : n' = ys.length) (hm : xs.length ≤ 1000000) (hm' : ys.length ≤ 1000000) (h1 : RdW w (.slice p n c) xs) (h2 : RdW w (.slice p' n' c') ys) (hdd : (d == d') = true) (hq : (xs == ys) = true) : Calls Try.prog 13 #[.agg #[.slice p n c, .int .i64 d], .agg #[.slice p' n' c', .int .i64 d']] w fun e w' => e = .returned (.bool (sameM xs ys d d')) ∧ Below w.heap.size w w' := by
  have hd : (d == d') = true := hdd
  have HS : Hid (sameM xs ys d d' = true) := by show _ = _; unfold sameM; rw [hdd, hq]; rfl
  have HN := Lib.hid hn
  have HN' := Lib.hid hn'
  have HQ := Lib.hid hq
  clear hdd hn hn' hq
  obtain ⟨w1, hw1⟩ : ∃ w', w.alloc (.cells #[.slice p n c, .int .i64 d] 24) = w' := ⟨_, rfl⟩
  have hI : Box 24 w.heap.size [.slice p n c, .int .i64 d] w1 := by rw [← hw1]; exact Box.new 24 [.slice p n c, .int .i64 d] w
  have hD : Below w.heap.size w w1 := by rw [← hw1]; exact (Below.refl _ _).alloc (Nat.le_refl _) _
  replace h1 := h1.on hD
  replace h2 := h2.on hD
  have hB := hD
  clear hD
  obtain ⟨w2, hw2⟩ : ∃ w', w1.alloc (.cells #[.slice p' n' c', .int .i64 d'] 24) = w' := ⟨_, rfl⟩
  have hK : Box 24 w1.heap.size [.slice p' n' c', .int .i64 d'] w2 := by rw [← hw2]; exact Box.new 24 [.slice p' n' c', .int .i64 d'] w1
  have hD : Below w1.heap.size w1 w2 := by rw [← hw2]; exact (Below.refl _ _).alloc (Nat.le_refl _) _
  replace hI := hI.on hD
  replace h1 := h1.on hD
  replace h2 := h2.on hD
  replace hB := hB.trans (hD.mono hB.size)
  clear hD
  go_enter Try.func13, Try.ntmps13
  have chI0 := hI.cell (j := 0) (v := .slice p n c) rfl
  have chI1 := hI.cell (j := 1) (v := .int .i64 d) rfl
  have chK0 := hK.cell (j := 0) (v := .slice p' n' c') rfl
  have chK1 := hK.cell (j := 1) (v := .int .i64 d') rfl
  go_wp2_with fail
  clear hw1 hw2 chI0 chI1 chK0 chK1
  refine (equal_val p p' n n' c c' xs ys true w2 HN.out HN'.out hm hm' h1 h2 HQ.out).mono ?_
  rintro e w3 ⟨rfl, hD⟩
  replace hI := hI.on hD
  replace hK := hK.on hD
  replace h1 := h1.on hD
  replace h2 := h2.on hD
  replace hB := hB.trans (hD.mono hB.size)
  clear hD
  go_wp2_with fail
  go_ret
  exact ⟨by rw [HS.out]; rfl, hB⟩
set_option maxHeartbeats 8000000 in
set_option maxRecDepth 100000 in
theorem csame8_false (p p' : Option Addr) (n n' c c' : Nat) (xs ys : List Int) (d d' : Int) (w : World) (hn : n = xs.length) (hn' : n' = ys.length) (hm : xs.length ≤ 1000000) (hm' : ys.length ≤ 1000000) (h1 : RdW w (.slice p n c) xs) (h2 : RdW w (.slice p' n' c') ys) (hdd : (d == d') = true) (hq : (xs == ys) = false) : Calls Try.prog 13 #[.agg #[.slice p n c, .int .i64 d], .agg #[.slice p' n' c', .int .i64 d']] w fun e w' => e = .returned (.bool (sameM xs ys d d')) ∧ Below w.heap.size w w' := by
  have hd : (d == d') = true := hdd
  have HS : Hid (sameM xs ys d d' = false) := by show _ = _; unfold sameM; rw [hdd, hq]; rfl
  have HN := Lib.hid hn
  have HN' := Lib.hid hn'
  have HQ := Lib.hid hq
  clear hdd hn hn' hq
  obtain ⟨w1, hw1⟩ : ∃ w', w.alloc (.cells #[.slice p n c, .int .i64 d] 24) = w' := ⟨_, rfl⟩
  have hI : Box 24 w.heap.size [.slice p n c, .int .i64 d] w1 := by rw [← hw1]; exact Box.new 24 [.slice p n c, .int .i64 d] w
  have hD : Below w.heap.size w w1 := by rw [← hw1]; exact (Below.refl _ _).alloc (Nat.le_refl _) _
  replace h1 := h1.on hD
  replace h2 := h2.on hD
  have hB := hD
  clear hD
  obtain ⟨w2, hw2⟩ : ∃ w', w1.alloc (.cells #[.slice p' n' c', .int .i64 d'] 24) = w' := ⟨_, rfl⟩
  have hK : Box 24 w1.heap.size [.slice p' n' c', .int .i64 d'] w2 := by rw [← hw2]; exact Box.new 24 [.slice p' n' c', .int .i64 d'] w1
  have hD : Below w1.heap.size w1 w2 := by rw [← hw2]; exact (Below.refl _ _).alloc (Nat.le_refl _) _
  replace hI := hI.on hD
  replace h1 := h1.on hD
  replace h2 := h2.on hD
  replace hB := hB.trans (hD.mono hB.size)
  clear hD
  go_enter Try.func13, Try.ntmps13
  have chI0 := hI.cell (j := 0) (v := .slice p n c) rfl
  have chI1 := hI.cell (j := 1) (v := .int .i64 d) rfl
  have chK0 := hK.cell (j := 0) (v := .slice p' n' c') rfl
  have chK1 := hK.cell (j := 1) (v := .int .i64 d') rfl
  go_wp2_with fail
  clear hw1 hw2 chI0 chI1 chK0 chK1
  refine (equal_val p p' n n' c c' xs ys false w2 HN.out HN'.out hm hm' h1 h2 HQ.out).mono ?_
  rintro e w3 ⟨rfl, hD⟩
  replace hI := hI.on hD
  replace hK := hK.on hD
  replace h1 := h1.on hD
  replace h2 := h2.on hD
  replace hB := hB.trans (hD.mono hB.size)
  clear hD
  go_wp2_with fail
  go_ret
  exact ⟨by rw [HS.out]; rfl, hB⟩
theorem csame8_any (p p' : Option Addr) (n n' c c' : Nat) (xs ys : List Int) (d d' : Int) (w : World) (hn : n = xs.length) (hn' : n' = ys.length) (hm : xs.length ≤ 1000000) (hm' : ys.length ≤ 1000000) (h1 : RdW w (.slice p n c) xs) (h2 : RdW w (.slice p' n' c') ys) (_hc : n ≤ c) (_hcm : c ≤ maxLen) (_hc' : n' ≤ c') (_hcm' : c' ≤ maxLen) : Calls Try.prog 13 #[.agg #[.slice p n c, .int .i64 d], .agg #[.slice p' n' c', .int .i64 d']] w fun e w' => e = .returned (.bool (sameM xs ys d d')) ∧ Below w.heap.size w w' := by
  cases hd : (d == d')
  · exact csame8_data p p' n n' c c' xs ys d d' w hn hn' hm hm' h1 h2 hd
  · cases hq : (xs == ys)
    · exact csame8_false p p' n n' c c' xs ys d d' w hn hn' hm hm' h1 h2 hd hq
    · exact csame8_true p p' n n' c c' xs ys d d' w hn hn' hm hm' h1 h2 hd hq
set_option maxHeartbeats 8000000 in
set_option maxRecDepth 100000 in
theorem cput8_no (p : Option Addr) (n c : Nat) (d : Int) (w : World) (h : rightM n d = false) : Calls Try.prog 15 #[.agg #[.slice p n c, .int .i64 d]] w fun e w' => e = .returned (.tuple #[.string ⟨#[]⟩, .int .i64 1]) ∧ Below w.heap.size w w' := by
  have H := Lib.hid h
  clear h
  obtain ⟨w1, hw1⟩ : ∃ w', w.alloc (.cells #[.slice p n c, .int .i64 d] 24) = w' := ⟨_, rfl⟩
  have hI : Box 24 w.heap.size [.slice p n c, .int .i64 d] w1 := by rw [← hw1]; exact Box.new 24 [.slice p n c, .int .i64 d] w
  have hD : Below w.heap.size w w1 := by rw [← hw1]; exact (Below.refl _ _).alloc (Nat.le_refl _) _
  have hB := hD
  clear hD
  go_enter Try.func15, Try.ntmps15
  have chI0 := hI.cell (j := 0) (v := .slice p n c) rfl
  have chI1 := hI.cell (j := 1) (v := .int .i64 d) rfl
  go_wp2_with fail
  clear hw1 chI0 chI1
  refine (cright8_val0 p n c d false w1 H.out).mono ?_
  rintro e w2 ⟨rfl, hD⟩
  replace hI := hI.on hD
  replace hB := hB.trans (hD.mono hB.size)
  clear hD
  go_wp2_with fail
  refine bodyPost_ret (v := .tuple #[.string ⟨#[]⟩, .int .i64 1]) (by simp [results, Try.results15, go_sem]) rfl ⟨rfl, hB⟩
set_option maxHeartbeats 8000000 in
set_option maxRecDepth 100000 in
theorem cput8_yes (p : Option Addr) (n c : Nat) (d : Int) (xs : List Int) (w : World) (hn : n = xs.length) (hb : Bd xs) (hX : RdW w (.slice p n c) xs) (h : rightM n d = true) : Calls Try.prog 15 #[.agg #[.slice p n c, .int .i64 d]] w fun e w' => e = .returned (.tuple #[.string ⟨(putL d xs).toArray⟩, .int .i64 0]) ∧ Below w.heap.size w w' := by
  obtain ⟨hn0, hd0, hd1⟩ : n ≤ 16384 ∧ 0 ≤ d ∧ d ≤ 32768 := by unfold rightM at h; simp at h; omega
  have hwn : IntKind.u32.wrap (n : Int) = (n : Int) := by rw [IntKind.wrap_u32]; omega
  have hwd : IntKind.u32.wrap d = d := by rw [IntKind.wrap_u32]; omega
  have HX0 : Hid (xs.length ≤ 16384) := by show _ ≤ _; omega
  have HX1 : Hid (xs.length ≤ 1000000) := by show _ ≤ _; omega
  have HX2 := Lib.hid hb
  have H := Lib.hid h
  have HN := Lib.hid hn
  have hb2 : Bd [(n : Int), d] := fun x hx => by simp at hx; omega
  have HB2 := Lib.hid hb2
  have HL2 : Hid ([(n : Int), d].length ≤ 1000000) := by show 2 ≤ 1000000; decide
  clear h hn hb hb2 hn0 hd0 hd1
  obtain ⟨w1, hw1⟩ : ∃ w', w.alloc (.cells #[.slice p n c, .int .i64 d] 24) = w' := ⟨_, rfl⟩
  have hI : Box 24 w.heap.size [.slice p n c, .int .i64 d] w1 := by rw [← hw1]; exact Box.new 24 [.slice p n c, .int .i64 d] w
  have hD : Below w.heap.size w w1 := by rw [← hw1]; exact (Below.refl _ _).alloc (Nat.le_refl _) _
  replace hX := hX.on hD
  have hB := hD
  clear hD
  go_enter Try.func15, Try.ntmps15
  have chI0 := hI.cell (j := 0) (v := .slice p n c) rfl
  have chI1 := hI.cell (j := 1) (v := .int .i64 d) rfl
  go_wp2_with fail
  clear hw1 chI0 chI1
  refine (cright8_val0 p n c d true w1 H.out).mono ?_
  rintro e w2 ⟨rfl, hD⟩
  replace hI := hI.on hD
  replace hX := hX.on hD
  replace hB := hB.trans (hD.mono hB.size)
  clear hD
  have hR2 : RdW (w2.alloc (.cells #[.int .u32 (n : Int), .int .u32 d] 35)) (.slice (some ⟨w2.heap.size, 0, none⟩) 2 2) [(n : Int), d] := two_new w2 35 n d
  have chI0 := hI.cell (j := 0) (v := .slice p n c) rfl
  have chI1 := hI.cell (j := 1) (v := .int .i64 d) rfl
  obtain ⟨w3, hw3⟩ : ∃ w', w2.alloc (.cells #[.int .u32 (n : Int), .int .u32 d] 35) = w' := ⟨_, rfl⟩
  have hC : Box 35 w2.heap.size [.int .u32 (n : Int), .int .u32 d] w3 := by rw [← hw3]; exact Box.new 35 [.int .u32 (n : Int), .int .u32 d] w2
  have hD : Below w2.heap.size w2 w3 := by rw [← hw3]; exact (Below.refl _ _).alloc (Nat.le_refl _) _
  replace hI := hI.on hD
  replace hX := hX.on hD
  replace hB := hB.trans (hD.mono hB.size)
  clear hD
  replace hR2 : RdW w3 (.slice (some ⟨w2.heap.size, 0, none⟩) 2 2) [(n : Int), d] := by rw [← hw3]; exact hR2
  have hXa : RdW w3.drew (.slice p n c) xs := hX
  have hRa : RdW w3.drew (.slice (some ⟨w2.heap.size, 0, none⟩) 2 2) [(n : Int), d] := hR2
  obtain ⟨t1, ht1⟩ : ∃ t : ByteArray, t = ⟨(wbytes [(n : Int), d]).toArray⟩ := ⟨_, rfl⟩
  obtain ⟨t2, ht2⟩ : ∃ t : ByteArray, t = ⟨(wbytes xs).toArray⟩ := ⟨_, rfl⟩
  have hz1 : t1.size ≤ 8 := by rw [ht1]; show (wbytes _).toArray.size ≤ 8; rw [List.size_toArray, wbytes_length]; exact Nat.le_refl _
  have hz2 : t2.size ≤ 65536 := by rw [ht2]; show (wbytes _).toArray.size ≤ _; rw [List.size_toArray, wbytes_length]; have := HX0.out; omega
  have hq1 : ¬ 9223372036854775807 < 4 + t1.size := by omega
  have hq2 : ¬ 9223372036854775807 < 4 + t1.size + t2.size := by omega
  have HF : Hid ((⟨#[83, 69, 69, 68]⟩ ++ t1) ++ t2 = ⟨(putL d xs).toArray⟩) := by show _ = _; rw [ht1, ht2]; exact put_eq n d xs HN.out
  have HT1 := Lib.hid ht1
  have HT2 := Lib.hid ht2
  clear ht1 ht2 hX hR2
  replace hI : Box 24 (w.heap.size) [.slice p n c, .int .i64 d] w3.drew := hI
  have HS0 : Hid (w3.drew.cell? ⟨w.heap.size, 0, none⟩ = some (.slice p n c) ∧ w3.drew.cell? ⟨w.heap.size, 1, none⟩ = some (.int .i64 d)) := ⟨hI.cell rfl, hI.cell rfl⟩
  have g0 := hI.lt
  replace hB : Below w.heap.size w w3.drew := hB.drew
  have hCur : Below w3.drew.heap.size w3.drew w3.drew := Below.refl _ _
  have hszB := hB.size
  clear hI
  go_wp2_with fail
  clear chI0 chI1 hw3
  go_region_held3 (fun w' => w'.cell? ⟨w.heap.size, 0, none⟩ = some (.slice p n c) ∧ w'.cell? ⟨w.heap.size, 1, none⟩ = some (.int .i64 d))
    (first
      | exact keepM hCur g0 HS0.out)
    (first
      | (go_at_call 20; (with_reducible refine (bytes_rd (.slice (some ⟨w2.heap.size, 0, none⟩) 2 2) [(n : Int), d] t1 _ HL2.out HB2.out (hRa.on hCur) HT1.out).mono ?_); rintro e wb ⟨rfl, hP⟩; have hCur := hCur.trans (hP.mono hCur.size))
      | (go_at_call 20; (with_reducible refine (bytes_rd (.slice p n c) xs t2 _ HX1.out HX2.out (hXa.on hCur) HT2.out).mono ?_); rintro e wb ⟨rfl, hP⟩; have hCur := hCur.trans (hP.mono hCur.size)))
  all_goals
    go_wp2_with fail
    refine bodyPost_ret (v := .tuple #[.string ((⟨#[83, 69, 69, 68]⟩ ++ t1) ++ t2), .int .i64 0]) (by simp [results, Try.results15, go_sem]) rfl ⟨by rw [HF.out], hB.trans (hCur.mono hszB)⟩
end Go.Proofs.Ytfaedjpfbaiojaa
