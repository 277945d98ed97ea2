/-
  The walks of WordRing and WordBits: each answers true, for any words; the memory that was there is as it was.
-/
import Derived.Test.YtefgaboalbaapaaDoorLawA
import Derived.Laws.BitsAllLaws
import Derived.Outline
namespace Go.Proofs.YtefgaboalbaapaaDoor
open Go.RowKit

theorem add_bd (a b : Int) : 0 ≤ (a + b) % 4294967296 ∧ (a + b) % 4294967296 < 4294967296 := by omega
theorem mod_bd (a : Int) : 0 ≤ a % 4294967296 ∧ a % 4294967296 < 4294967296 := by omega
theorem mul_mod_l (a b : Int) : (a % 4294967296 * b) % 4294967296 = (a * b) % 4294967296 := by
  rw [Int.mul_emod, Int.emod_emod, ← Int.mul_emod]
theorem mul_mod_r (a b : Int) : (a * (b % 4294967296)) % 4294967296 = (a * b) % 4294967296 := by
  rw [Int.mul_emod, Int.emod_emod, ← Int.mul_emod]
theorem app4 (a b : Int) : app 4 a b = (a + b) % 4294967296 := rfl
theorem app5 (a b : Int) : app 5 a b = (a - b) % 4294967296 := rfl
theorem app6 (a b : Int) : app 6 a b = (a * b) % 4294967296 := rfl

/-- The numbers that WordRing's calls answer, by name. -/
structure RingF (a b c s p d u v x y z : Int) : Prop where
  s1 : app 4 a b = s
  s2 : app 4 b a = s
  p1 : app 6 a b = p
  p2 : app 6 b a = p
  d1 : app 5 s b = a
  d2 : app 5 a b = d
  d3 : app 4 d b = a
  u1 : app 4 s c = u
  v1 : app 4 b c = v
  u2 : app 4 a v = u
  x1 : app 6 p c = x
  y1 : app 6 b c = y
  x2 : app 6 a y = x
  z1 : app 6 s c = z
theorem ringF (a b c : Int) (ha : 0 ≤ a) (ha' : a < 4294967296) :
    RingF a b c ((a + b) % 4294967296) ((a * b) % 4294967296) ((a - b) % 4294967296) ((a + b + c) % 4294967296) ((b + c) % 4294967296) ((a * b * c) % 4294967296) ((b * c) % 4294967296) (((a + b) * c) % 4294967296) where
  s1 := rfl
  s2 := by rw [app4]; omega
  p1 := rfl
  p2 := by rw [app6, Int.mul_comm]
  d1 := by rw [app5]; omega
  d2 := rfl
  d3 := by rw [app4]; omega
  u1 := by rw [app4]; omega
  v1 := rfl
  u2 := by rw [app4]; omega
  x1 := by rw [app6, mul_mod_l]
  y1 := rfl
  x2 := by rw [app6, mul_mod_r, Int.mul_assoc]
  z1 := by rw [app6, mul_mod_l]
theorem ring_last (a b c : Int) : app 4 ((a * c) % 4294967296) ((b * c) % 4294967296) = ((a + b) * c) % 4294967296 := by
  rw [app4, ← Int.add_emod, Int.add_mul]

set_option maxHeartbeats 1000000 in
theorem ring_walk (a b c s p d u v x y z t : Int) (w : World) (ha : 0 ≤ a) (ha' : a < 4294967296) (hb : 0 ≤ b) (hb' : b < 4294967296) (hc : 0 ≤ c) (hc' : c < 4294967296)
    (hs : 0 ≤ s ∧ s < 4294967296) (hp : 0 ≤ p ∧ p < 4294967296) (hd : 0 ≤ d ∧ d < 4294967296) (hv : 0 ≤ v ∧ v < 4294967296) (hy : 0 ≤ y ∧ y < 4294967296) (ht : 0 ≤ t ∧ t < 4294967296)
    (HF : Hid (RingF a b c s p d u v x y z)) (HT : Hid (app 6 a c = t)) (HL : Hid (app 4 t y = z)) :
    Calls Tryd.prog 7 #[.int .u32 a, .int .u32 b, .int .u32 c] w fun e w' => e = .returned (.bool true) ∧ Below w.heap.size w w' := by
  obtain ⟨hs0, hs1⟩ := hs
  obtain ⟨hp0, hp1⟩ := hp
  obtain ⟨hd0, hd1⟩ := hd
  obtain ⟨hv0, hv1⟩ := hv
  obtain ⟨hy0, hy1⟩ := hy
  obtain ⟨ht0, ht1⟩ := ht
  go_enter Tryd.func7, Tryd.ntmps7
  go_wp2_with fail
  refine (alive_any _).mono ?_
  rintro e w1 ⟨rfl, hB⟩
  go_wp2_with fail
  refine (of_val 4 a b s _ ha ha' hb hb' HF.out.s1).mono ?_
  rintro e w2 ⟨rfl, rfl⟩
  go_wp2_with fail
  refine (of_val 6 a b p _ ha ha' hb hb' HF.out.p1).mono ?_
  rintro e w2 ⟨rfl, rfl⟩
  go_wp2_with fail
  refine (of_val 4 b a s _ hb hb' ha ha' HF.out.s2).mono ?_
  rintro e w2 ⟨rfl, rfl⟩
  go_wp2_with fail
  refine (of_val 6 b a p _ hb hb' ha ha' HF.out.p2).mono ?_
  rintro e w2 ⟨rfl, rfl⟩
  go_wp2_with fail
  refine (of_val 5 s b a _ hs0 hs1 hb hb' HF.out.d1).mono ?_
  rintro e w2 ⟨rfl, rfl⟩
  go_wp2_with fail
  refine (of_val 5 a b d _ ha ha' hb hb' HF.out.d2).mono ?_
  rintro e w2 ⟨rfl, rfl⟩
  go_wp2_with fail
  refine (of_val 4 d b a _ hd0 hd1 hb hb' HF.out.d3).mono ?_
  rintro e w2 ⟨rfl, rfl⟩
  go_wp2_with fail
  refine (of_val 4 s c u _ hs0 hs1 hc hc' HF.out.u1).mono ?_
  rintro e w2 ⟨rfl, rfl⟩
  go_wp2_with fail
  refine (of_val 4 b c v _ hb hb' hc hc' HF.out.v1).mono ?_
  rintro e w2 ⟨rfl, rfl⟩
  go_wp2_with fail
  refine (of_val 4 a v u _ ha ha' hv0 hv1 HF.out.u2).mono ?_
  rintro e w2 ⟨rfl, rfl⟩
  go_wp2_with fail
  refine (of_val 6 p c x _ hp0 hp1 hc hc' HF.out.x1).mono ?_
  rintro e w2 ⟨rfl, rfl⟩
  go_wp2_with fail
  refine (of_val 6 b c y _ hb hb' hc hc' HF.out.y1).mono ?_
  rintro e w2 ⟨rfl, rfl⟩
  go_wp2_with fail
  refine (of_val 6 a y x _ ha ha' hy0 hy1 HF.out.x2).mono ?_
  rintro e w2 ⟨rfl, rfl⟩
  go_wp2_with fail
  refine (of_val 6 s c z _ hs0 hs1 hc hc' HF.out.z1).mono ?_
  rintro e w2 ⟨rfl, rfl⟩
  go_wp2_with fail
  refine (of_val 6 a c t _ ha ha' hc hc' HT.out).mono ?_
  rintro e w2 ⟨rfl, rfl⟩
  go_wp2_with fail
  refine (of_val 6 b c y _ hb hb' hc hc' HF.out.y1).mono ?_
  rintro e w2 ⟨rfl, rfl⟩
  go_wp2_with fail
  refine (of_val 4 t y z _ ht0 ht1 hy0 hy1 HL.out).mono ?_
  rintro e w2 ⟨rfl, rfl⟩
  go_wp2_with fail
  go_ret
  exact ⟨rfl, hB⟩
theorem ring_any (a b c : Int) (w : World) (ha : 0 ≤ a) (ha' : a < 4294967296) (hb : 0 ≤ b) (hb' : b < 4294967296) (hc : 0 ≤ c) (hc' : c < 4294967296) :
    Calls Tryd.prog 7 #[.int .u32 a, .int .u32 b, .int .u32 c] w fun e w' => e = .returned (.bool true) ∧ Below w.heap.size w w' :=
  ring_walk a b c _ _ _ _ _ _ _ _ ((a * c) % 4294967296) w ha ha' hb hb' hc hc' (mod_bd _) (mod_bd _) (mod_bd _) (mod_bd _) (mod_bd _) (mod_bd _) (ringF a b c ha ha') rfl (ring_last a b c)

/-! What bit by bit adds up to. -/
theorem and_or_nat (n : Nat) : ∀ a b : Nat, a < 2 ^ n → b < 2 ^ n → (a &&& b) + (a ||| b) = a + b ∧ (a ^^^ b) + (a &&& b) = a ||| b := by
  induction n with
  | zero =>
    intro a b ha hb
    obtain rfl : a = 0 := by simp at ha; exact ha
    obtain rfl : b = 0 := by simp at hb; exact hb
    decide
  | succ n ih =>
    intro a b ha hb
    rw [Nat.pow_succ] at ha hb
    obtain ⟨h1, h2⟩ := ih (a / 2) (b / 2) (by omega) (by omega)
    have d1 : (a &&& b) / 2 = a / 2 &&& b / 2 := Nat.and_div_two_pow (n := 1)
    have d2 : (a ||| b) / 2 = a / 2 ||| b / 2 := Nat.or_div_two_pow (n := 1)
    have d3 : (a ^^^ b) / 2 = a / 2 ^^^ b / 2 := Nat.xor_div_two_pow (n := 1)
    have m1 : (a &&& b) % 2 = (a % 2) &&& (b % 2) := Nat.and_mod_two_pow (n := 1)
    have m2 : (a ||| b) % 2 = (a % 2) ||| (b % 2) := Nat.or_mod_two_pow (n := 1)
    have m3 : (a ^^^ b) % 2 = (a % 2) ^^^ (b % 2) := Nat.xor_mod_two_pow (n := 1)
    rw [← d1, ← d2] at h1
    rw [← d3, ← d1, ← d2] at h2
    rcases Nat.mod_two_eq_zero_or_one a with ea | ea <;> rcases Nat.mod_two_eq_zero_or_one b with eb | eb <;> rw [ea, eb] at m1 m2 m3 <;> simp only [Nat.reduceAnd, Nat.reduceOr, Nat.reduceXor] at m1 m2 m3 <;> omega

theorem bits_facts (a b : Int) (ha : 0 ≤ a) (ha' : a < 4294967296) (hb : 0 ≤ b) (hb' : b < 4294967296) :
    (0 ≤ bits .and .u32 a b ∧ bits .and .u32 a b < 4294967296) ∧ (0 ≤ bits .or .u32 a b ∧ bits .or .u32 a b < 4294967296) ∧ (0 ≤ bits .xor .u32 a b ∧ bits .xor .u32 a b < 4294967296) ∧
      bits .and .u32 a b + bits .or .u32 a b = a + b ∧ bits .xor .u32 a b + bits .and .u32 a b = bits .or .u32 a b := by
  obtain ⟨x, rfl⟩ := Int.eq_ofNat_of_zero_le ha
  obtain ⟨y, rfl⟩ := Int.eq_ofNat_of_zero_le hb
  have hx : x < 2 ^ 32 := by omega
  have hy : y < 2 ^ 32 := by omega
  have n1 := (bits_nat .u32 32 (by decide) wraps_u32 x y hx hy).1
  have n2 := (bits_nat .u32 32 (by decide) wraps_u32 x y hx hy).2
  rw [n1, n2, bits_xor_nat x y hx hy]
  obtain ⟨e1, e2⟩ := and_or_nat 32 x y hx hy
  have l1 := Nat.and_lt_two_pow x hy
  have l2 := Nat.or_lt_two_pow hx hy
  have l3 := Nat.xor_lt_two_pow hx hy
  omega

theorem shl_far (a b : Int) (hb : 32 ≤ b) : app 12 a b = 0 := by
  have e : min b.toNat 32 = 32 := by omega
  have : app 12 a b = a * 2 ^ min b.toNat 32 % 4294967296 := rfl
  rw [this, e]; omega
theorem shr_far (a b : Int) (ha : 0 ≤ a) (ha' : a < 4294967296) (hb : 32 ≤ b) : app 13 a b = 0 := by
  have e : min b.toNat 32 = 32 := by omega
  have : app 13 a b = a / 2 ^ min b.toNat 32 := rfl
  rw [this, e]; omega
theorem pow_bd (k : Nat) (h : k ≤ 31) : (1 : Int) ≤ 2 ^ k ∧ (2 : Int) ^ k < 4294967296 := by
  have h1 : 1 ≤ 2 ^ k := Nat.one_le_two_pow
  have h2 : 2 ^ k ≤ 2 ^ 31 := Nat.pow_le_pow_right (by decide) h
  have h3 : ((2 ^ k : Nat) : Int) = 2 ^ k := by simp
  rw [← h3]; omega
theorem shl_near (a : Int) (k : Nat) (h : k ≤ 31) : app 12 a k = app 6 a (2 ^ k) := by
  have e : min ((k : Int)).toNat 32 = k := by omega
  have : app 12 a k = a * 2 ^ min ((k : Int)).toNat 32 % 4294967296 := rfl
  rw [this, e]; rfl
theorem shr_near (a : Int) (k : Nat) (h : k ≤ 31) : app 13 a k = app 7 a (2 ^ k) := by
  have e : min ((k : Int)).toNat 32 = k := by omega
  have : app 13 a k = a / 2 ^ min ((k : Int)).toNat 32 := rfl
  rw [this, e]; rfl

set_option maxHeartbeats 1000000 in
theorem bits_walk (a b x y z n : Int) (w : World) (ha : 0 ≤ a) (ha' : a < 4294967296) (hb : 0 ≤ b) (hb' : b < 4294967296) (hn : 0 ≤ n) (hn' : n < 256)
    (hx : app 9 a b = x) (hy : app 10 a b = y) (hz : app 11 a b = z) (hx0 : 0 ≤ x) (hx1 : x < 4294967296) (hy0 : 0 ≤ y) (hy1 : y < 4294967296) (hz0 : 0 ≤ z) (hz1 : z < 4294967296)
    (e1 : x + y = a + b) (e2 : z + x = y) :
    Calls Tryd.prog 9 #[.int .u32 a, .int .u32 b, .int .u8 n] w fun e w' => e = .returned (.bool true) ∧ Below w.heap.size w w' := by
  have HX := Lib.hid hx
  have HY := Lib.hid hy
  have HZ := Lib.hid hz
  have t1 : (x + y == a + b) = true := by rw [e1]; simp
  have t2 : (z + x == y) = true := by rw [e2]; simp
  have t1' : (x + y != a + b) = false := by rw [e1]; simp
  have t2' : (z + x != y) = false := by rw [e2]; simp
  clear hx hy hz e1 e2
  go_enter Tryd.func9, Tryd.ntmps9
  go_wp2_with fail
  refine (alive_any _).mono ?_
  rintro e w1 ⟨rfl, hB⟩
  go_wp2_with fail
  refine (of_val 9 a b x _ ha ha' hb hb' HX.out).mono ?_
  rintro e w2 ⟨rfl, rfl⟩
  go_wp2_with fail
  refine (of_val 10 a b y _ ha ha' hb hb' HY.out).mono ?_
  rintro e w2 ⟨rfl, rfl⟩
  go_wp2_with fail
  refine (of_val 11 a b z _ ha ha' hb hb' HZ.out).mono ?_
  rintro e w2 ⟨rfl, rfl⟩
  go_wp2_with fail
  clear t1 t2 t1' t2' HX HY HZ
  go_loop [11, 12] (fun pw i => ∃ (j : Nat) (q : Int), (j : Int) ≤ n % 32 ∧ i = .int .u32 j ∧ pw = .int .u32 q ∧ 1 ≤ q ∧ q < 4294967296 ∧ Hid (q = 2 ^ j)) (fun _ i => 32 - (intOf i).toNat)
  case atStart => exact ⟨0, 1, by omega, rfl, rfl, by omega, by omega, rfl⟩
  case round =>
    obtain ⟨j, q, hj, rfl, rfl, hq0, hq1, HQ⟩ := hrel
    by_cases hlt : (j : Int) < n % 32
    · have hb2 := pow_bd (j + 1) (by omega)
      have hq2 : 2 * q = 2 ^ (j + 1) := by rw [HQ.out, Int.pow_succ, Int.mul_comm]
      have hq3 : 2 * q < 4294967296 := by rw [hq2]; exact hb2.2
      have HQ2 := Lib.hid hq2
      clear hb2 hq2
      go_wp2
      go_round
      case rel => exact ⟨j + 1, 2 * q, by omega, by go_num, rfl, by omega, hq3, HQ2.out⟩
      case measure => simp [intOf]; omega
    · have hjn : (j : Int) = n % 32 := by omega
      have h1 : app 6 a q = app 12 a (n % 32) := by rw [HQ.out, ← hjn, shl_near a j (by omega)]
      have h2 : app 7 a q = app 13 a (n % 32) := by rw [HQ.out, ← hjn, shr_near a j (by omega)]
      have H1 := Lib.hid h1
      have H2 := Lib.hid h2
      clear h1 h2 hjn
      by_cases hf : n < 32
      all_goals
        go_wp2_with fail
        refine (of_val 12 a (n % 32) _ _ ha ha' (by omega) (by omega) rfl).mono ?_
        rintro e w2 ⟨rfl, rfl⟩
        go_wp2_with fail
        refine (of_val 6 a q _ _ ha ha' (by omega) (by omega) H1.out).mono ?_
        rintro e w2 ⟨rfl, rfl⟩
        go_wp2_with fail
        refine (of_val 13 a (n % 32) _ _ ha ha' (by omega) (by omega) rfl).mono ?_
        rintro e w2 ⟨rfl, rfl⟩
        go_wp2_with fail
        refine (of_val 7 a q _ _ ha ha' (by omega) (by omega) H2.out).mono ?_
        rintro e w2 ⟨rfl, rfl⟩
        go_wp2_with fail
        refine (of_val 12 a _ 0 _ ha ha' (by omega) (by omega) (shl_far a _ (by omega))).mono ?_
        rintro e w2 ⟨rfl, rfl⟩
        go_wp2_with fail
        refine (of_val 13 a _ 0 _ ha ha' (by omega) (by omega) (shr_far a _ ha ha' (by omega))).mono ?_
        rintro e w2 ⟨rfl, rfl⟩
        go_wp2_with fail
        go_ret
        exact ⟨rfl, hB⟩
theorem bits_any (a b n : Int) (w : World) (ha : 0 ≤ a) (ha' : a < 4294967296) (hb : 0 ≤ b) (hb' : b < 4294967296) (hn : 0 ≤ n) (hn' : n < 256) :
    Calls Tryd.prog 9 #[.int .u32 a, .int .u32 b, .int .u8 n] w fun e w' => e = .returned (.bool true) ∧ Below w.heap.size w w' := by
  obtain ⟨⟨h1, h2⟩, ⟨h3, h4⟩, ⟨h5, h6⟩, e1, e2⟩ := bits_facts a b ha ha' hb hb'
  exact bits_walk a b _ _ _ n w ha ha' hb hb' hn hn' rfl rfl rfl h1 h2 h3 h4 h5 h6 e1 e2
end Go.Proofs.YtefgaboalbaapaaDoor
