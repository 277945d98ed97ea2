/-
  Trees of one-time keys: plain mathematics; the document's Seed and Keys.
-/
import Derived.Test.YtdphhpmkcalahaaDoorRfB
import Derived.Test.YtdphhpmkcalahaaDoorOtC2
import Derived.Test.YtdphhpmkcalahaaDoorMkC1
namespace Go.Proofs.YtdphhpmkcalahaaDoor
open Go.RowKit

def seedB (s : D4) (i : Nat) : List UInt8 := 107 :: wbytes [s.d0, s.d1, s.d2, s.d3, (i : Int)]
theorem seedB_len (s : D4) (i : Nat) : (seedB s i).length = 21 := by simp [seedB, wbytes_length]
/-- The seed of a key. -/
def seedK (s : D4) (i : Nat) : D4 := ofD (seedB s i)
theorem seedK_ok (s : D4) (i : Nat) : (seedK s i).ok := ofD_ok _ (by rw [seedB_len]; decide)
/-- All one-time public keys, in order. -/
def keyK (s : D4) (i : Nat) : D4 := publicD (seedK s i)
theorem keyK_ok (s : D4) (i : Nat) : (keyK s i).ok := publicD_ok (seedK_ok s i)
def keysL (s : D4) (h : Nat) : List D4 := mapR (keyK s) (2 ^ h)
theorem keysL_len (s : D4) (h : Nat) : (keysL s h).length = 2 ^ h := mapR_len _ _
theorem keysL_ok (s : D4) (h : Nat) : allD4 (keysL s h) := mapR_ok fun i _ => keyK_ok s i
def pubK (s : D4) (h : Nat) : D4 := rootD (keysL s h)
theorem pubK_ok (s : D4) (h : Nat) : (pubK s h).ok := rootD_ok _ _ rfl (keysL_ok s h)

theorem refBytes_named (b o n cap : Nat) (xs : List Int) (t : ByteArray) (w : World) (hn : n = xs.length) (hl : xs.length ≤ 1000000) (hx : ∀ (k : Nat) (h : k < xs.length), 0 ≤ xs[k] ∧ xs[k] < 4294967296) (hb : b < w.heap.size) (hc : ∀ (k : Nat) (h : k < xs.length), w.cell? ⟨b, o + k, none⟩ = some (.int .u32 xs[k])) (ht : t.data.toList = wbytes xs) :
    Calls Tryd.prog 45 #[.slice (some ⟨b, o, none⟩) n cap] w fun e w' => e = .returned (.string t) ∧ Below w.heap.size w w' := by
  subst hn
  rw [show t = ⟨(wbytes xs).toArray⟩ by rw [← ht]]
  exact refBytes_any (some ⟨b, o, none⟩) xs cap w hl hx (fun _ => ⟨b, o, rfl, hb, hc⟩)
theorem rof_named (t : ByteArray) (y : D4) (w : World) (hs : t.size ≤ 100000) (hy : ofD t.data.toList = y) : Calls Tryd.prog 44 #[.string t] w fun e w' => e = .returned (.agg #[.int .u32 y.d0, .int .u32 y.d1, .int .u32 y.d2, .int .u32 y.d3]) ∧ Below w.heap.size w w' := by
  subst hy; exact rof_any t w hs
set_option maxHeartbeats 2000000 in
set_option maxRecDepth 100000 in
theorem rseed_any (s z : D4) (i : Nat) (w : World) (hs : s.ok) (hi : i ≤ 1000) (hz : seedK s i = z) :
    Calls Tryd.prog 25 #[.agg #[.int .u32 s.d0, .int .u32 s.d1, .int .u32 s.d2, .int .u32 s.d3], .int .i64 (i : Int)] w fun e w' => e = .returned (.agg #[.int .u32 z.d0, .int .u32 z.d1, .int .u32 z.d2, .int .u32 z.d3]) ∧ Below w.heap.size w w' := by
  obtain ⟨t, ht⟩ : ∃ t : ByteArray, t.data.toList = wbytes [s.d0, s.d1, s.d2, s.d3, (i : Int)] := ⟨⟨(wbytes [s.d0, s.d1, s.d2, s.d3, (i : Int)]).toArray⟩, rfl⟩
  have HT := Lib.hid ht
  have htl : (⟨#[107]⟩ ++ t : ByteArray).data.toList = seedB s i := by
    rw [ByteArray.data_append, Array.toList_append, ht]; rfl
  have HZ : Hid (ofD (⟨#[107]⟩ ++ t : ByteArray).data.toList = z) := by show _ = _; rw [htl]; exact hz
  have HU : Hid ((⟨#[107]⟩ ++ t : ByteArray).size ≤ 100000) := by
    show _ ≤ _
    have h1 : (⟨#[107]⟩ ++ t : ByteArray).data.toList.length = (⟨#[107]⟩ ++ t : ByteArray).size := by rw [Array.length_toList]; rfl
    rw [← h1, htl, seedB_len]; decide
  have hts : t.size = 20 := by
    have h1 : t.data.toList.length = t.size := by rw [Array.length_toList]; rfl
    rw [← h1, ht]; simp [wbytes_length]
  have hwr := wrap_idx i hi
  obtain ⟨w0, hw0⟩ : ∃ w0, (w.alloc (.cells #[.int .u32 s.d0, .int .u32 s.d1, .int .u32 s.d2, .int .u32 s.d3] 24)).alloc (.cells #[.int .u32 0, .int .u32 0, .int .u32 0, .int .u32 0] 24) = w0 := ⟨_, rfl⟩
  obtain ⟨hA0, hR0, hB0⟩ := start46 s w w0 hw0
  obtain ⟨l0, l1, l2, l3⟩ := Arr.c4 hA0
  obtain ⟨w1, hw1⟩ : ∃ w1, w0.alloc (.cells #[.int .u32 s.d0, .int .u32 s.d1, .int .u32 s.d2, .int .u32 s.d3, .int .u32 (i : Int)] 22) = w1 := ⟨_, rfl⟩
  have hX1 : Arr .u32 22 w0.heap.size [s.d0, s.d1, s.d2, s.d3, (i : Int)] w1 := by rw [← hw1]; exact heap_alloc_new w0 _
  have hD1 : Below w0.heap.size w0 w1 := by rw [← hw1]; exact (Below.refl _ _).alloc (Nat.le_refl _) _
  have hR1 := hR0.on hD1
  have hB1 := hB0.trans (hD1.mono hB0.size)
  have HX := Lib.hid (show ∀ (k : Nat) (h : k < [s.d0, s.d1, s.d2, s.d3, (i : Int)].length), 0 ≤ [s.d0, s.d1, s.d2, s.d3, (i : Int)][k] ∧ [s.d0, s.d1, s.d2, s.d3, (i : Int)][k] < 4294967296 from fun k h => by
    obtain ⟨a, b, c, d⟩ := hs
    match k, h with
    | 0, _ => exact a
    | 1, _ => exact b
    | 2, _ => exact c
    | 3, _ => exact d
    | 4, _ => exact ⟨show (0 : Int) ≤ (i : Int) by omega, show (i : Int) < 4294967296 by omega⟩)
  have HC := Lib.hid (show ∀ (k : Nat) (h : k < [s.d0, s.d1, s.d2, s.d3, (i : Int)].length), w1.cell? ⟨w0.heap.size, 0 + k, none⟩ = some (.int .u32 [s.d0, s.d1, s.d2, s.d3, (i : Int)][k]) from fun k h => by
    rw [Nat.zero_add, hX1.cell h, List.getD_eq_getElem?_getD, List.getElem?_eq_getElem h]; rfl)
  clear ht htl hz
  go_enter Tryd.func25, Tryd.ntmps25
  go_wp2_with fail
  clear hw0 hw1
  refine (refBytes_named w0.heap.size 0 5 5 [s.d0, s.d1, s.d2, s.d3, (i : Int)] t w1 rfl (by simp) HX.out hX1.lt HC.out HT.out).mono ?_
  rintro e w2 ⟨rfl, hD2⟩
  have hR2 := hR1.on hD2
  have hB2 := hB1.trans (hD2.mono hB1.size)
  clear hA0 hR0 hB0 hX1 hD1 hR1 hB1 hD2 l0 l1 l2 l3 HC
  go_wp2_with fail
  refine (rof_named _ z w2 ?hs ?hz).mono ?_
  case hs => exact HU.out
  case hz => exact HZ.out
  rintro e w3 ⟨rfl, hD3⟩
  have hR3 := hR2.on hD3
  have hB3 := hB2.trans (hD3.mono hB2.size)
  obtain ⟨b0, b1, b2, b3⟩ := Arr.c4 (d := zeroD) hR3
  obtain ⟨f0, f1, f2, f3⟩ := hR3.f4
  have hRf := put4 (d := z) hR3 rfl
  have hBf := below_put4 hB3 (show w.heap.size ≤ w.heap.size + 1 by omega) z
  clear hR2 hB2 hD3
  go_wp2_with fail
  generalize (((w3.setCell ⟨w.heap.size + 1, 0, none⟩ (.int .u32 z.d0)).setCell ⟨w.heap.size + 1, 1, none⟩ (.int .u32 z.d1)).setCell ⟨w.heap.size + 1, 2, none⟩ (.int .u32 z.d2)).setCell ⟨w.heap.size + 1, 3, none⟩ (.int .u32 z.d3) = wf at *
  obtain ⟨r0, r1, r2, r3⟩ := hRf.c4
  refine bodyPost_ret (v := z.val) (by simp [results, Tryd.results25, go_sem, D4.val, r0, r1, r2, r3]) rfl ⟨rfl, hBf⟩
end Go.Proofs.YtdphhpmkcalahaaDoor
