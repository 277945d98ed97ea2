/-
  The contract of the document's Text of a digest.
-/
import Derived.Test.YtkgkmpelclmllaaDoorDgC2
import Derived.Test.YtkgkmpelclmllaaDoorRHexT
import Derived.Lib.ConvBytes
import Derived.BigRegion
import Derived.Lib.ItoaMem
namespace Go.Proofs.YtkgkmpelclmllaaDoor
open Go.RowKit

/-- A word's bytes, the highest one first. -/
def hi4 (x : Int) : List UInt8 := [byteN x.toNat 3, byteN x.toNat 2, byteN x.toNat 1, byteN x.toNat 0]
def dB (d : D4) : List UInt8 := hi4 d.d0 ++ hi4 d.d1 ++ hi4 d.d2 ++ hi4 d.d3
def dTextL (d : D4) : List UInt8 := textL (dB d)
def hiP (D : List Int) : Nat → List UInt8
  | 0 => []
  | n + 1 => hiP D n ++ hi4 (D.getD n 0)
theorem hiP_len (D : List Int) (n : Nat) : (hiP D n).length = 4 * n := by
  induction n with
  | zero => rfl
  | succ n ih => rw [hiP, List.length_append, ih]; show 4 * n + 4 = _; omega
theorem hiP_list (d : D4) : hiP d.toL 4 = dB d := by
  simp [hiP, D4.toL, dB]

/-- A literal of four bytes, as a string. -/
theorem conv4 (c3 c2 c1 c0 : UInt8) (wr : World) : Sem.run Tryd.prog (convert 54 9 (.slice (some ⟨wr.heap.size, 0, none⟩) 4 4)) (wr.alloc (.cells #[.int .u8 (c3.toNat : Int), .int .u8 (c2.toNat : Int), .int .u8 (c1.toNat : Int), .int .u8 (c0.toNat : Int)] 5)).drew = .ok (.string ⟨#[c3, c2, c1, c0]⟩) (wr.alloc (.cells #[.int .u8 (c3.toNat : Int), .int .u8 (c2.toNat : Int), .int .u8 (c1.toNat : Int), .int .u8 (c0.toNat : Int)] 5)).drew := by
  have hrow : ((wr.alloc (.cells #[.int .u8 (c3.toNat : Int), .int .u8 (c2.toNat : Int), .int .u8 (c1.toNat : Int), .int .u8 (c0.toNat : Int)] 5)).drew).heap[wr.heap.size]? = some (.cells #[.int .u8 (c3.toNat : Int), .int .u8 (c2.toNat : Int), .int .u8 (c1.toNat : Int), .int .u8 (c0.toNat : Int)] 5 (0, 0)) := heap_alloc_new wr _
  generalize (wr.alloc (.cells #[.int .u8 (c3.toNat : Int), .int .u8 (c2.toNat : Int), .int .u8 (c1.toNat : Int), .int .u8 (c0.toNat : Int)] 5)).drew = W at *
  exact run_convert_bytes_back (P := Tryd.prog) W 54 9 5 ⟨wr.heap.size, 0, none⟩ 4 [c3, c2, c1, c0] Tryd.underlying54 Tryd.underlying5 Tryd.underlying9 (fun j hj => by
    rw [Lib.add_plain, Nat.zero_add, cell_of_row W _ j _ _ (0, 0) hrow]
    match j, hj with
    | 0, _ => rfl
    | 1, _ => rfl
    | 2, _ => rfl
    | 3, _ => rfl)
set_option maxHeartbeats 3000000 in
set_option maxRecDepth 100000 in
theorem rtext_any (d : D4) (w : World) (hd : d.ok) : Calls Tryd.prog 27 #[d.val] w fun e w' => e = .returned (.string ⟨(dTextL d).toArray⟩) ∧ Below w.heap.size w w' := by
  obtain ⟨i0, hi, hz0, hz1, hz2⟩ := info_parts info_u8h
  obtain ⟨w0, hw0⟩ : ∃ w0, w.alloc (.cells #[.int .u32 d.d0, .int .u32 d.d1, .int .u32 d.d2, .int .u32 d.d3] 24) = w0 := ⟨_, rfl⟩
  have hA0 : Arr .u32 24 w.heap.size d.toL w0 := by rw [← hw0]; exact heap_alloc_new w _
  have hB0 : Below w.heap.size w w0 := by rw [← hw0]; exact (Below.refl _ _).alloc (Nat.le_refl _) _
  go_enter Tryd.func27, Tryd.ntmps27
  simp only [D4.val]
  go_wp2_with fail
  clear hw0
  go_loopw [3, 4] (fun v i wr => ∃ (k : Nat) (t : ByteArray), k ≤ 4 ∧ i = .int .i64 k ∧ v = .string t ∧ t.size = 4 * k ∧ Hid (t.data.toList = hiP d.toL k) ∧ Arr .u32 24 w.heap.size d.toL wr ∧ Below w.heap.size w wr) (fun _ i _ => 4 - (intOf i).toNat)
  case atStart => exact ⟨0, ⟨#[]⟩, by omega, rfl, rfl, rfl, rfl, hA0, hB0⟩
  case round =>
    clear hA0 hB0
    obtain ⟨k, t, hk, rfl, rfl, hts, HT, hA, hB⟩ := hrel
    by_cases hlt : k < 4
    · have hkd : decide ((k : Int) < 4) = true := by simp; omega
      obtain ⟨x, hx⟩ : ∃ x, d.toL.getD k 0 = x := ⟨_, rfl⟩
      have hxw : isW x := by rw [← hx]; exact (D4.toL_ok hd).get k
      have hx0 := hxw.1
      have hx1 := hxw.2
      have hcl : wr.cell? ⟨w.heap.size, k, none⟩ = some (.int .u32 x) := by rw [← hx]; exact hA.cell (by rw [D4.toL_len]; omega)
      have HX := Lib.hid hx
      clear hx
      have hk0 : (0 : Int) ≤ k := by omega
      have hk3 : (k : Int) < 4 := by omega
      clear hxw
      obtain ⟨c3, h3, hc3⟩ : ∃ c : UInt8, x / 16777216 = (c.toNat : Int) ∧ c = byteN x.toNat 3 := ⟨_, by rw [byteN_nat]; simp only [show (256 : Nat) ^ 3 = 16777216 from rfl]; omega, rfl⟩
      obtain ⟨c2, h2, hc2⟩ : ∃ c : UInt8, x / 65536 % 256 = (c.toNat : Int) ∧ c = byteN x.toNat 2 := ⟨_, by rw [byteN_nat]; simp only [show (256 : Nat) ^ 2 = 65536 from rfl]; omega, rfl⟩
      obtain ⟨c1, h1, hc1⟩ : ∃ c : UInt8, x / 256 % 256 = (c.toNat : Int) ∧ c = byteN x.toNat 1 := ⟨_, by rw [byteN_nat]; simp only [show (256 : Nat) ^ 1 = 256 from rfl]; omega, rfl⟩
      obtain ⟨c0, h0, hc0⟩ : ∃ c : UInt8, x % 256 = (c.toNat : Int) ∧ c = byteN x.toNat 0 := ⟨_, by rw [byteN_nat]; simp only [show (256 : Nat) ^ 0 = 1 from rfl]; omega, rfl⟩
      have HI : Hid (hiP d.toL (k + 1) = hiP d.toL k ++ [c3, c2, c1, c0]) := by
        show _ = _
        rw [hiP, HX.out, hi4, ← hc3, ← hc2, ← hc1, ← hc0]
      clear hc3 hc2 hc1 hc0
      have hcv := conv4 c3 c2 c1 c0 wr
      go_wp2_with fail
      go_region
      clear hcv h3 h2 h1 h0
      have hA1 : Arr .u32 24 w.heap.size d.toL (wr.alloc (.cells #[.int .u8 (c3.toNat : Int), .int .u8 (c2.toNat : Int), .int .u8 (c1.toNat : Int), .int .u8 (c0.toNat : Int)] 5)).drew := hA.al _
      have hB1 := (hB.alloc hB.size (.cells #[.int .u8 (c3.toNat : Int), .int .u8 (c2.toNat : Int), .int .u8 (c1.toNat : Int), .int .u8 (c0.toNat : Int)] 5)).drew
      clear hA hB
      go_wp2_with fail
      go_roundw
      case rel =>
        refine ⟨k + 1, _, by omega, by go_num, rfl, ?_, ?_, hA1, hB1⟩
        · rw [ByteArray.size_append, hts]; show 4 * k + 4 = 4 * (k + 1); omega
        · show (t ++ (⟨#[c3, c2, c1, c0]⟩ : ByteArray)).data.toList = _
          rw [ByteArray.data_append, Array.toList_append, HT.out, HI.out]
      case measure => simp [intOf]; omega
    · have hk4 : k = 4 := by omega
      subst hk4
      have HS := Lib.hid (show t.size ≤ 1000000 by omega)
      have HT2 : Hid (textL t.data.toList = dTextL d) := by
        show _ = _
        rw [HT.out, hiP_list]; rfl
      clear hts hA
      go_wp2_with fail
      refine (refText_hex t wr HS.out).mono ?_
      rw [HT2.out]
      rintro e w1 ⟨rfl, hB1⟩
      go_wp2_with fail
      go_ret
      exact ⟨rfl, hB.trans (hB1.mono hB.size)⟩

end Go.Proofs.YtkgkmpelclmllaaDoor
