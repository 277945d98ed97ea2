/-
  The contract of the document's own Text: decimal digits.
-/
import Derived.Test.YtojgngefgianpaaDoorText
import Derived.Lib.ItoaLen
import Derived.Lib.SmallJoins
namespace Go.Proofs.YtojgngefgianpaaDoor
open Go.RowKit Go.Sort Go.Lib

theorem ret_str {a b : ByteArray} (h : a = b) : Ending.returned (.string a) = .returned (.string b) := by rw [h]
theorem bytes_one (w : World) (u : UInt8) : (convert 51 9 (.slice (some ⟨w.heap.size, 0, none⟩) 1 1)).run Tryd.prog (w.alloc (.cells #[.int .u8 (u.toNat : Int)] 5)) = .ok (.string ⟨#[u]⟩) (w.alloc (.cells #[.int .u8 (u.toNat : Int)] 5)) :=
  run_convert_bytes_back (P := Tryd.prog) (w.alloc (.cells #[.int .u8 (u.toNat : Int)] 5)) 51 9 5 ⟨w.heap.size, 0, none⟩ 1 [u] Tryd.underlying51 Tryd.underlying5 Tryd.underlying9 (fun j hj => by
    have : j = 0 := by simp at hj; exact hj
    subst this
    rw [add_plain, World.cell?_alloc_new]; rfl)
/-- The digit of a number below ten, as a byte. -/
def digC (y : Nat) : UInt8 := UInt8.ofNat (48 + y)
theorem digC_val (y : Nat) (h : y < 10) : ((digC y).toNat : Int) = 48 + (y : Int) := by
  unfold digC
  rw [UInt8.toNat_ofNat']
  have : (48 + y) % 2 ^ 8 = 48 + y := Nat.mod_eq_of_lt (by omega)
  rw [this]; omega

set_option maxHeartbeats 1000000 in
set_option maxRecDepth 100000 in
theorem refText_any (u : Nat) (hu : u < 4294967296) (w : World) :
    Calls Tryd.prog 37 #[.int .u32 u] w fun e w' => e = .returned (.string ⟨(decDigits u).toArray⟩) ∧ Below w.heap.size w w' := by
  go_enter Tryd.func37, Tryd.ntmps37
  go_wp2
  go_loopw [0, 3] (fun n s wr => ∃ (y : Nat) (t : ByteArray), y < 4294967296 ∧ n = .int .u32 y ∧ s = .string t ∧ t.size ≤ 20 ∧ Hid (decDigits u = decDigits y ++ t.data.toList) ∧ Below w.heap.size w wr) (fun n _ _ => (RowKit.intOf n).toNat)
  case atStart => exact ⟨u, ⟨#[]⟩, hu, rfl, rfl, by decide, by show decDigits u = _; simp, Below.refl _ _⟩
  case round =>
    obtain ⟨y, t, hy, rfl, rfl, ht, HD, hW⟩ := hrel
    by_cases hlt : 9 < y
    · have hcv := bytes_one wr (digC (y % 10))
      rw [digC_val (y % 10) (by omega)] at hcv
      have hv : ((y % 10 : Nat) : Int) = (y : Int) % 10 := by simp
      rw [hv] at hcv
      clear hv
      have hsz : t.size + 1 ≤ 20 := by
        have h1 := congrArg List.length HD.out
        have h2 : nDigits u ≤ 20 := nDigits_le20 u (by omega)
        have h3 : t.data.toList.length = t.size := (size_eq t).symm
        rw [List.length_append, decDigits_length, decDigits_length, h3] at h1
        have h4 : nDigits y = nDigits (y / 10) + 1 := nDigits_big (by omega)
        have h5 : 1 ≤ nDigits (y / 10) := nDigits_pos _
        omega
      have HD' : Hid (decDigits u = decDigits (y / 10) ++ (⟨#[digC (y % 10)]⟩ ++ t : ByteArray).data.toList) := by
        show decDigits u = _
        have h1 : decDigits y = decDigits (y / 10) ++ [digC (y % 10)] := by rw [decDigits, dif_neg (by omega)]; rfl
        rw [HD.out, h1, Go.Joins.data_append, List.append_assoc]
      go_wp2
      go_roundw
      case rel => exact ⟨y / 10, _, by omega, by go_num, rfl, by rw [size_eq, Go.Joins.data_append, List.length_append, ← size_eq t]; show 1 + t.size ≤ 20; omega, HD', hW.alloc hW.size _⟩
      case measure => simp [RowKit.intOf]; omega
    · have hcv := bytes_one wr (digC y)
      rw [digC_val y (by omega)] at hcv
      go_wp2
      go_ret
      refine ⟨ret_str ?_, hW.alloc hW.size _⟩
      rw [HD.out, decDigits, dif_pos (show y < 10 by omega)]
      show (⟨#[digC y]⟩ ++ t : ByteArray) = _
      apply ByteArray.ext
      apply Array.toList_inj.mp
      rw [Go.Joins.data_append]
      rfl
end Go.Proofs.YtojgngefgianpaaDoor
