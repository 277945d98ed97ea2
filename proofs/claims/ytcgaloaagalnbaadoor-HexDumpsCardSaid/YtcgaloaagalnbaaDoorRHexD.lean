/-
  The contract of the document's own decimal text of a number.
-/
import Derived.Test.YtcgaloaagalnbaaDoorRHexL
import Derived.Laws.AppendOwnNone
import Derived.Lib.ItoaMem
import Derived.Lib.ItoaLen
namespace Go.Proofs.YtcgaloaagalnbaaDoor
open Go.RowKit

/-- The digit of a number below ten, as a byte. -/
def digC8 (y : Nat) : UInt8 := UInt8.ofNat (48 + y)
/-- What is left to be written of a number; nothing of 0. -/
def restD (y : Nat) : List UInt8 := if y = 0 then [] else Lib.decDigits y
theorem restD_step (y : Nat) (h : 0 < y) : restD y = restD (y / 10) ++ [digC8 (y % 10)] := by
  unfold restD
  rw [if_neg (by omega)]
  by_cases q : y < 10
  · rw [if_pos (by omega), Lib.decDigits, dif_pos q, Nat.mod_eq_of_lt q]; rfl
  · rw [if_neg (by omega), Lib.decDigits, dif_neg q]; rfl
theorem bytes_one8 (w : World) (u : UInt8) : (convert 32 9 (.slice (some ⟨w.heap.size, 0, none⟩) 1 1)).run Tryd.prog (w.alloc (.cells #[.int .u8 (u.toNat : Int)] 5)) = .ok (.string ⟨#[u]⟩) (w.alloc (.cells #[.int .u8 (u.toNat : Int)] 5)) :=
  run_convert_bytes_back (P := Tryd.prog) (w.alloc (.cells #[.int .u8 (u.toNat : Int)] 5)) 32 9 5 ⟨w.heap.size, 0, none⟩ 1 [u] Tryd.underlying32 Tryd.underlying5 Tryd.underlying9 (fun j hj => by
    have : j = 0 := by simp at hj; exact hj
    subst this
    rw [Lib.add_plain, World.cell?_alloc_new]; rfl)
theorem dig_val8 (y : Nat) (h : y < 10) : ((digC8 y).toNat : Int) = 48 + (y : Int) := by
  unfold digC8
  rw [UInt8.toNat_ofNat', Nat.mod_eq_of_lt (by omega)]; omega

theorem ret_strH {a b : ByteArray} (h : a = b) : Ending.returned (.string a) = .returned (.string b) := by rw [h]
theorem decimal_small (y : Nat) (w : World) (h : y < 10) :
    Calls Tryd.prog 33 #[.int .i64 y] w fun e w' => e = .returned (.string ⟨(Lib.decDigits y).toArray⟩) ∧ Below w.heap.size w w' := by
  have HD : Hid (Lib.decDigits y = [digC8 y]) := by show Lib.decDigits y = _; rw [Lib.decDigits, dif_pos h]; rfl
  have hcv := bytes_one8 w (digC8 y)
  rw [dig_val8 y h] at hcv
  go_enter Tryd.func33, Tryd.ntmps33
  go_wp2
  go_ret
  exact ⟨ret_strH (by rw [HD.out]), (Below.refl _ _).alloc (Nat.le_refl _) _⟩

theorem cells_one8 (l : List UInt8) : ∀ v ∈ Lib.byteCells l, v.oneCell' = true := fun v hv => by
  obtain ⟨b, _, rfl⟩ := List.mem_map.1 hv
  rfl
theorem row_lit (w : World) (B : Nat) (hB : B ≤ w.heap.size) (d : Int) : (w.alloc (.cells #[.int .u8 d] 5)).ownsRow B 5 1 (.slice (some ⟨w.heap.size, 0, none⟩) 1 1) 1 [.int .u8 d] :=
  World.ownsRow_lit w #[.int .u8 d] 1 hB (by unfold maxLen; omega) rfl
theorem ownsC_front {B : Nat} {v : Value} {L : List UInt8} {y : Int} {x : UInt8} {w : World} (hy : y = (x.toNat : Int)) (h : w.ownsRow B 5 1 v (1 + L.length) ([.int .u8 y] ++ Lib.byteCells L)) : OwnsC B v (x :: L) w := by
  subst hy
  unfold OwnsC
  rw [show (x :: L).length = 1 + L.length by simp; omega, show Lib.byteCells (x :: L) = [.int .u8 (x.toNat : Int)] ++ Lib.byteCells L by simp [Lib.byteCells]]
  exact h

set_option maxHeartbeats 2000000 in
set_option maxRecDepth 100000 in
theorem decimal_big (u : Nat) (w : World) (hu : 10 ≤ u) (hu' : u < 1000000000) :
    Calls Tryd.prog 33 #[.int .i64 u] w fun e w' => e = .returned (.string ⟨(Lib.decDigits u).toArray⟩) ∧ Below w.heap.size w w' := by
  obtain ⟨i0, hi, hz0, hz1, hz2⟩ := info_parts info_u8h
  go_enter Tryd.func33, Tryd.ntmps33
  go_wp2
  go_loopw [0, 3] (fun nv v wr => ∃ (y : Nat) (L : List UInt8), y ≤ u ∧ nv = .int .i64 y ∧ L.length ≤ 20 ∧ OwnsC w.heap.size v L wr ∧ Hid (Lib.decDigits u = restD y ++ L) ∧ Below w.heap.size w wr) (fun nv _ _ => (intOf nv).toNat)
  case atStart => exact ⟨u, [], Nat.le_refl _, rfl, by simp, OwnsC.nil _ _, by show Lib.decDigits u = _; unfold restD; rw [if_neg (by omega)]; simp, Below.refl _ _⟩
  case round =>
    obtain ⟨y, L, hy, rfl, hL, hown, HD, hB⟩ := hrel
    by_cases hpos : 0 < y
    · have HS : Hid (Lib.decDigits u = restD (y / 10) ++ digC8 (y % 10) :: L) := by
        show Lib.decDigits u = _
        rw [HD.out, restD_step y hpos]; simp
      have hL1 : L.length + 1 ≤ 20 := by
        have h1 := congrArg List.length HS.out
        have h2 := Lib.nDigits_le20 u (by omega)
        rw [List.length_append, Lib.decDigits_length, List.length_cons] at h1
        omega
      have hdv := dig_val8 (y % 10) (by omega)
      have HV : Hid (48 + (y : Int) % 10 = ((digC8 (y % 10)).toNat : Int)) := by
        show 48 + (y : Int) % 10 = _
        rw [hdv]; omega
      clear hdv
      have hown0 : wr.ownsRow w.heap.size 5 1 u3 L.length (Lib.byteCells L) := hown
      have hlit := row_lit wr w.heap.size hB.size (48 + (y : Int) % 10)
      have hbw := hB.size
      rcases hown.2 with ⟨hv, hn⟩ | ⟨g, cap, cur, hv, _⟩
      · subst hv
        have hLn : L = [] := List.length_eq_zero_iff.mp hn
        subst hLn
        go_wp2_with (at_builtin; refine wpList_append_own_none rfl _ _ 32 rfl w.heap.size 5 i0 1 Tryd.underlying32 hi _ _ _ rfl hlit rfl ?_)
        have hB1 : Below w.heap.size w (wr.alloc (.cells #[.int .u8 (48 + (y : Int) % 10)] 5)) := hB.alloc hB.size _
        have hown1 := ownsC_front (L := []) HV.out hlit
        clear hlit hown hown0 hB
        go_wp2
        go_roundw
        case rel => exact ⟨y / 10, [digC8 (y % 10)], by omega, by go_num, hL1, hown1, HS, hB1⟩
        case measure => simp [intOf]; omega
      · subst hv
        go_wp2_with (at_builtin; refine wpList_append_own _ rfl _ _ 32 rfl w.heap.size 5 i0 (.int .u8 0) 1 1 Tryd.underlying32 hi hz0 hz1 hz2 rfl (by decide) _ _ _ rfl hlit ⟨g, 0, none⟩ L.length cap (Lib.byteCells L) rfl ?c0 ?c1 ?c2 ?c3 ?c4 ?c5 ?_)
        case c0 => rw [Lib.byteCells_length]; omega
        case c1 => exact fun j u hu => (hown0.alloc _).cells rfl j u hu
        case c2 => exact cells_one8 _
        case c3 => unfold maxLen; omega
        case c4 => omega
        case c5 => simp; omega
        intro v' w2 hown2 hgrow _
        have hB1 : Below w.heap.size w w2 := (hB.alloc hB.size _).grown hgrow (by have := hB.size; simp; omega) (fun k hk => by simp [Value.ownBlock] at hk; omega)
        have hown1 := ownsC_front HV.out hown2
        clear hgrow hown2 hlit hown hown0 hB
        go_wp2
        go_roundw
        case rel => exact ⟨y / 10, digC8 (y % 10) :: L, by omega, by go_num, by rw [List.length_cons]; exact hL1, hown1, HS, hB1⟩
        case measure => simp [intOf]; omega
    · have : y = 0 := by omega
      subst this
      have HE : Hid (Lib.decDigits u = L) := by
        have q := HD.out
        show Lib.decDigits u = L
        rw [q]; simp [restD]
      have hcv := ownsC_string hown
      go_wp2
      go_ret
      exact ⟨ret_strH (by rw [HE.out]), hB⟩
theorem decimal_any (u : Nat) (w : World) (hu : u < 1000000000) :
    Calls Tryd.prog 33 #[.int .i64 u] w fun e w' => e = .returned (.string ⟨(Lib.decDigits u).toArray⟩) ∧ Below w.heap.size w w' := by
  by_cases h : u < 10
  · exact decimal_small u w h
  · exact decimal_big u w (by omega) hu
end Go.Proofs.YtcgaloaagalnbaaDoor
