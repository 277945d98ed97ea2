/-
  The contract of the document's own Text of bytes: two digits each.
-/
import Derived.Test.YtkgkmpelclmllaaDoorRHexA
import Derived.Deep.RegionHeld3
import Derived.Deep.AppendLies
namespace Go.Proofs.YtkgkmpelclmllaaDoor
open Go.RowKit

theorem info_u8h : (Tryd.prog.info? 5).map (fun i => (i.zero, i.size, i.bytes)) = some (some (.int .u8 0), 1, 1) := by kernel_rfl
/-- A row of bytes that the call owns, nil or not. -/
def OwnsC (B : Nat) (v : Value) (l : List UInt8) (w : World) : Prop := w.ownsRow B 5 1 v l.length (Lib.byteCells l)
theorem OwnsC.nil (B : Nat) (w : World) : OwnsC B (.slice none 0 0) [] w := World.ownsRow_nil _ _ _ _
/-- What such a row reads as, as a string. -/
theorem ownsC_string {B : Nat} {v : Value} {l : List UInt8} {w : World} (h : OwnsC B v l w) : (convert 54 9 v).run Tryd.prog w = .ok (.string ⟨l.toArray⟩) w := by
  rcases h.2 with ⟨h', hn⟩ | ⟨g, cap, cur, rfl, _⟩
  · subst h'
    have e : l = [] := List.length_eq_zero_iff.mp hn
    subst e
    rw [run_convert_bytes_string (P := Tryd.prog) w 54 9 5 none 0 0 Tryd.underlying54 Tryd.underlying5 Tryd.underlying9]
    rfl
  · exact run_convert_bytes_back (P := Tryd.prog) w 54 9 5 ⟨g, 0, none⟩ cap l Tryd.underlying54 Tryd.underlying5 Tryd.underlying9 (fun j hj => by
      refine World.ownsRow.cells h rfl j _ ?_
      simp [Lib.byteCells, List.getElem?_eq_getElem hj])
theorem sign_up (c : UInt8) (w : World) : Calls Tryd.prog 38 #[.int .i64 ((c.toNat : Int) / 16)] w fun e w' => e = .returned (.int .u8 ((sgn (c.toNat / 16)).toNat : Int)) ∧ w = w' := by
  have hc := c.toNat_lt
  have h := sign_any ((c.toNat : Int) / 16) w (by omega) (by omega)
  rw [show ((c.toNat : Int) / 16).toNat = c.toNat / 16 by omega] at h
  exact h
theorem sign_low (c : UInt8) (w : World) : Calls Tryd.prog 38 #[.int .i64 ((c.toNat : Int) % 16)] w fun e w' => e = .returned (.int .u8 ((sgn (c.toNat % 16)).toNat : Int)) ∧ w = w' := by
  have hc := c.toNat_lt
  have h := sign_any ((c.toNat : Int) % 16) w (by omega) (by omega)
  rw [show ((c.toNat : Int) % 16).toNat = c.toNat % 16 by omega] at h
  exact h
/-- What a region that draws its order makes of a byte's two digits. -/
theorem byte_sums (c : UInt8) : IntKind.i64.wrap (c.toNat : Int) = (c.toNat : Int) ∧ (c.toNat : Int).tdiv 16 = (c.toNat : Int) / 16 ∧ IntKind.i64.wrap ((c.toNat : Int) / 16) = (c.toNat : Int) / 16 ∧ (c.toNat : Int).tmod 16 = (c.toNat : Int) % 16 ∧ IntKind.i64.wrap ((c.toNat : Int) % 16) = (c.toNat : Int) % 16 := by
  have hc := c.toNat_lt
  exact ⟨IntWalk.i64_in _ (by omega), Int.tdiv_eq_ediv_of_nonneg (by omega), IntWalk.i64_in _ (by omega), Int.tmod_eq_emod_of_nonneg (by omega), IntWalk.i64_in _ (by omega)⟩
theorem drop_one (s : ByteArray) (k : Nat) (h : k < s.size) : s.data.toList.drop k = s[k] :: s.data.toList.drop (k + 1) := by
  have h' : k < s.data.toList.length := by rw [Array.length_toList]; exact h
  rw [List.drop_eq_getElem_cons h']
  rfl

theorem text_step (s : ByteArray) (k : Nat) (L : List UInt8) (h : k < s.size) (hL : L.length = 2 * k ∧ textL s.data.toList = L ++ textL (s.data.toList.drop k)) :
    Hid ((L ++ [sgn (s[k].toNat / 16), sgn (s[k].toNat % 16)]).length = 2 * (k + 1) ∧ textL s.data.toList = (L ++ [sgn (s[k].toNat / 16), sgn (s[k].toNat % 16)]) ++ textL (s.data.toList.drop (k + 1))) := by
  refine ⟨by rw [List.length_append, hL.1]; simp; omega, ?_⟩
  rw [hL.2, drop_one s k h, textL]
  simp
theorem ownsC_two {B g cap : Nat} {L : List UInt8} {x y : UInt8} {w : World} (h : w.ownsRow B 5 1 (.slice (some ⟨g, 0, none⟩) (L.length + 2) cap) (L.length + 2) (Lib.byteCells L ++ [.int .u8 (x.toNat : Int), .int .u8 (y.toNat : Int)])) :
    OwnsC B (.slice (some ⟨g, 0, none⟩) (L.length + 2) cap) (L ++ [x, y]) w := by
  unfold OwnsC
  rw [show (L ++ [x, y]).length = L.length + 2 by simp, show Lib.byteCells (L ++ [x, y]) = Lib.byteCells L ++ [.int .u8 (x.toNat : Int), .int .u8 (y.toNat : Int)] by simp [Lib.byteCells]]
  exact h

set_option maxHeartbeats 2000000 in
set_option maxRecDepth 100000 in
theorem refText_hex (s : ByteArray) (w : World) (hs : s.size ≤ 1000000) :
    Calls Tryd.prog 34 #[.string s] w fun e w' => e = .returned (.string ⟨(textL s.data.toList).toArray⟩) ∧ Below w.heap.size w w' := by
  obtain ⟨i0, hi, hz0, hz1, hz2⟩ := info_parts info_u8h
  go_enter Tryd.func34, Tryd.ntmps34
  go_wp2
  go_loopw [3, 4] (fun v i wr => ∃ (k : Nat) (L : List UInt8), k ≤ s.size ∧ i = .int .i64 k ∧ OwnsC w.heap.size v L wr ∧ Hid (L.length = 2 * k ∧ textL s.data.toList = L ++ textL (s.data.toList.drop k)) ∧ Below w.heap.size w wr) (fun _ i _ => s.size - (intOf i).toNat)
  case atStart => exact ⟨0, [], Nat.zero_le _, rfl, OwnsC.nil _ _, ⟨rfl, rfl⟩, Below.refl _ _⟩
  case round =>
    obtain ⟨k, L, hk, rfl, hown, HL, hV⟩ := hrel
    by_cases hlt : k < s.size
    · have hown' : wr.ownsRow w.heap.size 5 1 u3 L.length (Lib.byteCells L) := hown
      have hc := (s[k]).toNat_lt
      have hk0 : (0 : Int) ≤ (k : Int) := by omega
      have hk1 : (k : Int) < (s.size : Int) := by omega
      have hlen : L.length ≤ 2000000 := by have := HL.out.1; omega
      have hbw := hV.size
      obtain ⟨e1, e2, e3, e4, e5⟩ := byte_sums s[k]
      go_wp2
      go_region_held3 (fun _ => True) (first | trivial | go_keep)
        ((first
          | (refine step_append_lies _ (by rfl) _ _ _ (by rfl) w.heap.size 5 i0 _ 1 1 Tryd.underlying54 hi hz0 hz1 hz2 rfl (by omega) u3 L.length (Lib.byteCells L) (by rfl) ((hown'.alloc _).drew) ⟨wr.heap.size, 0, none⟩ 2 2 [.int .u8 ((sgn (s[k].toNat / 16)).toNat : Int), .int .u8 ((sgn (s[k].toNat % 16)).toNat : Int)] (by rfl) (by rfl) (World.news_of_block (cs := #[.int .u8 ((sgn (s[k].toNat / 16)).toNat : Int), .int .u8 ((sgn (s[k].toNat % 16)).toNat : Int)]) (t := 5) (fr := (0, 0)) (heap_alloc_new wr _)) (by simp [Value.oneCell']) (by omega) (by unfold maxLen; omega) (by omega) (by simp; omega) (wr.heap.size + 1) (by simp) ?_; intro gg cap w1 hown1 hgrow hat hlt1)
          | (go_at_call 38; (with_reducible refine (sign_up s[k] _).mono ?_); rintro e w' ⟨rfl, rfl⟩)
          | (go_at_call 38; (with_reducible refine (sign_low s[k] _).mono ?_); rintro e w' ⟨rfl, rfl⟩)))
      all_goals
        clear e1 e2 e3 e4 e5
        have R := text_step s k L hlt HL.out
        have hV1 : Below w.heap.size w w1 := ((hV.alloc hV.size _).drew).grown hgrow (by have := hV.size; simp; omega) (fun k hk => (hown'.lt k hk).1)
        have hown2 : OwnsC w.heap.size (.slice (some ⟨gg, 0, none⟩) (L.length + 2) cap) (L ++ [sgn (s[k].toNat / 16), sgn (s[k].toNat % 16)]) w1 := ownsC_two hown1
        clear hown1 hgrow hat hown hown' hV
        go_wp2
        go_roundw
        case rel => exact ⟨k + 1, _, by omega, by go_num, hown2, R, hV1⟩
        case measure => simp [intOf]; omega
    · have : k = s.size := by omega
      subst this
      have HL' : Hid (textL s.data.toList = L) := by
        have h := HL.out.2
        rw [List.drop_eq_nil_of_le (by rw [Array.length_toList]; exact Nat.le_refl _)] at h
        show textL s.data.toList = L
        rw [h]; simp [textL]
      have hcv := ownsC_string hown
      go_wp2
      go_ret
      exact ⟨by rw [HL'.out]; rfl, hV⟩
end Go.Proofs.YtkgkmpelclmllaaDoor
