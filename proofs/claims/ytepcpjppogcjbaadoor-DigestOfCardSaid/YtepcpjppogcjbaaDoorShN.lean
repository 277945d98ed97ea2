/-
  The two layings of strings.Builder's methods that the shelf's command leaves out at this translation (WriteByte, Grow), written by hand: the numbering and its facts; then each contract at this program's own numbers. No condition beside what each contract names.
-/
import Derived.Test.YtepcpjppogcjbaaDoorProg
import Derived.Shelf.Strings.Builder2
import Derived.KernelRfl
namespace Go.Proofs.YtepcpjppogcjbaaDoor
open Go.Shelf Go.RowKit
def lay170_ren : Go.Shelf.Ren := ⟨fun | 170 => 43 | n => n, fun | 0 => 0 | 3 => 3 | 37 => 39 | 70 => 58 | 72 => 60 | 80 => 67 | 5 => 5 | n => n, fun | n => n⟩
theorem lay170 : Go.Proofs.Lays.n170 Tryd.prog lay170_ren := {
  mixed := by kernel_rfl
  f170 := Tryd.func43.trans (congrArg some (by kernel_rfl))
  t0 := Tryd.underlying0
  a0 := Tryd.isAgg0
  z0 := Tryd.sizeOf0
  v0 := Tryd.zeroValue0
  t3 := Tryd.underlying3
  a3 := Tryd.isAgg3
  z3 := Tryd.sizeOf3
  v3 := Tryd.zeroValue3
  t37 := Tryd.underlying39
  a37 := Tryd.isAgg39
  z37 := Tryd.sizeOf39
  v37 := Tryd.zeroValue39
  t70 := Tryd.underlying58
  a70 := Tryd.isAgg58
  z70 := Tryd.sizeOf58
  v70 := Tryd.zeroValue58
  t72 := Tryd.underlying60
  a72 := Tryd.isAgg60
  z72 := Tryd.sizeOf60
  v72 := Tryd.zeroValue60 }
theorem lay170_X : Builder.Extra Tryd.prog lay170_ren := {
  sizeBuilder := by kernel_rfl
  liesBuilder := by kernel_rfl
  t5 := Tryd.underlying5
  a5 := Tryd.isAgg5
  z5 := Tryd.sizeOf5
  v5 := Tryd.zeroValue5
  infoByte := by kernel_rfl
  cellsByte := by kernel_rfl
  sizeByte := by kernel_rfl
  neB5 := by decide }
theorem len_any (B b : Nat) (bs : List Value) (w : World) (h : Lib.IsBuilder 60 5 B b bs w) :
    Calls Tryd.prog 43 #[.pointer (some ⟨b, 0, none⟩)] w fun e w' => e = .returned (.int .i64 bs.length) ∧ w' = w := Any.Builder_Len lay170 B b bs w h
end Go.Proofs.YtepcpjppogcjbaaDoor
