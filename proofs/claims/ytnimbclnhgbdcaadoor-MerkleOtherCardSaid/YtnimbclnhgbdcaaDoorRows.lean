/-
  NARROWER THAN 'FOR EVERY INPUT', by the rows' own cells (each row's printed sentence says how): MerkleProves: laid · MerkleChecks: laid · MerkleGoesOn: laid · MerkleChecksOn: laid · MerkleClashes: laid · MerkleOther: laid · MerkleShort: laid.
  DERIVED. THE GIVEN ROWS OF THIS SEAT. 7 by the template 'for every input the law returns true; each argument reads behind the call as it read before'; 0 by the template 'total and deterministic' (their statements: YtnimbclnhgbdcaaDoorTotals.lean).
  GIVEN WITH THE SEED: the statements are not yours to turn. If you find one false, say at which input.
  Laid BY PROGRAM, IN A SANDBOX (cutbox-rows.mjs): the forced cells as the released guide's own fill.sh prints them over the translation 6b81743bb0f533c9… (all of the seat's roots in one cut). By AI agents, Wed Nov 11 2026. No macro, syntax, notation, axiom, sorry.
-/
import Derived.Test.YtnimbclnhgbdcaaDoorChecked
import GoSem.Claim
import GoSem.ClaimJoined
import GoSem.ClaimMapViews
import Derived.JoinedTies
import Derived.KernelRfl
namespace Go.Proofs.YtnimbclnhgbdcaaDoor
/- THE CELL 'sum', in the pinned program and in every row, IS THE sha256 OF THE DUMP (.gsa) THAT YtnimbclnhgbdcaaDoorProg.lean LOADS. Nothing in Lean hashes anything: it is a label: what it is worth is what the hold of that sum in a sandbox is worth. -/
noncomputable def Tryd.pinned : Pinned := { name := "ytnimbclnhgbdcaadoor", sum := "6b81743bb0f533c920b27ac68ab38de84bd8ddeea90da5169b3c34112ed2482a", checked := Tryd.checked }
namespace Rows
def none {H : Type} : Left H := { results := [], args := [] }

/- WHAT THE LISTED PACKAGE-LEVEL VARIABLES READ AS WHEN THE CALL BEGINS. Each datum BY PROGRAM (the guide's laid-datum.mjs) off the statement by which the dump's own 'gosem.cut.vars' lays the variable. In a bare row this is a premise. The card (YtnimbclnhgbdcaaDoorCards.lean) ties it to the program's text. -/
def laid_seedcorn_digest_turns {H : Type} : DataW H := .agg [.lit (.int .i64 7), .lit (.int .i64 9), .lit (.int .i64 13), .lit (.int .i64 18)]

/-- 'seedcornlaw04.MerkleProves': WHATEVER THE INPUT: true; the input reads as it did. -/
def merkleProvesSpec : ChangeSpec := { name := "merkleProves", fn := fun _ => fun
  | [d1, d2] => { results := [.lit (.bool true)], args := [d1, d2] }
  | _ => none }
def merkleProvesRow : OpenClaim := { program := "ytnimbclnhgbdcaadoor", sum := "6b81743bb0f533c920b27ac68ab38de84bd8ddeea90da5169b3c34112ed2482a", func := "seedcorn/seedcornlaw04.MerkleProves", spec := "merkleProves", inPlace := ["internal/abi.NoEscape", "internal/bytealg.MakeNoZero"], recurses := true, named := ["seedcorn/digest.turns"], apart := false, laid := [("seedcorn/digest.turns", laid_seedcorn_digest_turns)] }
def MerkleProvesSaid : Prop := merkleProvesRow.holds Tryd.pinned (OpenSpec.ofChange merkleProvesSpec)

/-- ITS FALSE NEIGHBOUR: 'it returns false'. Refute it at one input. -/
def merkleProvesWrong : ChangeSpec := { name := "merkleProves", fn := fun _ => fun
  | [d1, d2] => { results := [.lit (.bool false)], args := [d1, d2] }
  | _ => none }
def MerkleProvesWrongFalsely : Prop := merkleProvesRow.holds Tryd.pinned (OpenSpec.ofChange merkleProvesWrong)

/-- 'seedcornlaw04.MerkleChecks': WHATEVER THE INPUT: true; the input reads as it did. -/
def merkleChecksSpec : ChangeSpec := { name := "merkleChecks", fn := fun _ => fun
  | [d] => { results := [.lit (.bool true)], args := [d] }
  | _ => none }
def merkleChecksRow : OpenClaim := { program := "ytnimbclnhgbdcaadoor", sum := "6b81743bb0f533c920b27ac68ab38de84bd8ddeea90da5169b3c34112ed2482a", func := "seedcorn/seedcornlaw04.MerkleChecks", spec := "merkleChecks", inPlace := ["internal/abi.NoEscape", "internal/bytealg.MakeNoZero"], recurses := true, named := ["seedcorn/digest.turns"], apart := false, laid := [("seedcorn/digest.turns", laid_seedcorn_digest_turns)] }
def MerkleChecksSaid : Prop := merkleChecksRow.holds Tryd.pinned (OpenSpec.ofChange merkleChecksSpec)

/-- ITS FALSE NEIGHBOUR: 'it returns false'. Refute it at one input. -/
def merkleChecksWrong : ChangeSpec := { name := "merkleChecks", fn := fun _ => fun
  | [d] => { results := [.lit (.bool false)], args := [d] }
  | _ => none }
def MerkleChecksWrongFalsely : Prop := merkleChecksRow.holds Tryd.pinned (OpenSpec.ofChange merkleChecksWrong)

/-- 'seedcornlaw04.MerkleGoesOn': WHATEVER THE INPUT: true; the input reads as it did. -/
def merkleGoesOnSpec : ChangeSpec := { name := "merkleGoesOn", fn := fun _ => fun
  | [d1, d2] => { results := [.lit (.bool true)], args := [d1, d2] }
  | _ => none }
def merkleGoesOnRow : OpenClaim := { program := "ytnimbclnhgbdcaadoor", sum := "6b81743bb0f533c920b27ac68ab38de84bd8ddeea90da5169b3c34112ed2482a", func := "seedcorn/seedcornlaw04.MerkleGoesOn", spec := "merkleGoesOn", inPlace := ["internal/abi.NoEscape", "internal/bytealg.MakeNoZero"], recurses := true, named := ["seedcorn/digest.turns"], apart := false, laid := [("seedcorn/digest.turns", laid_seedcorn_digest_turns)] }
def MerkleGoesOnSaid : Prop := merkleGoesOnRow.holds Tryd.pinned (OpenSpec.ofChange merkleGoesOnSpec)

/-- ITS FALSE NEIGHBOUR: 'it returns false'. Refute it at one input. -/
def merkleGoesOnWrong : ChangeSpec := { name := "merkleGoesOn", fn := fun _ => fun
  | [d1, d2] => { results := [.lit (.bool false)], args := [d1, d2] }
  | _ => none }
def MerkleGoesOnWrongFalsely : Prop := merkleGoesOnRow.holds Tryd.pinned (OpenSpec.ofChange merkleGoesOnWrong)

/-- 'seedcornlaw04.MerkleChecksOn': WHATEVER THE INPUT: true; the input reads as it did. -/
def merkleChecksOnSpec : ChangeSpec := { name := "merkleChecksOn", fn := fun _ => fun
  | [d] => { results := [.lit (.bool true)], args := [d] }
  | _ => none }
def merkleChecksOnRow : OpenClaim := { program := "ytnimbclnhgbdcaadoor", sum := "6b81743bb0f533c920b27ac68ab38de84bd8ddeea90da5169b3c34112ed2482a", func := "seedcorn/seedcornlaw04.MerkleChecksOn", spec := "merkleChecksOn", inPlace := ["internal/abi.NoEscape", "internal/bytealg.MakeNoZero"], recurses := true, named := ["seedcorn/digest.turns"], apart := false, laid := [("seedcorn/digest.turns", laid_seedcorn_digest_turns)] }
def MerkleChecksOnSaid : Prop := merkleChecksOnRow.holds Tryd.pinned (OpenSpec.ofChange merkleChecksOnSpec)

/-- ITS FALSE NEIGHBOUR: 'it returns false'. Refute it at one input. -/
def merkleChecksOnWrong : ChangeSpec := { name := "merkleChecksOn", fn := fun _ => fun
  | [d] => { results := [.lit (.bool false)], args := [d] }
  | _ => none }
def MerkleChecksOnWrongFalsely : Prop := merkleChecksOnRow.holds Tryd.pinned (OpenSpec.ofChange merkleChecksOnWrong)

/-- 'seedcornlaw04.MerkleClashes': WHATEVER THE INPUT: true; the input reads as it did. -/
def merkleClashesSpec : ChangeSpec := { name := "merkleClashes", fn := fun _ => fun
  | [d1, d2] => { results := [.lit (.bool true)], args := [d1, d2] }
  | _ => none }
def merkleClashesRow : OpenClaim := { program := "ytnimbclnhgbdcaadoor", sum := "6b81743bb0f533c920b27ac68ab38de84bd8ddeea90da5169b3c34112ed2482a", func := "seedcorn/seedcornlaw04.MerkleClashes", spec := "merkleClashes", inPlace := ["internal/abi.NoEscape", "internal/bytealg.MakeNoZero"], recurses := true, named := ["seedcorn/digest.turns"], apart := false, laid := [("seedcorn/digest.turns", laid_seedcorn_digest_turns)] }
def MerkleClashesSaid : Prop := merkleClashesRow.holds Tryd.pinned (OpenSpec.ofChange merkleClashesSpec)

/-- ITS FALSE NEIGHBOUR: 'it returns false'. Refute it at one input. -/
def merkleClashesWrong : ChangeSpec := { name := "merkleClashes", fn := fun _ => fun
  | [d1, d2] => { results := [.lit (.bool false)], args := [d1, d2] }
  | _ => none }
def MerkleClashesWrongFalsely : Prop := merkleClashesRow.holds Tryd.pinned (OpenSpec.ofChange merkleClashesWrong)

/-- 'seedcornlaw04.MerkleOther': WHATEVER THE INPUT: true; the input reads as it did. -/
def merkleOtherSpec : ChangeSpec := { name := "merkleOther", fn := fun _ => fun
  | [d1, d2, d3] => { results := [.lit (.bool true)], args := [d1, d2, d3] }
  | _ => none }
def merkleOtherRow : OpenClaim := { program := "ytnimbclnhgbdcaadoor", sum := "6b81743bb0f533c920b27ac68ab38de84bd8ddeea90da5169b3c34112ed2482a", func := "seedcorn/seedcornlaw04.MerkleOther", spec := "merkleOther", inPlace := ["internal/abi.NoEscape", "internal/bytealg.MakeNoZero"], recurses := true, named := ["seedcorn/digest.turns"], apart := false, laid := [("seedcorn/digest.turns", laid_seedcorn_digest_turns)] }
def MerkleOtherSaid : Prop := merkleOtherRow.holds Tryd.pinned (OpenSpec.ofChange merkleOtherSpec)

/-- ITS FALSE NEIGHBOUR: 'it returns false'. Refute it at one input. -/
def merkleOtherWrong : ChangeSpec := { name := "merkleOther", fn := fun _ => fun
  | [d1, d2, d3] => { results := [.lit (.bool false)], args := [d1, d2, d3] }
  | _ => none }
def MerkleOtherWrongFalsely : Prop := merkleOtherRow.holds Tryd.pinned (OpenSpec.ofChange merkleOtherWrong)

/-- 'seedcornlaw04.MerkleShort': WHATEVER THE INPUT: true; the input reads as it did. -/
def merkleShortSpec : ChangeSpec := { name := "merkleShort", fn := fun _ => fun
  | [d1, d2, d3] => { results := [.lit (.bool true)], args := [d1, d2, d3] }
  | _ => none }
def merkleShortRow : OpenClaim := { program := "ytnimbclnhgbdcaadoor", sum := "6b81743bb0f533c920b27ac68ab38de84bd8ddeea90da5169b3c34112ed2482a", func := "seedcorn/seedcornlaw04.MerkleShort", spec := "merkleShort", inPlace := ["internal/abi.NoEscape", "internal/bytealg.MakeNoZero"], recurses := true, named := ["seedcorn/digest.turns"], apart := false, laid := [("seedcorn/digest.turns", laid_seedcorn_digest_turns)] }
def MerkleShortSaid : Prop := merkleShortRow.holds Tryd.pinned (OpenSpec.ofChange merkleShortSpec)

/-- ITS FALSE NEIGHBOUR: 'it returns false'. Refute it at one input. -/
def merkleShortWrong : ChangeSpec := { name := "merkleShort", fn := fun _ => fun
  | [d1, d2, d3] => { results := [.lit (.bool false)], args := [d1, d2, d3] }
  | _ => none }
def MerkleShortWrongFalsely : Prop := merkleShortRow.holds Tryd.pinned (OpenSpec.ofChange merkleShortWrong)

/- THE SECOND FORM. 'bulk': how many values and letters a reading holds, each counted each time it is reached (what is shared counts as often as it is met; a slice's spare places count too). A statement '..UptoSaid' is the law's where the arguments, and the package variables that the reading takes, are together of bulk at most 1048576: NARROWER than '..Said'. Prove '..Said' where nothing that the law and all that it calls make is longer than what came in: it says more and counts as full. Else prove '..UptoSaid'. A law counts once. -/
mutual
def uptoBulk {H : Type} : DataW H → Nat
  | .lit (.string bytes) => bytes.length + 1
  | .lit _ => 1
  | .nil => 1
  | .ptr d => uptoBulk d + 1
  | .slice elems spare => uptoBulkAll elems + uptoBulkAll spare + 1
  | .agg parts => uptoBulkAll parts + 1
  | .iface _ d => uptoBulk d + 1
  | .map entries => uptoBulkEntries entries + 1
  | .held _ => 1
def uptoBulkAll {H : Type} : List (DataW H) → Nat
  | [] => 0
  | d :: r => uptoBulk d + uptoBulkAll r
def uptoBulkEntries {H : Type} : List (Lit × DataW H) → Nat
  | [] => 0
  | x :: r => uptoBulkEntry x + uptoBulkEntries r
def uptoBulkEntry {H : Type} : Lit × DataW H → Nat
  | (.string bytes, d) => bytes.length + uptoBulk d + 1
  | (_, d) => uptoBulk d + 1
 end
def uptoSmall : (H : Type) → List (DataW H) → Bool := fun _ ds => decide (uptoBulkAll ds ≤ 1048576)
def OpenSpec.upto (s : _root_.Go.ChangeSpec) : _root_.Go.OpenSpec := { _root_.Go.OpenSpec.ofChange s with cond := some uptoSmall }

/-- 'seedcornlaw04.MerkleProves', WHERE WHAT IT READS IS OF BULK AT MOST 1048576: true; the input reads as it did. -/
def merkleProvesUptoRow : OpenClaim := { program := "ytnimbclnhgbdcaadoor", sum := "6b81743bb0f533c920b27ac68ab38de84bd8ddeea90da5169b3c34112ed2482a", func := "seedcorn/seedcornlaw04.MerkleProves", spec := "merkleProves", inPlace := ["internal/abi.NoEscape", "internal/bytealg.MakeNoZero"], recurses := true, named := ["seedcorn/digest.turns"], apart := false, laid := [("seedcorn/digest.turns", laid_seedcorn_digest_turns)], narrowed := true }
def MerkleProvesUptoSaid : Prop := merkleProvesUptoRow.holds Tryd.pinned (OpenSpec.upto merkleProvesSpec)

/-- 'seedcornlaw04.MerkleChecks', WHERE WHAT IT READS IS OF BULK AT MOST 1048576: true; the input reads as it did. -/
def merkleChecksUptoRow : OpenClaim := { program := "ytnimbclnhgbdcaadoor", sum := "6b81743bb0f533c920b27ac68ab38de84bd8ddeea90da5169b3c34112ed2482a", func := "seedcorn/seedcornlaw04.MerkleChecks", spec := "merkleChecks", inPlace := ["internal/abi.NoEscape", "internal/bytealg.MakeNoZero"], recurses := true, named := ["seedcorn/digest.turns"], apart := false, laid := [("seedcorn/digest.turns", laid_seedcorn_digest_turns)], narrowed := true }
def MerkleChecksUptoSaid : Prop := merkleChecksUptoRow.holds Tryd.pinned (OpenSpec.upto merkleChecksSpec)

/-- 'seedcornlaw04.MerkleGoesOn', WHERE WHAT IT READS IS OF BULK AT MOST 1048576: true; the input reads as it did. -/
def merkleGoesOnUptoRow : OpenClaim := { program := "ytnimbclnhgbdcaadoor", sum := "6b81743bb0f533c920b27ac68ab38de84bd8ddeea90da5169b3c34112ed2482a", func := "seedcorn/seedcornlaw04.MerkleGoesOn", spec := "merkleGoesOn", inPlace := ["internal/abi.NoEscape", "internal/bytealg.MakeNoZero"], recurses := true, named := ["seedcorn/digest.turns"], apart := false, laid := [("seedcorn/digest.turns", laid_seedcorn_digest_turns)], narrowed := true }
def MerkleGoesOnUptoSaid : Prop := merkleGoesOnUptoRow.holds Tryd.pinned (OpenSpec.upto merkleGoesOnSpec)

/-- 'seedcornlaw04.MerkleChecksOn', WHERE WHAT IT READS IS OF BULK AT MOST 1048576: true; the input reads as it did. -/
def merkleChecksOnUptoRow : OpenClaim := { program := "ytnimbclnhgbdcaadoor", sum := "6b81743bb0f533c920b27ac68ab38de84bd8ddeea90da5169b3c34112ed2482a", func := "seedcorn/seedcornlaw04.MerkleChecksOn", spec := "merkleChecksOn", inPlace := ["internal/abi.NoEscape", "internal/bytealg.MakeNoZero"], recurses := true, named := ["seedcorn/digest.turns"], apart := false, laid := [("seedcorn/digest.turns", laid_seedcorn_digest_turns)], narrowed := true }
def MerkleChecksOnUptoSaid : Prop := merkleChecksOnUptoRow.holds Tryd.pinned (OpenSpec.upto merkleChecksOnSpec)

/-- 'seedcornlaw04.MerkleClashes', WHERE WHAT IT READS IS OF BULK AT MOST 1048576: true; the input reads as it did. -/
def merkleClashesUptoRow : OpenClaim := { program := "ytnimbclnhgbdcaadoor", sum := "6b81743bb0f533c920b27ac68ab38de84bd8ddeea90da5169b3c34112ed2482a", func := "seedcorn/seedcornlaw04.MerkleClashes", spec := "merkleClashes", inPlace := ["internal/abi.NoEscape", "internal/bytealg.MakeNoZero"], recurses := true, named := ["seedcorn/digest.turns"], apart := false, laid := [("seedcorn/digest.turns", laid_seedcorn_digest_turns)], narrowed := true }
def MerkleClashesUptoSaid : Prop := merkleClashesUptoRow.holds Tryd.pinned (OpenSpec.upto merkleClashesSpec)

/-- 'seedcornlaw04.MerkleOther', WHERE WHAT IT READS IS OF BULK AT MOST 1048576: true; the input reads as it did. -/
def merkleOtherUptoRow : OpenClaim := { program := "ytnimbclnhgbdcaadoor", sum := "6b81743bb0f533c920b27ac68ab38de84bd8ddeea90da5169b3c34112ed2482a", func := "seedcorn/seedcornlaw04.MerkleOther", spec := "merkleOther", inPlace := ["internal/abi.NoEscape", "internal/bytealg.MakeNoZero"], recurses := true, named := ["seedcorn/digest.turns"], apart := false, laid := [("seedcorn/digest.turns", laid_seedcorn_digest_turns)], narrowed := true }
def MerkleOtherUptoSaid : Prop := merkleOtherUptoRow.holds Tryd.pinned (OpenSpec.upto merkleOtherSpec)

/-- 'seedcornlaw04.MerkleShort', WHERE WHAT IT READS IS OF BULK AT MOST 1048576: true; the input reads as it did. -/
def merkleShortUptoRow : OpenClaim := { program := "ytnimbclnhgbdcaadoor", sum := "6b81743bb0f533c920b27ac68ab38de84bd8ddeea90da5169b3c34112ed2482a", func := "seedcorn/seedcornlaw04.MerkleShort", spec := "merkleShort", inPlace := ["internal/abi.NoEscape", "internal/bytealg.MakeNoZero"], recurses := true, named := ["seedcorn/digest.turns"], apart := false, laid := [("seedcorn/digest.turns", laid_seedcorn_digest_turns)], narrowed := true }
def MerkleShortUptoSaid : Prop := merkleShortUptoRow.holds Tryd.pinned (OpenSpec.upto merkleShortSpec)

end Rows
end Go.Proofs.YtnimbclnhgbdcaaDoor
