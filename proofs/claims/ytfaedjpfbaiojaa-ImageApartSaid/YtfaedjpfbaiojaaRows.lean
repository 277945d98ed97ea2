/-
  No cell of these rows narrows 'for every input' (looked for: loops, veiled, ifaces, maps, wideKeys, modest, calm, conditions, laid).
  DERIVED. THE GIVEN ROWS OF THIS SEAT. 7 by the template 'for every input the law returns true; each argument reads behind the call as it read before'; 0 by the template 'total and deterministic' (their statements: YtfaedjpfbaiojaaTotals.lean).
  GIVEN WITH THE SEED: the statements are not yours to turn. If you find one false, say at which input.
  Laid BY PROGRAM, IN A SANDBOX (cutbox-rows.mjs): the forced cells as the released guide's own fill.sh prints them over the translation 2d7ea8d013c0f200… (all of the seat's roots in one cut). By AI agents, Wed Nov 11 2026. No macro, syntax, notation, axiom, sorry.
-/
import Derived.Test.YtfaedjpfbaiojaaChecked
import GoSem.Claim
import GoSem.ClaimJoined
import GoSem.ClaimMapViews
import Derived.JoinedTies
import Derived.KernelRfl
namespace Go.Proofs.Ytfaedjpfbaiojaa
/- THE CELL 'sum', in the pinned program and in every row, IS THE sha256 OF THE DUMP (.gsa) THAT YtfaedjpfbaiojaaProg.lean LOADS. Nothing in Lean hashes anything: it is a label: what it is worth is what the hold of that sum in a sandbox is worth. -/
noncomputable def Try.pinned : Pinned := { name := "ytfaedjpfbaiojaa", sum := "2d7ea8d013c0f20024e9f5bc30c50fe12437181109f73027f9f570fd0bc8dbf7", checked := Try.checked }
namespace Rows
def none {H : Type} : Left H := { results := [], args := [] }

/-- 'seedcornlaw08.ImageRight': WHATEVER THE INPUT: true; the input reads as it did. -/
def imageRightSpec : ChangeSpec := { name := "imageRight", fn := fun _ => fun
  | [d1, d2] => { results := [.lit (.bool true)], args := [d1, d2] }
  | _ => none }
def imageRightRow : OpenClaim := { program := "ytfaedjpfbaiojaa", sum := "2d7ea8d013c0f20024e9f5bc30c50fe12437181109f73027f9f570fd0bc8dbf7", func := "seedcorn/seedcornlaw08.ImageRight", spec := "imageRight", inPlace := ["internal/abi.NoEscape", "internal/bytealg.MakeNoZero"], unfollowed := true, recurses := true, apart := false }
def ImageRightSaid : Prop := imageRightRow.holds Try.pinned (OpenSpec.ofChange imageRightSpec)

/-- ITS FALSE NEIGHBOUR: 'it returns false'. Refute it at one input. -/
def imageRightWrong : ChangeSpec := { name := "imageRight", fn := fun _ => fun
  | [d1, d2] => { results := [.lit (.bool false)], args := [d1, d2] }
  | _ => none }
def ImageRightWrongFalsely : Prop := imageRightRow.holds Try.pinned (OpenSpec.ofChange imageRightWrong)

/-- 'seedcornlaw08.ImagePuts': WHATEVER THE INPUT: true; the input reads as it did. -/
def imagePutsSpec : ChangeSpec := { name := "imagePuts", fn := fun _ => fun
  | [d] => { results := [.lit (.bool true)], args := [d] }
  | _ => none }
def imagePutsRow : OpenClaim := { program := "ytfaedjpfbaiojaa", sum := "2d7ea8d013c0f20024e9f5bc30c50fe12437181109f73027f9f570fd0bc8dbf7", func := "seedcorn/seedcornlaw08.ImagePuts", spec := "imagePuts", inPlace := ["internal/abi.NoEscape", "internal/bytealg.MakeNoZero"], unfollowed := true, recurses := true, apart := false }
def ImagePutsSaid : Prop := imagePutsRow.holds Try.pinned (OpenSpec.ofChange imagePutsSpec)

/-- ITS FALSE NEIGHBOUR: 'it returns false'. Refute it at one input. -/
def imagePutsWrong : ChangeSpec := { name := "imagePuts", fn := fun _ => fun
  | [d] => { results := [.lit (.bool false)], args := [d] }
  | _ => none }
def ImagePutsWrongFalsely : Prop := imagePutsRow.holds Try.pinned (OpenSpec.ofChange imagePutsWrong)

/-- 'seedcornlaw08.ImageReads': WHATEVER THE INPUT: true; the input reads as it did. -/
def imageReadsSpec : ChangeSpec := { name := "imageReads", fn := fun _ => fun
  | [d] => { results := [.lit (.bool true)], args := [d] }
  | _ => none }
def imageReadsRow : OpenClaim := { program := "ytfaedjpfbaiojaa", sum := "2d7ea8d013c0f20024e9f5bc30c50fe12437181109f73027f9f570fd0bc8dbf7", func := "seedcorn/seedcornlaw08.ImageReads", spec := "imageReads", inPlace := ["internal/abi.NoEscape", "internal/bytealg.MakeNoZero"], unfollowed := true, recurses := true, apart := false }
def ImageReadsSaid : Prop := imageReadsRow.holds Try.pinned (OpenSpec.ofChange imageReadsSpec)

/-- ITS FALSE NEIGHBOUR: 'it returns false'. Refute it at one input. -/
def imageReadsWrong : ChangeSpec := { name := "imageReads", fn := fun _ => fun
  | [d] => { results := [.lit (.bool false)], args := [d] }
  | _ => none }
def ImageReadsWrongFalsely : Prop := imageReadsRow.holds Try.pinned (OpenSpec.ofChange imageReadsWrong)

/-- 'seedcornlaw08.ImageCut': WHATEVER THE INPUT: true; the input reads as it did. -/
def imageCutSpec : ChangeSpec := { name := "imageCut", fn := fun _ => fun
  | [d1, d2, d3] => { results := [.lit (.bool true)], args := [d1, d2, d3] }
  | _ => none }
def imageCutRow : OpenClaim := { program := "ytfaedjpfbaiojaa", sum := "2d7ea8d013c0f20024e9f5bc30c50fe12437181109f73027f9f570fd0bc8dbf7", func := "seedcorn/seedcornlaw08.ImageCut", spec := "imageCut", inPlace := ["internal/abi.NoEscape", "internal/bytealg.MakeNoZero"], unfollowed := true, recurses := true, apart := false }
def ImageCutSaid : Prop := imageCutRow.holds Try.pinned (OpenSpec.ofChange imageCutSpec)

/-- ITS FALSE NEIGHBOUR: 'it returns false'. Refute it at one input. -/
def imageCutWrong : ChangeSpec := { name := "imageCut", fn := fun _ => fun
  | [d1, d2, d3] => { results := [.lit (.bool false)], args := [d1, d2, d3] }
  | _ => none }
def ImageCutWrongFalsely : Prop := imageCutRow.holds Try.pinned (OpenSpec.ofChange imageCutWrong)

/-- 'seedcornlaw08.ImageApart': WHATEVER THE INPUT: true; the input reads as it did. -/
def imageApartSpec : ChangeSpec := { name := "imageApart", fn := fun _ => fun
  | [d1, d2, d3] => { results := [.lit (.bool true)], args := [d1, d2, d3] }
  | _ => none }
def imageApartRow : OpenClaim := { program := "ytfaedjpfbaiojaa", sum := "2d7ea8d013c0f20024e9f5bc30c50fe12437181109f73027f9f570fd0bc8dbf7", func := "seedcorn/seedcornlaw08.ImageApart", spec := "imageApart", inPlace := ["internal/abi.NoEscape", "internal/bytealg.MakeNoZero"], unfollowed := true, recurses := true, apart := false }
def ImageApartSaid : Prop := imageApartRow.holds Try.pinned (OpenSpec.ofChange imageApartSpec)

/-- ITS FALSE NEIGHBOUR: 'it returns false'. Refute it at one input. -/
def imageApartWrong : ChangeSpec := { name := "imageApart", fn := fun _ => fun
  | [d1, d2, d3] => { results := [.lit (.bool false)], args := [d1, d2, d3] }
  | _ => none }
def ImageApartWrongFalsely : Prop := imageApartRow.holds Try.pinned (OpenSpec.ofChange imageApartWrong)

/-- 'seedcornlaw08.ImagePrefix': WHATEVER THE INPUT: true; the input reads as it did. -/
def imagePrefixSpec : ChangeSpec := { name := "imagePrefix", fn := fun _ => fun
  | [d1, d2] => { results := [.lit (.bool true)], args := [d1, d2] }
  | _ => none }
def imagePrefixRow : OpenClaim := { program := "ytfaedjpfbaiojaa", sum := "2d7ea8d013c0f20024e9f5bc30c50fe12437181109f73027f9f570fd0bc8dbf7", func := "seedcorn/seedcornlaw08.ImagePrefix", spec := "imagePrefix", inPlace := ["internal/abi.NoEscape", "internal/bytealg.MakeNoZero"], unfollowed := true, recurses := true, apart := false }
def ImagePrefixSaid : Prop := imagePrefixRow.holds Try.pinned (OpenSpec.ofChange imagePrefixSpec)

/-- ITS FALSE NEIGHBOUR: 'it returns false'. Refute it at one input. -/
def imagePrefixWrong : ChangeSpec := { name := "imagePrefix", fn := fun _ => fun
  | [d1, d2] => { results := [.lit (.bool false)], args := [d1, d2] }
  | _ => none }
def ImagePrefixWrongFalsely : Prop := imagePrefixRow.holds Try.pinned (OpenSpec.ofChange imagePrefixWrong)

/-- 'seedcornlaw08.ImageGoesOn': WHATEVER THE INPUT: true; the input reads as it did. -/
def imageGoesOnSpec : ChangeSpec := { name := "imageGoesOn", fn := fun _ => fun
  | [d1, d2] => { results := [.lit (.bool true)], args := [d1, d2] }
  | _ => none }
def imageGoesOnRow : OpenClaim := { program := "ytfaedjpfbaiojaa", sum := "2d7ea8d013c0f20024e9f5bc30c50fe12437181109f73027f9f570fd0bc8dbf7", func := "seedcorn/seedcornlaw08.ImageGoesOn", spec := "imageGoesOn", inPlace := ["internal/abi.NoEscape", "internal/bytealg.MakeNoZero"], unfollowed := true, recurses := true, apart := false }
def ImageGoesOnSaid : Prop := imageGoesOnRow.holds Try.pinned (OpenSpec.ofChange imageGoesOnSpec)

/-- ITS FALSE NEIGHBOUR: 'it returns false'. Refute it at one input. -/
def imageGoesOnWrong : ChangeSpec := { name := "imageGoesOn", fn := fun _ => fun
  | [d1, d2] => { results := [.lit (.bool false)], args := [d1, d2] }
  | _ => none }
def ImageGoesOnWrongFalsely : Prop := imageGoesOnRow.holds Try.pinned (OpenSpec.ofChange imageGoesOnWrong)

/- THE SECOND FORM. 'bulk': how many values and letters a reading holds, each counted each time it is reached (what is shared counts as often as it is met; a slice's spare places count too). A statement '..UptoSaid' is the law's where the arguments, and the package variables that the reading takes, are together of bulk at most 1048576: NARROWER than '..Said'. Prove '..Said' where nothing that the law and all that it calls make is longer than what came in: it says more and counts as full. Else prove '..UptoSaid'. A law counts once. -/
mutual
def uptoBulk {H : Type} : DataW H → Nat
  | .lit (.string bytes) => bytes.length + 1
  | .lit _ => 1
  | .nil => 1
  | .ptr d => uptoBulk d + 1
  | .slice elems spare => uptoBulkAll elems + uptoBulkAll spare + 1
  | .agg parts => uptoBulkAll parts + 1
  | .iface _ d => uptoBulk d + 1
  | .map entries => uptoBulkEntries entries + 1
  | .held _ => 1
def uptoBulkAll {H : Type} : List (DataW H) → Nat
  | [] => 0
  | d :: r => uptoBulk d + uptoBulkAll r
def uptoBulkEntries {H : Type} : List (Lit × DataW H) → Nat
  | [] => 0
  | x :: r => uptoBulkEntry x + uptoBulkEntries r
def uptoBulkEntry {H : Type} : Lit × DataW H → Nat
  | (.string bytes, d) => bytes.length + uptoBulk d + 1
  | (_, d) => uptoBulk d + 1
 end
def uptoSmall : (H : Type) → List (DataW H) → Bool := fun _ ds => decide (uptoBulkAll ds ≤ 1048576)
def OpenSpec.upto (s : _root_.Go.ChangeSpec) : _root_.Go.OpenSpec := { _root_.Go.OpenSpec.ofChange s with cond := some uptoSmall }

/-- 'seedcornlaw08.ImageRight', WHERE WHAT IT READS IS OF BULK AT MOST 1048576: true; the input reads as it did. -/
def imageRightUptoRow : OpenClaim := { program := "ytfaedjpfbaiojaa", sum := "2d7ea8d013c0f20024e9f5bc30c50fe12437181109f73027f9f570fd0bc8dbf7", func := "seedcorn/seedcornlaw08.ImageRight", spec := "imageRight", inPlace := ["internal/abi.NoEscape", "internal/bytealg.MakeNoZero"], unfollowed := true, recurses := true, apart := false, narrowed := true }
def ImageRightUptoSaid : Prop := imageRightUptoRow.holds Try.pinned (OpenSpec.upto imageRightSpec)

/-- 'seedcornlaw08.ImagePuts', WHERE WHAT IT READS IS OF BULK AT MOST 1048576: true; the input reads as it did. -/
def imagePutsUptoRow : OpenClaim := { program := "ytfaedjpfbaiojaa", sum := "2d7ea8d013c0f20024e9f5bc30c50fe12437181109f73027f9f570fd0bc8dbf7", func := "seedcorn/seedcornlaw08.ImagePuts", spec := "imagePuts", inPlace := ["internal/abi.NoEscape", "internal/bytealg.MakeNoZero"], unfollowed := true, recurses := true, apart := false, narrowed := true }
def ImagePutsUptoSaid : Prop := imagePutsUptoRow.holds Try.pinned (OpenSpec.upto imagePutsSpec)

/-- 'seedcornlaw08.ImageReads', WHERE WHAT IT READS IS OF BULK AT MOST 1048576: true; the input reads as it did. -/
def imageReadsUptoRow : OpenClaim := { program := "ytfaedjpfbaiojaa", sum := "2d7ea8d013c0f20024e9f5bc30c50fe12437181109f73027f9f570fd0bc8dbf7", func := "seedcorn/seedcornlaw08.ImageReads", spec := "imageReads", inPlace := ["internal/abi.NoEscape", "internal/bytealg.MakeNoZero"], unfollowed := true, recurses := true, apart := false, narrowed := true }
def ImageReadsUptoSaid : Prop := imageReadsUptoRow.holds Try.pinned (OpenSpec.upto imageReadsSpec)

/-- 'seedcornlaw08.ImageCut', WHERE WHAT IT READS IS OF BULK AT MOST 1048576: true; the input reads as it did. -/
def imageCutUptoRow : OpenClaim := { program := "ytfaedjpfbaiojaa", sum := "2d7ea8d013c0f20024e9f5bc30c50fe12437181109f73027f9f570fd0bc8dbf7", func := "seedcorn/seedcornlaw08.ImageCut", spec := "imageCut", inPlace := ["internal/abi.NoEscape", "internal/bytealg.MakeNoZero"], unfollowed := true, recurses := true, apart := false, narrowed := true }
def ImageCutUptoSaid : Prop := imageCutUptoRow.holds Try.pinned (OpenSpec.upto imageCutSpec)

/-- 'seedcornlaw08.ImageApart', WHERE WHAT IT READS IS OF BULK AT MOST 1048576: true; the input reads as it did. -/
def imageApartUptoRow : OpenClaim := { program := "ytfaedjpfbaiojaa", sum := "2d7ea8d013c0f20024e9f5bc30c50fe12437181109f73027f9f570fd0bc8dbf7", func := "seedcorn/seedcornlaw08.ImageApart", spec := "imageApart", inPlace := ["internal/abi.NoEscape", "internal/bytealg.MakeNoZero"], unfollowed := true, recurses := true, apart := false, narrowed := true }
def ImageApartUptoSaid : Prop := imageApartUptoRow.holds Try.pinned (OpenSpec.upto imageApartSpec)

/-- 'seedcornlaw08.ImagePrefix', WHERE WHAT IT READS IS OF BULK AT MOST 1048576: true; the input reads as it did. -/
def imagePrefixUptoRow : OpenClaim := { program := "ytfaedjpfbaiojaa", sum := "2d7ea8d013c0f20024e9f5bc30c50fe12437181109f73027f9f570fd0bc8dbf7", func := "seedcorn/seedcornlaw08.ImagePrefix", spec := "imagePrefix", inPlace := ["internal/abi.NoEscape", "internal/bytealg.MakeNoZero"], unfollowed := true, recurses := true, apart := false, narrowed := true }
def ImagePrefixUptoSaid : Prop := imagePrefixUptoRow.holds Try.pinned (OpenSpec.upto imagePrefixSpec)

/-- 'seedcornlaw08.ImageGoesOn', WHERE WHAT IT READS IS OF BULK AT MOST 1048576: true; the input reads as it did. -/
def imageGoesOnUptoRow : OpenClaim := { program := "ytfaedjpfbaiojaa", sum := "2d7ea8d013c0f20024e9f5bc30c50fe12437181109f73027f9f570fd0bc8dbf7", func := "seedcorn/seedcornlaw08.ImageGoesOn", spec := "imageGoesOn", inPlace := ["internal/abi.NoEscape", "internal/bytealg.MakeNoZero"], unfollowed := true, recurses := true, apart := false, narrowed := true }
def ImageGoesOnUptoSaid : Prop := imageGoesOnUptoRow.holds Try.pinned (OpenSpec.upto imageGoesOnSpec)

end Rows
end Go.Proofs.Ytfaedjpfbaiojaa
