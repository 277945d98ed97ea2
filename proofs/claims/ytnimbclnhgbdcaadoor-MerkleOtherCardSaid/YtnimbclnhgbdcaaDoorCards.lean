/-
  DERIVED. GIVEN WITH THE SEED: THE CARDS: each row of YtnimbclnhgbdcaaDoorRows.lean that lists a variable, with what it lists TIED to the program's text (the seventh form; the later family's looks); each row that meets fmt, with fmt's text TOLD by the authors' own Lean function (tested against real Go, not proved from fmt's source: count such statements apart). THE CARD IS WHAT COUNTS. Prove the row's statement (the work); the ties are given (YtnimbclnhgbdcaaDoorTie.lean); close each card by the builder's one call (the guide's Derived/Test/ToyasCard.lean, 'card_holds'). Laid BY PROGRAM, IN A SANDBOX (cutbox-door.mjs). By AI agents, Wed Nov 11 2026. No macro, syntax, notation, axiom, sorry.
-/
import Derived.Test.YtnimbclnhgbdcaaDoorRows
import GoSem.ClaimSeven
namespace Go.Proofs.YtnimbclnhgbdcaaDoor
namespace Rows

/-- THE TIED CARD OF 'seedcornlaw04.MerkleProves'. -/
def merkleProvesCard : Claim7 := { stood := { row := merkleProvesRow, standIns := [], harness := (true, "ebe472d8d49ae2f464c73e09975b67703a8f75a4573841193703349ff74b4f26"), looks := false }, kinds := [], alts := [], laidByText := true, laidKinds := [.data], laidTests := true, laidLooks := .later }
def MerkleProvesCardSaid : Prop := Claim7.holds Tryd.pinned (.plain (OpenSpec.ofChange merkleProvesSpec)) merkleProvesCard

/-- THE TIED CARD OF 'seedcornlaw04.MerkleChecks'. -/
def merkleChecksCard : Claim7 := { stood := { row := merkleChecksRow, standIns := [], harness := (true, "ebe472d8d49ae2f464c73e09975b67703a8f75a4573841193703349ff74b4f26"), looks := false }, kinds := [], alts := [], laidByText := true, laidKinds := [.data], laidTests := true, laidLooks := .later }
def MerkleChecksCardSaid : Prop := Claim7.holds Tryd.pinned (.plain (OpenSpec.ofChange merkleChecksSpec)) merkleChecksCard

/-- THE TIED CARD OF 'seedcornlaw04.MerkleGoesOn'. -/
def merkleGoesOnCard : Claim7 := { stood := { row := merkleGoesOnRow, standIns := [], harness := (true, "ebe472d8d49ae2f464c73e09975b67703a8f75a4573841193703349ff74b4f26"), looks := false }, kinds := [], alts := [], laidByText := true, laidKinds := [.data], laidTests := true, laidLooks := .later }
def MerkleGoesOnCardSaid : Prop := Claim7.holds Tryd.pinned (.plain (OpenSpec.ofChange merkleGoesOnSpec)) merkleGoesOnCard

/-- THE TIED CARD OF 'seedcornlaw04.MerkleChecksOn'. -/
def merkleChecksOnCard : Claim7 := { stood := { row := merkleChecksOnRow, standIns := [], harness := (true, "ebe472d8d49ae2f464c73e09975b67703a8f75a4573841193703349ff74b4f26"), looks := false }, kinds := [], alts := [], laidByText := true, laidKinds := [.data], laidTests := true, laidLooks := .later }
def MerkleChecksOnCardSaid : Prop := Claim7.holds Tryd.pinned (.plain (OpenSpec.ofChange merkleChecksOnSpec)) merkleChecksOnCard

/-- THE TIED CARD OF 'seedcornlaw04.MerkleClashes'. -/
def merkleClashesCard : Claim7 := { stood := { row := merkleClashesRow, standIns := [], harness := (true, "ebe472d8d49ae2f464c73e09975b67703a8f75a4573841193703349ff74b4f26"), looks := false }, kinds := [], alts := [], laidByText := true, laidKinds := [.data], laidTests := true, laidLooks := .later }
def MerkleClashesCardSaid : Prop := Claim7.holds Tryd.pinned (.plain (OpenSpec.ofChange merkleClashesSpec)) merkleClashesCard

/-- THE TIED CARD OF 'seedcornlaw04.MerkleOther'. -/
def merkleOtherCard : Claim7 := { stood := { row := merkleOtherRow, standIns := [], harness := (true, "ebe472d8d49ae2f464c73e09975b67703a8f75a4573841193703349ff74b4f26"), looks := false }, kinds := [], alts := [], laidByText := true, laidKinds := [.data], laidTests := true, laidLooks := .later }
def MerkleOtherCardSaid : Prop := Claim7.holds Tryd.pinned (.plain (OpenSpec.ofChange merkleOtherSpec)) merkleOtherCard

/-- THE TIED CARD OF 'seedcornlaw04.MerkleShort'. -/
def merkleShortCard : Claim7 := { stood := { row := merkleShortRow, standIns := [], harness := (true, "ebe472d8d49ae2f464c73e09975b67703a8f75a4573841193703349ff74b4f26"), looks := false }, kinds := [], alts := [], laidByText := true, laidKinds := [.data], laidTests := true, laidLooks := .later }
def MerkleShortCardSaid : Prop := Claim7.holds Tryd.pinned (.plain (OpenSpec.ofChange merkleShortSpec)) merkleShortCard

/-- THE SECOND FORM's CARD OF 'seedcornlaw04.MerkleProves'. -/
def merkleProvesUptoCard : Claim7 := { stood := { row := merkleProvesUptoRow, standIns := [], harness := (true, "ebe472d8d49ae2f464c73e09975b67703a8f75a4573841193703349ff74b4f26"), looks := false }, kinds := [], alts := [], laidByText := true, laidKinds := [.data], laidTests := true, laidLooks := .later }
def MerkleProvesUptoCardSaid : Prop := Claim7.holds Tryd.pinned (.plain (OpenSpec.upto merkleProvesSpec)) merkleProvesUptoCard

/-- THE SECOND FORM's CARD OF 'seedcornlaw04.MerkleChecks'. -/
def merkleChecksUptoCard : Claim7 := { stood := { row := merkleChecksUptoRow, standIns := [], harness := (true, "ebe472d8d49ae2f464c73e09975b67703a8f75a4573841193703349ff74b4f26"), looks := false }, kinds := [], alts := [], laidByText := true, laidKinds := [.data], laidTests := true, laidLooks := .later }
def MerkleChecksUptoCardSaid : Prop := Claim7.holds Tryd.pinned (.plain (OpenSpec.upto merkleChecksSpec)) merkleChecksUptoCard

/-- THE SECOND FORM's CARD OF 'seedcornlaw04.MerkleGoesOn'. -/
def merkleGoesOnUptoCard : Claim7 := { stood := { row := merkleGoesOnUptoRow, standIns := [], harness := (true, "ebe472d8d49ae2f464c73e09975b67703a8f75a4573841193703349ff74b4f26"), looks := false }, kinds := [], alts := [], laidByText := true, laidKinds := [.data], laidTests := true, laidLooks := .later }
def MerkleGoesOnUptoCardSaid : Prop := Claim7.holds Tryd.pinned (.plain (OpenSpec.upto merkleGoesOnSpec)) merkleGoesOnUptoCard

/-- THE SECOND FORM's CARD OF 'seedcornlaw04.MerkleChecksOn'. -/
def merkleChecksOnUptoCard : Claim7 := { stood := { row := merkleChecksOnUptoRow, standIns := [], harness := (true, "ebe472d8d49ae2f464c73e09975b67703a8f75a4573841193703349ff74b4f26"), looks := false }, kinds := [], alts := [], laidByText := true, laidKinds := [.data], laidTests := true, laidLooks := .later }
def MerkleChecksOnUptoCardSaid : Prop := Claim7.holds Tryd.pinned (.plain (OpenSpec.upto merkleChecksOnSpec)) merkleChecksOnUptoCard

/-- THE SECOND FORM's CARD OF 'seedcornlaw04.MerkleClashes'. -/
def merkleClashesUptoCard : Claim7 := { stood := { row := merkleClashesUptoRow, standIns := [], harness := (true, "ebe472d8d49ae2f464c73e09975b67703a8f75a4573841193703349ff74b4f26"), looks := false }, kinds := [], alts := [], laidByText := true, laidKinds := [.data], laidTests := true, laidLooks := .later }
def MerkleClashesUptoCardSaid : Prop := Claim7.holds Tryd.pinned (.plain (OpenSpec.upto merkleClashesSpec)) merkleClashesUptoCard

/-- THE SECOND FORM's CARD OF 'seedcornlaw04.MerkleOther'. -/
def merkleOtherUptoCard : Claim7 := { stood := { row := merkleOtherUptoRow, standIns := [], harness := (true, "ebe472d8d49ae2f464c73e09975b67703a8f75a4573841193703349ff74b4f26"), looks := false }, kinds := [], alts := [], laidByText := true, laidKinds := [.data], laidTests := true, laidLooks := .later }
def MerkleOtherUptoCardSaid : Prop := Claim7.holds Tryd.pinned (.plain (OpenSpec.upto merkleOtherSpec)) merkleOtherUptoCard

/-- THE SECOND FORM's CARD OF 'seedcornlaw04.MerkleShort'. -/
def merkleShortUptoCard : Claim7 := { stood := { row := merkleShortUptoRow, standIns := [], harness := (true, "ebe472d8d49ae2f464c73e09975b67703a8f75a4573841193703349ff74b4f26"), looks := false }, kinds := [], alts := [], laidByText := true, laidKinds := [.data], laidTests := true, laidLooks := .later }
def MerkleShortUptoCardSaid : Prop := Claim7.holds Tryd.pinned (.plain (OpenSpec.upto merkleShortSpec)) merkleShortUptoCard
end Rows
end Go.Proofs.YtnimbclnhgbdcaaDoor
