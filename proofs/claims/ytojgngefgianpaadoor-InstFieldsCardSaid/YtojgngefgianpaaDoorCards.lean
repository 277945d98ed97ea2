/-
  DERIVED. GIVEN WITH THE SEED: THE CARDS: each row of YtojgngefgianpaaDoorRows.lean that lists a variable, with what it lists TIED to the program's text (the seventh form; the later family's looks); each row that meets fmt, with fmt's text TOLD by the authors' own Lean function (tested against real Go, not proved from fmt's source: count such statements apart). THE CARD IS WHAT COUNTS. Prove the row's statement (the work); the ties are given (YtojgngefgianpaaDoorTie.lean); close each card by the builder's one call (the guide's Derived/Test/ToyasCard.lean, 'card_holds'). Laid BY PROGRAM, IN A SANDBOX (cutbox-door.mjs). By AI agents, Wed Nov 11 2026. No macro, syntax, notation, axiom, sorry.
-/
import Derived.Test.YtojgngefgianpaaDoorRows
import GoSem.ClaimSeven
namespace Go.Proofs.YtojgngefgianpaaDoor
namespace Rows

/-- THE TIED CARD OF 'seedcornlaw07.InstCodes'. -/
def instCodesCard : Claim7 := { stood := { row := instCodesRow, standIns := [], harness := (true, "84f79093dec0ca8d9e4ab1e4d9d9b291b9f9ea03ec522f245d2f66646c5dd2e8"), looks := false }, kinds := [], alts := [], laidByText := true, laidKinds := [.data, .data, .data, .data], laidTests := true, laidLooks := .later }
def InstCodesCardSaid : Prop := Claim7.holds Tryd.pinned (.plain (OpenSpec.ofChange instCodesSpec)) instCodesCard

/-- THE TIED CARD OF 'seedcornlaw07.InstReads'. -/
def instReadsCard : Claim7 := { stood := { row := instReadsRow, standIns := [], harness := (true, "84f79093dec0ca8d9e4ab1e4d9d9b291b9f9ea03ec522f245d2f66646c5dd2e8"), looks := false }, kinds := [], alts := [], laidByText := true, laidKinds := [.data, .data, .data, .data], laidTests := true, laidLooks := .later }
def InstReadsCardSaid : Prop := Claim7.holds Tryd.pinned (.plain (OpenSpec.ofChange instReadsSpec)) instReadsCard

/-- THE TIED CARD OF 'seedcornlaw07.InstNames'. -/
def instNamesCard : Claim7 := { stood := { row := instNamesRow, standIns := [], harness := (true, "84f79093dec0ca8d9e4ab1e4d9d9b291b9f9ea03ec522f245d2f66646c5dd2e8"), looks := false }, kinds := [], alts := [], laidByText := true, laidKinds := [.data, .data, .data, .data], laidTests := true, laidLooks := .later }
def InstNamesCardSaid : Prop := Claim7.holds Tryd.pinned (.plain (OpenSpec.ofChange instNamesSpec)) instNamesCard

/-- THE TIED CARD OF 'seedcornlaw07.InstApart'. -/
def instApartCard : Claim7 := { stood := { row := instApartRow, standIns := [], harness := (true, "84f79093dec0ca8d9e4ab1e4d9d9b291b9f9ea03ec522f245d2f66646c5dd2e8"), looks := false }, kinds := [], alts := [], laidByText := true, laidKinds := [.data, .data, .data, .data], laidTests := true, laidLooks := .later }
def InstApartCardSaid : Prop := Claim7.holds Tryd.pinned (.plain (OpenSpec.ofChange instApartSpec)) instApartCard

/-- THE TIED CARD OF 'seedcornlaw07.InstFields'. -/
def instFieldsCard : Claim7 := { stood := { row := instFieldsRow, standIns := [], harness := (true, "84f79093dec0ca8d9e4ab1e4d9d9b291b9f9ea03ec522f245d2f66646c5dd2e8"), looks := false }, kinds := [], alts := [], laidByText := true, laidKinds := [.data, .data, .data, .data], laidTests := true, laidLooks := .later }
def InstFieldsCardSaid : Prop := Claim7.holds Tryd.pinned (.plain (OpenSpec.ofChange instFieldsSpec)) instFieldsCard

/-- THE TIED CARD OF 'seedcornlaw07.InstCounts'. -/
def instCountsCard : Claim7 := { stood := { row := instCountsRow, standIns := [], harness := (true, "84f79093dec0ca8d9e4ab1e4d9d9b291b9f9ea03ec522f245d2f66646c5dd2e8"), looks := false }, kinds := [], alts := [], laidByText := true, laidKinds := [.data, .data, .data, .data], laidTests := true, laidLooks := .later }
def InstCountsCardSaid : Prop := Claim7.holds Tryd.pinned (.plain (OpenSpec.ofChange instCountsSpec)) instCountsCard

/-- THE SECOND FORM's CARD OF 'seedcornlaw07.InstCodes'. -/
def instCodesUptoCard : Claim7 := { stood := { row := instCodesUptoRow, standIns := [], harness := (true, "84f79093dec0ca8d9e4ab1e4d9d9b291b9f9ea03ec522f245d2f66646c5dd2e8"), looks := false }, kinds := [], alts := [], laidByText := true, laidKinds := [.data, .data, .data, .data], laidTests := true, laidLooks := .later }
def InstCodesUptoCardSaid : Prop := Claim7.holds Tryd.pinned (.plain (OpenSpec.upto instCodesSpec)) instCodesUptoCard

/-- THE SECOND FORM's CARD OF 'seedcornlaw07.InstReads'. -/
def instReadsUptoCard : Claim7 := { stood := { row := instReadsUptoRow, standIns := [], harness := (true, "84f79093dec0ca8d9e4ab1e4d9d9b291b9f9ea03ec522f245d2f66646c5dd2e8"), looks := false }, kinds := [], alts := [], laidByText := true, laidKinds := [.data, .data, .data, .data], laidTests := true, laidLooks := .later }
def InstReadsUptoCardSaid : Prop := Claim7.holds Tryd.pinned (.plain (OpenSpec.upto instReadsSpec)) instReadsUptoCard

/-- THE SECOND FORM's CARD OF 'seedcornlaw07.InstNames'. -/
def instNamesUptoCard : Claim7 := { stood := { row := instNamesUptoRow, standIns := [], harness := (true, "84f79093dec0ca8d9e4ab1e4d9d9b291b9f9ea03ec522f245d2f66646c5dd2e8"), looks := false }, kinds := [], alts := [], laidByText := true, laidKinds := [.data, .data, .data, .data], laidTests := true, laidLooks := .later }
def InstNamesUptoCardSaid : Prop := Claim7.holds Tryd.pinned (.plain (OpenSpec.upto instNamesSpec)) instNamesUptoCard

/-- THE SECOND FORM's CARD OF 'seedcornlaw07.InstApart'. -/
def instApartUptoCard : Claim7 := { stood := { row := instApartUptoRow, standIns := [], harness := (true, "84f79093dec0ca8d9e4ab1e4d9d9b291b9f9ea03ec522f245d2f66646c5dd2e8"), looks := false }, kinds := [], alts := [], laidByText := true, laidKinds := [.data, .data, .data, .data], laidTests := true, laidLooks := .later }
def InstApartUptoCardSaid : Prop := Claim7.holds Tryd.pinned (.plain (OpenSpec.upto instApartSpec)) instApartUptoCard

/-- THE SECOND FORM's CARD OF 'seedcornlaw07.InstFields'. -/
def instFieldsUptoCard : Claim7 := { stood := { row := instFieldsUptoRow, standIns := [], harness := (true, "84f79093dec0ca8d9e4ab1e4d9d9b291b9f9ea03ec522f245d2f66646c5dd2e8"), looks := false }, kinds := [], alts := [], laidByText := true, laidKinds := [.data, .data, .data, .data], laidTests := true, laidLooks := .later }
def InstFieldsUptoCardSaid : Prop := Claim7.holds Tryd.pinned (.plain (OpenSpec.upto instFieldsSpec)) instFieldsUptoCard

/-- THE SECOND FORM's CARD OF 'seedcornlaw07.InstCounts'. -/
def instCountsUptoCard : Claim7 := { stood := { row := instCountsUptoRow, standIns := [], harness := (true, "84f79093dec0ca8d9e4ab1e4d9d9b291b9f9ea03ec522f245d2f66646c5dd2e8"), looks := false }, kinds := [], alts := [], laidByText := true, laidKinds := [.data, .data, .data, .data], laidTests := true, laidLooks := .later }
def InstCountsUptoCardSaid : Prop := Claim7.holds Tryd.pinned (.plain (OpenSpec.upto instCountsSpec)) instCountsUptoCard
end Rows
end Go.Proofs.YtojgngefgianpaaDoor
