/-
  DERIVED. GIVEN WITH THE SEED: THE CARDS: each row of YtbahbnbpmfgimaaGreatDoorRows.lean that lists a variable, with what it lists TIED to the program's text (the seventh form; the later family's looks); each row that meets fmt, with fmt's text TOLD by the authors' own Lean function (tested against real Go, not proved from fmt's source: count such statements apart). THE CARD IS WHAT COUNTS. Prove the row's statement (the work); the ties are given (YtbahbnbpmfgimaaGreatDoorTie.lean); close each card by the builder's one call (the guide's Derived/Test/ToyasCard.lean, 'card_holds'). Laid BY PROGRAM, IN A SANDBOX (cutbox-door.mjs). By AI agents, Wed Nov 11 2026. No macro, syntax, notation, axiom, sorry.
-/
import Derived.Test.YtbahbnbpmfgimaaGreatDoorRows
import GoSem.ClaimSeven
namespace Go.Proofs.YtbahbnbpmfgimaaGreatDoor
namespace Rows

/-- THE TIED CARD OF 'hypostylelaw23.RootsMake'. -/
def rootsMakeCard : Claim7 := { stood := { row := rootsMakeRow, standIns := [], harness := (true, "3aa33a79513aba1c11caceb67751ebf86a4430655b02308b2f7a0fbbda459bd1"), looks := false }, kinds := [], alts := [], laidByText := true, laidKinds := [.data, .data], laidTests := true, laidLooks := .later }
def RootsMakeCardSaid : Prop := Claim7.holds Tryz.pinned (.plain (OpenSpec.ofChange rootsMakeSpec)) rootsMakeCard

/-- THE TIED CARD OF 'hypostylelaw23.RootsApart'. -/
def rootsApartCard : Claim7 := { stood := { row := rootsApartRow, standIns := [], harness := (true, "3aa33a79513aba1c11caceb67751ebf86a4430655b02308b2f7a0fbbda459bd1"), looks := false }, kinds := [], alts := [], laidByText := true, laidKinds := [.data, .data], laidTests := true, laidLooks := .later }
def RootsApartCardSaid : Prop := Claim7.holds Tryz.pinned (.plain (OpenSpec.ofChange rootsApartSpec)) rootsApartCard

/-- THE TIED CARD OF 'hypostylelaw23.RootsTable'. -/
def rootsTableCard : Claim7 := { stood := { row := rootsTableRow, standIns := [], harness := (true, "3aa33a79513aba1c11caceb67751ebf86a4430655b02308b2f7a0fbbda459bd1"), looks := false }, kinds := [], alts := [], laidByText := true, laidKinds := [.data, .data], laidTests := true, laidLooks := .later }
def RootsTableCardSaid : Prop := Claim7.holds Tryz.pinned (.plain (OpenSpec.ofChange rootsTableSpec)) rootsTableCard

/-- THE TIED CARD OF 'hypostylelaw23.RootsPages'. -/
def rootsPagesCard : Claim7 := { stood := { row := rootsPagesRow, standIns := [], harness := (true, "3aa33a79513aba1c11caceb67751ebf86a4430655b02308b2f7a0fbbda459bd1"), looks := false }, kinds := [], alts := [], laidByText := true, laidKinds := [.data, .data], laidTests := true, laidLooks := .later }
def RootsPagesCardSaid : Prop := Claim7.holds Tryz.pinned (.plain (OpenSpec.ofChange rootsPagesSpec)) rootsPagesCard

/-- THE SECOND FORM's CARD OF 'hypostylelaw23.RootsMake'. -/
def rootsMakeUptoCard : Claim7 := { stood := { row := rootsMakeUptoRow, standIns := [], harness := (true, "3aa33a79513aba1c11caceb67751ebf86a4430655b02308b2f7a0fbbda459bd1"), looks := false }, kinds := [], alts := [], laidByText := true, laidKinds := [.data, .data], laidTests := true, laidLooks := .later }
def RootsMakeUptoCardSaid : Prop := Claim7.holds Tryz.pinned (.plain (OpenSpec.upto rootsMakeSpec)) rootsMakeUptoCard

/-- THE SECOND FORM's CARD OF 'hypostylelaw23.RootsApart'. -/
def rootsApartUptoCard : Claim7 := { stood := { row := rootsApartUptoRow, standIns := [], harness := (true, "3aa33a79513aba1c11caceb67751ebf86a4430655b02308b2f7a0fbbda459bd1"), looks := false }, kinds := [], alts := [], laidByText := true, laidKinds := [.data, .data], laidTests := true, laidLooks := .later }
def RootsApartUptoCardSaid : Prop := Claim7.holds Tryz.pinned (.plain (OpenSpec.upto rootsApartSpec)) rootsApartUptoCard

/-- THE SECOND FORM's CARD OF 'hypostylelaw23.RootsTable'. -/
def rootsTableUptoCard : Claim7 := { stood := { row := rootsTableUptoRow, standIns := [], harness := (true, "3aa33a79513aba1c11caceb67751ebf86a4430655b02308b2f7a0fbbda459bd1"), looks := false }, kinds := [], alts := [], laidByText := true, laidKinds := [.data, .data], laidTests := true, laidLooks := .later }
def RootsTableUptoCardSaid : Prop := Claim7.holds Tryz.pinned (.plain (OpenSpec.upto rootsTableSpec)) rootsTableUptoCard

/-- THE SECOND FORM's CARD OF 'hypostylelaw23.RootsPages'. -/
def rootsPagesUptoCard : Claim7 := { stood := { row := rootsPagesUptoRow, standIns := [], harness := (true, "3aa33a79513aba1c11caceb67751ebf86a4430655b02308b2f7a0fbbda459bd1"), looks := false }, kinds := [], alts := [], laidByText := true, laidKinds := [.data, .data], laidTests := true, laidLooks := .later }
def RootsPagesUptoCardSaid : Prop := Claim7.holds Tryz.pinned (.plain (OpenSpec.upto rootsPagesSpec)) rootsPagesUptoCard
end Rows
end Go.Proofs.YtbahbnbpmfgimaaGreatDoor
