/-
  DERIVED. GIVEN WITH THE SEED: THE CARDS: each row of YtlfnhbnaegihfaaDoorRows.lean that lists a variable, with what it lists TIED to the program's text (the seventh form; the later family's looks); each row that meets fmt, with fmt's text TOLD by the authors' own Lean function (tested against real Go, not proved from fmt's source: count such statements apart). THE CARD IS WHAT COUNTS. Prove the row's statement (the work); the ties are given (YtlfnhbnaegihfaaDoorTie.lean); close each card by the builder's one call (the guide's Derived/Test/ToyasCard.lean, 'card_holds'). Laid BY PROGRAM, IN A SANDBOX (cutbox-door.mjs). By AI agents, Wed Nov 11 2026. No macro, syntax, notation, axiom, sorry.
-/
import Derived.Test.YtlfnhbnaegihfaaDoorRows
import GoSem.ClaimSeven
namespace Go.Proofs.YtlfnhbnaegihfaaDoor
namespace Rows

/-- THE TIED CARD OF 'hypostylelaw02.TagFrames'. -/
def tagFramesCard : Claim7 := { stood := { row := tagFramesRow, standIns := [], harness := (true, "6e542b2d07c143a5d936751bf6703750bd7465a2189390495bc3284709bbe65f"), looks := false }, kinds := [], alts := [], laidByText := true, laidKinds := [.data], laidTests := true, laidLooks := .later }
def TagFramesCardSaid : Prop := Claim7.holds Tryd.pinned (.plain (OpenSpec.ofChange tagFramesSpec)) tagFramesCard

/-- THE TIED CARD OF 'hypostylelaw02.TagBack'. -/
def tagBackCard : Claim7 := { stood := { row := tagBackRow, standIns := [], harness := (true, "6e542b2d07c143a5d936751bf6703750bd7465a2189390495bc3284709bbe65f"), looks := false }, kinds := [], alts := [], laidByText := true, laidKinds := [.data], laidTests := true, laidLooks := .later }
def TagBackCardSaid : Prop := Claim7.holds Tryd.pinned (.plain (OpenSpec.ofChange tagBackSpec)) tagBackCard

/-- THE TIED CARD OF 'hypostylelaw02.TagLogs'. -/
def tagLogsCard : Claim7 := { stood := { row := tagLogsRow, standIns := [], harness := (true, "6e542b2d07c143a5d936751bf6703750bd7465a2189390495bc3284709bbe65f"), looks := false }, kinds := [], alts := [], laidByText := true, laidKinds := [.data], laidTests := true, laidLooks := .later }
def TagLogsCardSaid : Prop := Claim7.holds Tryd.pinned (.plain (OpenSpec.ofChange tagLogsSpec)) tagLogsCard

/-- THE TIED CARD OF 'hypostylelaw02.TagExtracts'. -/
def tagExtractsCard : Claim7 := { stood := { row := tagExtractsRow, standIns := [], harness := (true, "6e542b2d07c143a5d936751bf6703750bd7465a2189390495bc3284709bbe65f"), looks := false }, kinds := [], alts := [], laidByText := true, laidKinds := [.data], laidTests := true, laidLooks := .later }
def TagExtractsCardSaid : Prop := Claim7.holds Tryd.pinned (.plain (OpenSpec.ofChange tagExtractsSpec)) tagExtractsCard

/-- THE TIED CARD OF 'hypostylelaw02.TagApart'. -/
def tagApartCard : Claim7 := { stood := { row := tagApartRow, standIns := [], harness := (true, "6e542b2d07c143a5d936751bf6703750bd7465a2189390495bc3284709bbe65f"), looks := false }, kinds := [], alts := [], laidByText := true, laidKinds := [.data], laidTests := true, laidLooks := .later }
def TagApartCardSaid : Prop := Claim7.holds Tryd.pinned (.plain (OpenSpec.ofChange tagApartSpec)) tagApartCard

/-- THE TIED CARD OF 'hypostylelaw02.TagMany'. -/
def tagManyCard : Claim7 := { stood := { row := tagManyRow, standIns := [], harness := (true, "6e542b2d07c143a5d936751bf6703750bd7465a2189390495bc3284709bbe65f"), looks := false }, kinds := [], alts := [], laidByText := true, laidKinds := [.data], laidTests := true, laidLooks := .later }
def TagManyCardSaid : Prop := Claim7.holds Tryd.pinned (.plain (OpenSpec.ofChange tagManySpec)) tagManyCard

/-- THE SECOND FORM's CARD OF 'hypostylelaw02.TagFrames'. -/
def tagFramesUptoCard : Claim7 := { stood := { row := tagFramesUptoRow, standIns := [], harness := (true, "6e542b2d07c143a5d936751bf6703750bd7465a2189390495bc3284709bbe65f"), looks := false }, kinds := [], alts := [], laidByText := true, laidKinds := [.data], laidTests := true, laidLooks := .later }
def TagFramesUptoCardSaid : Prop := Claim7.holds Tryd.pinned (.plain (OpenSpec.upto tagFramesSpec)) tagFramesUptoCard

/-- THE SECOND FORM's CARD OF 'hypostylelaw02.TagBack'. -/
def tagBackUptoCard : Claim7 := { stood := { row := tagBackUptoRow, standIns := [], harness := (true, "6e542b2d07c143a5d936751bf6703750bd7465a2189390495bc3284709bbe65f"), looks := false }, kinds := [], alts := [], laidByText := true, laidKinds := [.data], laidTests := true, laidLooks := .later }
def TagBackUptoCardSaid : Prop := Claim7.holds Tryd.pinned (.plain (OpenSpec.upto tagBackSpec)) tagBackUptoCard

/-- THE SECOND FORM's CARD OF 'hypostylelaw02.TagLogs'. -/
def tagLogsUptoCard : Claim7 := { stood := { row := tagLogsUptoRow, standIns := [], harness := (true, "6e542b2d07c143a5d936751bf6703750bd7465a2189390495bc3284709bbe65f"), looks := false }, kinds := [], alts := [], laidByText := true, laidKinds := [.data], laidTests := true, laidLooks := .later }
def TagLogsUptoCardSaid : Prop := Claim7.holds Tryd.pinned (.plain (OpenSpec.upto tagLogsSpec)) tagLogsUptoCard

/-- THE SECOND FORM's CARD OF 'hypostylelaw02.TagExtracts'. -/
def tagExtractsUptoCard : Claim7 := { stood := { row := tagExtractsUptoRow, standIns := [], harness := (true, "6e542b2d07c143a5d936751bf6703750bd7465a2189390495bc3284709bbe65f"), looks := false }, kinds := [], alts := [], laidByText := true, laidKinds := [.data], laidTests := true, laidLooks := .later }
def TagExtractsUptoCardSaid : Prop := Claim7.holds Tryd.pinned (.plain (OpenSpec.upto tagExtractsSpec)) tagExtractsUptoCard

/-- THE SECOND FORM's CARD OF 'hypostylelaw02.TagApart'. -/
def tagApartUptoCard : Claim7 := { stood := { row := tagApartUptoRow, standIns := [], harness := (true, "6e542b2d07c143a5d936751bf6703750bd7465a2189390495bc3284709bbe65f"), looks := false }, kinds := [], alts := [], laidByText := true, laidKinds := [.data], laidTests := true, laidLooks := .later }
def TagApartUptoCardSaid : Prop := Claim7.holds Tryd.pinned (.plain (OpenSpec.upto tagApartSpec)) tagApartUptoCard

/-- THE SECOND FORM's CARD OF 'hypostylelaw02.TagMany'. -/
def tagManyUptoCard : Claim7 := { stood := { row := tagManyUptoRow, standIns := [], harness := (true, "6e542b2d07c143a5d936751bf6703750bd7465a2189390495bc3284709bbe65f"), looks := false }, kinds := [], alts := [], laidByText := true, laidKinds := [.data], laidTests := true, laidLooks := .later }
def TagManyUptoCardSaid : Prop := Claim7.holds Tryd.pinned (.plain (OpenSpec.upto tagManySpec)) tagManyUptoCard
end Rows
end Go.Proofs.YtlfnhbnaegihfaaDoor
