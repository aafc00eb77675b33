/-
  DERIVED. GIVEN WITH THE SEED: THE CARDS: each row of YtgfemjpeegbhhaaDoorRows.lean that lists a variable, with what it lists TIED to the program's text (the seventh form; the later family's looks); each row that meets fmt, with fmt's text TOLD by the authors' own Lean function (tested against real Go, not proved from fmt's source: count such statements apart). THE CARD IS WHAT COUNTS. Prove the row's statement (the work); the ties are given (YtgfemjpeegbhhaaDoorTie.lean); close each card by the builder's one call (the guide's Derived/Test/ToyasCard.lean, 'card_holds'). Laid BY PROGRAM, IN A SANDBOX (cutbox-door.mjs). By AI agents, Wed Nov 11 2026. No macro, syntax, notation, axiom, sorry.
-/
import Derived.Test.YtgfemjpeegbhhaaDoorRows
import GoSem.ClaimSeven
namespace Go.Proofs.YtgfemjpeegbhhaaDoor
namespace Rows

/-- THE TIED CARD OF 'hypostylelaw21.TreeRoots'. -/
def treeRootsCard : Claim7 := { stood := { row := treeRootsRow, standIns := [], harness := (true, "e72a8f1e4ed2e6938d45e700a900cf9827ba5c4ac40fcea8f74d83661ac133b4"), looks := false }, kinds := [], alts := [], laidByText := true, laidKinds := [.data], laidTests := true, laidLooks := .later }
def TreeRootsCardSaid : Prop := Claim7.holds Tryd.pinned (.plain (OpenSpec.ofChange treeRootsSpec)) treeRootsCard

/-- THE TIED CARD OF 'hypostylelaw21.TreeSplits'. -/
def treeSplitsCard : Claim7 := { stood := { row := treeSplitsRow, standIns := [], harness := (true, "e72a8f1e4ed2e6938d45e700a900cf9827ba5c4ac40fcea8f74d83661ac133b4"), looks := false }, kinds := [], alts := [], laidByText := true, laidKinds := [.data], laidTests := true, laidLooks := .later }
def TreeSplitsCardSaid : Prop := Claim7.holds Tryd.pinned (.plain (OpenSpec.ofChange treeSplitsSpec)) treeSplitsCard

/-- THE TIED CARD OF 'hypostylelaw21.TreeTells'. -/
def treeTellsCard : Claim7 := { stood := { row := treeTellsRow, standIns := [], harness := (true, "e72a8f1e4ed2e6938d45e700a900cf9827ba5c4ac40fcea8f74d83661ac133b4"), looks := false }, kinds := [], alts := [], laidByText := true, laidKinds := [.data], laidTests := true, laidLooks := .later }
def TreeTellsCardSaid : Prop := Claim7.holds Tryd.pinned (.plain (OpenSpec.ofChange treeTellsSpec)) treeTellsCard

/-- THE TIED CARD OF 'hypostylelaw21.TreePlaces'. -/
def treePlacesCard : Claim7 := { stood := { row := treePlacesRow, standIns := [], harness := (true, "e72a8f1e4ed2e6938d45e700a900cf9827ba5c4ac40fcea8f74d83661ac133b4"), looks := false }, kinds := [], alts := [], laidByText := true, laidKinds := [.data], laidTests := true, laidLooks := .later }
def TreePlacesCardSaid : Prop := Claim7.holds Tryd.pinned (.plain (OpenSpec.ofChange treePlacesSpec)) treePlacesCard

/-- THE TIED CARD OF 'hypostylelaw21.TreeHalves'. -/
def treeHalvesCard : Claim7 := { stood := { row := treeHalvesRow, standIns := [], harness := (true, "e72a8f1e4ed2e6938d45e700a900cf9827ba5c4ac40fcea8f74d83661ac133b4"), looks := false }, kinds := [], alts := [], laidByText := true, laidKinds := [.data], laidTests := true, laidLooks := .later }
def TreeHalvesCardSaid : Prop := Claim7.holds Tryd.pinned (.plain (OpenSpec.ofChange treeHalvesSpec)) treeHalvesCard

/-- THE TIED CARD OF 'hypostylelaw21.TreeCounts'. -/
def treeCountsCard : Claim7 := { stood := { row := treeCountsRow, standIns := [], harness := (true, "e72a8f1e4ed2e6938d45e700a900cf9827ba5c4ac40fcea8f74d83661ac133b4"), looks := false }, kinds := [], alts := [], laidByText := true, laidKinds := [.data], laidTests := true, laidLooks := .later }
def TreeCountsCardSaid : Prop := Claim7.holds Tryd.pinned (.plain (OpenSpec.ofChange treeCountsSpec)) treeCountsCard

/-- THE TIED CARD OF 'hypostylelaw22.ProofNeeds'. -/
def proofNeedsCard : Claim7 := { stood := { row := proofNeedsRow, standIns := [], harness := (true, "e72a8f1e4ed2e6938d45e700a900cf9827ba5c4ac40fcea8f74d83661ac133b4"), looks := false }, kinds := [], alts := [], laidByText := true, laidKinds := [.data], laidTests := true, laidLooks := .later }
def ProofNeedsCardSaid : Prop := Claim7.holds Tryd.pinned (.plain (OpenSpec.ofChange proofNeedsSpec)) proofNeedsCard

/-- THE TIED CARD OF 'hypostylelaw22.ProofJoins'. -/
def proofJoinsCard : Claim7 := { stood := { row := proofJoinsRow, standIns := [], harness := (true, "e72a8f1e4ed2e6938d45e700a900cf9827ba5c4ac40fcea8f74d83661ac133b4"), looks := false }, kinds := [], alts := [], laidByText := true, laidKinds := [.data], laidTests := true, laidLooks := .later }
def ProofJoinsCardSaid : Prop := Claim7.holds Tryd.pinned (.plain (OpenSpec.ofChange proofJoinsSpec)) proofJoinsCard

/-- THE TIED CARD OF 'hypostylelaw22.ProofSound'. -/
def proofSoundCard : Claim7 := { stood := { row := proofSoundRow, standIns := [], harness := (true, "e72a8f1e4ed2e6938d45e700a900cf9827ba5c4ac40fcea8f74d83661ac133b4"), looks := false }, kinds := [], alts := [], laidByText := true, laidKinds := [.data], laidTests := true, laidLooks := .later }
def ProofSoundCardSaid : Prop := Claim7.holds Tryd.pinned (.plain (OpenSpec.ofChange proofSoundSpec)) proofSoundCard

/-- THE TIED CARD OF 'hypostylelaw22.ProofFew'. -/
def proofFewCard : Claim7 := { stood := { row := proofFewRow, standIns := [], harness := (true, "e72a8f1e4ed2e6938d45e700a900cf9827ba5c4ac40fcea8f74d83661ac133b4"), looks := false }, kinds := [], alts := [], laidByText := true, laidKinds := [.data], laidTests := true, laidLooks := .later }
def ProofFewCardSaid : Prop := Claim7.holds Tryd.pinned (.plain (OpenSpec.ofChange proofFewSpec)) proofFewCard

/-- THE SECOND FORM's CARD OF 'hypostylelaw21.TreeRoots'. -/
def treeRootsUptoCard : Claim7 := { stood := { row := treeRootsUptoRow, standIns := [], harness := (true, "e72a8f1e4ed2e6938d45e700a900cf9827ba5c4ac40fcea8f74d83661ac133b4"), looks := false }, kinds := [], alts := [], laidByText := true, laidKinds := [.data], laidTests := true, laidLooks := .later }
def TreeRootsUptoCardSaid : Prop := Claim7.holds Tryd.pinned (.plain (OpenSpec.upto treeRootsSpec)) treeRootsUptoCard

/-- THE SECOND FORM's CARD OF 'hypostylelaw21.TreeSplits'. -/
def treeSplitsUptoCard : Claim7 := { stood := { row := treeSplitsUptoRow, standIns := [], harness := (true, "e72a8f1e4ed2e6938d45e700a900cf9827ba5c4ac40fcea8f74d83661ac133b4"), looks := false }, kinds := [], alts := [], laidByText := true, laidKinds := [.data], laidTests := true, laidLooks := .later }
def TreeSplitsUptoCardSaid : Prop := Claim7.holds Tryd.pinned (.plain (OpenSpec.upto treeSplitsSpec)) treeSplitsUptoCard

/-- THE SECOND FORM's CARD OF 'hypostylelaw21.TreeTells'. -/
def treeTellsUptoCard : Claim7 := { stood := { row := treeTellsUptoRow, standIns := [], harness := (true, "e72a8f1e4ed2e6938d45e700a900cf9827ba5c4ac40fcea8f74d83661ac133b4"), looks := false }, kinds := [], alts := [], laidByText := true, laidKinds := [.data], laidTests := true, laidLooks := .later }
def TreeTellsUptoCardSaid : Prop := Claim7.holds Tryd.pinned (.plain (OpenSpec.upto treeTellsSpec)) treeTellsUptoCard

/-- THE SECOND FORM's CARD OF 'hypostylelaw21.TreePlaces'. -/
def treePlacesUptoCard : Claim7 := { stood := { row := treePlacesUptoRow, standIns := [], harness := (true, "e72a8f1e4ed2e6938d45e700a900cf9827ba5c4ac40fcea8f74d83661ac133b4"), looks := false }, kinds := [], alts := [], laidByText := true, laidKinds := [.data], laidTests := true, laidLooks := .later }
def TreePlacesUptoCardSaid : Prop := Claim7.holds Tryd.pinned (.plain (OpenSpec.upto treePlacesSpec)) treePlacesUptoCard

/-- THE SECOND FORM's CARD OF 'hypostylelaw21.TreeHalves'. -/
def treeHalvesUptoCard : Claim7 := { stood := { row := treeHalvesUptoRow, standIns := [], harness := (true, "e72a8f1e4ed2e6938d45e700a900cf9827ba5c4ac40fcea8f74d83661ac133b4"), looks := false }, kinds := [], alts := [], laidByText := true, laidKinds := [.data], laidTests := true, laidLooks := .later }
def TreeHalvesUptoCardSaid : Prop := Claim7.holds Tryd.pinned (.plain (OpenSpec.upto treeHalvesSpec)) treeHalvesUptoCard

/-- THE SECOND FORM's CARD OF 'hypostylelaw21.TreeCounts'. -/
def treeCountsUptoCard : Claim7 := { stood := { row := treeCountsUptoRow, standIns := [], harness := (true, "e72a8f1e4ed2e6938d45e700a900cf9827ba5c4ac40fcea8f74d83661ac133b4"), looks := false }, kinds := [], alts := [], laidByText := true, laidKinds := [.data], laidTests := true, laidLooks := .later }
def TreeCountsUptoCardSaid : Prop := Claim7.holds Tryd.pinned (.plain (OpenSpec.upto treeCountsSpec)) treeCountsUptoCard

/-- THE SECOND FORM's CARD OF 'hypostylelaw22.ProofNeeds'. -/
def proofNeedsUptoCard : Claim7 := { stood := { row := proofNeedsUptoRow, standIns := [], harness := (true, "e72a8f1e4ed2e6938d45e700a900cf9827ba5c4ac40fcea8f74d83661ac133b4"), looks := false }, kinds := [], alts := [], laidByText := true, laidKinds := [.data], laidTests := true, laidLooks := .later }
def ProofNeedsUptoCardSaid : Prop := Claim7.holds Tryd.pinned (.plain (OpenSpec.upto proofNeedsSpec)) proofNeedsUptoCard

/-- THE SECOND FORM's CARD OF 'hypostylelaw22.ProofJoins'. -/
def proofJoinsUptoCard : Claim7 := { stood := { row := proofJoinsUptoRow, standIns := [], harness := (true, "e72a8f1e4ed2e6938d45e700a900cf9827ba5c4ac40fcea8f74d83661ac133b4"), looks := false }, kinds := [], alts := [], laidByText := true, laidKinds := [.data], laidTests := true, laidLooks := .later }
def ProofJoinsUptoCardSaid : Prop := Claim7.holds Tryd.pinned (.plain (OpenSpec.upto proofJoinsSpec)) proofJoinsUptoCard

/-- THE SECOND FORM's CARD OF 'hypostylelaw22.ProofSound'. -/
def proofSoundUptoCard : Claim7 := { stood := { row := proofSoundUptoRow, standIns := [], harness := (true, "e72a8f1e4ed2e6938d45e700a900cf9827ba5c4ac40fcea8f74d83661ac133b4"), looks := false }, kinds := [], alts := [], laidByText := true, laidKinds := [.data], laidTests := true, laidLooks := .later }
def ProofSoundUptoCardSaid : Prop := Claim7.holds Tryd.pinned (.plain (OpenSpec.upto proofSoundSpec)) proofSoundUptoCard

/-- THE SECOND FORM's CARD OF 'hypostylelaw22.ProofFew'. -/
def proofFewUptoCard : Claim7 := { stood := { row := proofFewUptoRow, standIns := [], harness := (true, "e72a8f1e4ed2e6938d45e700a900cf9827ba5c4ac40fcea8f74d83661ac133b4"), looks := false }, kinds := [], alts := [], laidByText := true, laidKinds := [.data], laidTests := true, laidLooks := .later }
def ProofFewUptoCardSaid : Prop := Claim7.holds Tryd.pinned (.plain (OpenSpec.upto proofFewSpec)) proofFewUptoCard
end Rows
end Go.Proofs.YtgfemjpeegbhhaaDoor
