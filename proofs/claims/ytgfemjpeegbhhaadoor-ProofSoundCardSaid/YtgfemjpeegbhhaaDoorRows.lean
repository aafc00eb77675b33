/-
  NARROWER THAN 'FOR EVERY INPUT', by the rows' own cells (each row's printed sentence says how): TreeRoots: laid · TreeSplits: laid · TreeTells: laid · TreePlaces: laid · TreeHalves: laid · TreeCounts: laid · ProofNeeds: laid · ProofJoins: laid · ProofSound: laid · ProofFew: laid.
  DERIVED. THE GIVEN ROWS OF THIS SEAT. 10 by the template 'for every input the law returns true; each argument reads behind the call as it read before'; 0 by the template 'total and deterministic' (their statements: YtgfemjpeegbhhaaDoorTotals.lean).
  GIVEN WITH THE SEED: the statements are not yours to turn. If you find one false, say at which input.
  Laid BY PROGRAM, IN A SANDBOX (cutbox-rows.mjs): the forced cells as the released guide's own fill.sh prints them over the translation cd5bd35de096e78f… (all of the seat's roots in one cut). By AI agents, Wed Nov 11 2026. No macro, syntax, notation, axiom, sorry.
-/
import Derived.Test.YtgfemjpeegbhhaaDoorChecked
import GoSem.Claim
import GoSem.ClaimJoined
import GoSem.ClaimMapViews
import Derived.JoinedTies
import Derived.KernelRfl
namespace Go.Proofs.YtgfemjpeegbhhaaDoor
/- THE CELL 'sum', in the pinned program and in every row, IS THE sha256 OF THE DUMP (.gsa) THAT YtgfemjpeegbhhaaDoorProg.lean LOADS. Nothing in Lean hashes anything: it is a label: what it is worth is what the hold of that sum in a sandbox is worth. -/
noncomputable def Tryd.pinned : Pinned := { name := "ytgfemjpeegbhhaadoor", sum := "cd5bd35de096e78f6bb82a023b18e4075d0a2bfce9e0ce74c8ee57847f84ae40", checked := Tryd.checked }
namespace Rows
def none {H : Type} : Left H := { results := [], args := [] }

/- WHAT THE LISTED PACKAGE-LEVEL VARIABLES READ AS WHEN THE CALL BEGINS. Each datum BY PROGRAM (the guide's laid-datum.mjs) off the statement by which the dump's own 'gosem.cut.vars' lays the variable. In a bare row this is a premise. The card (YtgfemjpeegbhhaaDoorCards.lean) ties it to the program's text. -/
def laid_hypostyle_sha_constants {H : Type} : DataW H := .agg [.lit (.int .u32 1116352408), .lit (.int .u32 1899447441), .lit (.int .u32 3049323471), .lit (.int .u32 3921009573), .lit (.int .u32 961987163), .lit (.int .u32 1508970993), .lit (.int .u32 2453635748), .lit (.int .u32 2870763221), .lit (.int .u32 3624381080), .lit (.int .u32 310598401), .lit (.int .u32 607225278), .lit (.int .u32 1426881987), .lit (.int .u32 1925078388), .lit (.int .u32 2162078206), .lit (.int .u32 2614888103), .lit (.int .u32 3248222580), .lit (.int .u32 3835390401), .lit (.int .u32 4022224774), .lit (.int .u32 264347078), .lit (.int .u32 604807628), .lit (.int .u32 770255983), .lit (.int .u32 1249150122), .lit (.int .u32 1555081692), .lit (.int .u32 1996064986), .lit (.int .u32 2554220882), .lit (.int .u32 2821834349), .lit (.int .u32 2952996808), .lit (.int .u32 3210313671), .lit (.int .u32 3336571891), .lit (.int .u32 3584528711), .lit (.int .u32 113926993), .lit (.int .u32 338241895), .lit (.int .u32 666307205), .lit (.int .u32 773529912), .lit (.int .u32 1294757372), .lit (.int .u32 1396182291), .lit (.int .u32 1695183700), .lit (.int .u32 1986661051), .lit (.int .u32 2177026350), .lit (.int .u32 2456956037), .lit (.int .u32 2730485921), .lit (.int .u32 2820302411), .lit (.int .u32 3259730800), .lit (.int .u32 3345764771), .lit (.int .u32 3516065817), .lit (.int .u32 3600352804), .lit (.int .u32 4094571909), .lit (.int .u32 275423344), .lit (.int .u32 430227734), .lit (.int .u32 506948616), .lit (.int .u32 659060556), .lit (.int .u32 883997877), .lit (.int .u32 958139571), .lit (.int .u32 1322822218), .lit (.int .u32 1537002063), .lit (.int .u32 1747873779), .lit (.int .u32 1955562222), .lit (.int .u32 2024104815), .lit (.int .u32 2227730452), .lit (.int .u32 2361852424), .lit (.int .u32 2428436474), .lit (.int .u32 2756734187), .lit (.int .u32 3204031479), .lit (.int .u32 3329325298)]

/-- 'hypostylelaw21.TreeRoots': WHATEVER THE INPUT: true; the input reads as it did. -/
def treeRootsSpec : ChangeSpec := { name := "treeRoots", fn := fun _ => fun
  | [d1, d2, d3, d4, d5] => { results := [.lit (.bool true)], args := [d1, d2, d3, d4, d5] }
  | _ => none }
def treeRootsRow : OpenClaim := { program := "ytgfemjpeegbhhaadoor", sum := "cd5bd35de096e78f6bb82a023b18e4075d0a2bfce9e0ce74c8ee57847f84ae40", func := "hypostyle/hypostylelaw21.TreeRoots", spec := "treeRoots", recurses := true, named := ["hypostyle/sha.constants"], plainKeys := false, apart := false, laid := [("hypostyle/sha.constants", laid_hypostyle_sha_constants)] }
def TreeRootsSaid : Prop := treeRootsRow.holds Tryd.pinned (OpenSpec.ofChange treeRootsSpec)

/-- ITS FALSE NEIGHBOUR: 'it returns false'. Refute it at one input. -/
def treeRootsWrong : ChangeSpec := { name := "treeRoots", fn := fun _ => fun
  | [d1, d2, d3, d4, d5] => { results := [.lit (.bool false)], args := [d1, d2, d3, d4, d5] }
  | _ => none }
def TreeRootsWrongFalsely : Prop := treeRootsRow.holds Tryd.pinned (OpenSpec.ofChange treeRootsWrong)

/-- 'hypostylelaw21.TreeSplits': WHATEVER THE INPUT: true; the input reads as it did. -/
def treeSplitsSpec : ChangeSpec := { name := "treeSplits", fn := fun _ => fun
  | [d] => { results := [.lit (.bool true)], args := [d] }
  | _ => none }
def treeSplitsRow : OpenClaim := { program := "ytgfemjpeegbhhaadoor", sum := "cd5bd35de096e78f6bb82a023b18e4075d0a2bfce9e0ce74c8ee57847f84ae40", func := "hypostyle/hypostylelaw21.TreeSplits", spec := "treeSplits", recurses := true, named := ["hypostyle/sha.constants"], plainKeys := false, apart := false, laid := [("hypostyle/sha.constants", laid_hypostyle_sha_constants)] }
def TreeSplitsSaid : Prop := treeSplitsRow.holds Tryd.pinned (OpenSpec.ofChange treeSplitsSpec)

/-- ITS FALSE NEIGHBOUR: 'it returns false'. Refute it at one input. -/
def treeSplitsWrong : ChangeSpec := { name := "treeSplits", fn := fun _ => fun
  | [d] => { results := [.lit (.bool false)], args := [d] }
  | _ => none }
def TreeSplitsWrongFalsely : Prop := treeSplitsRow.holds Tryd.pinned (OpenSpec.ofChange treeSplitsWrong)

/-- 'hypostylelaw21.TreeTells': WHATEVER THE INPUT: true; the input reads as it did. -/
def treeTellsSpec : ChangeSpec := { name := "treeTells", fn := fun _ => fun
  | [d1, d2] => { results := [.lit (.bool true)], args := [d1, d2] }
  | _ => none }
def treeTellsRow : OpenClaim := { program := "ytgfemjpeegbhhaadoor", sum := "cd5bd35de096e78f6bb82a023b18e4075d0a2bfce9e0ce74c8ee57847f84ae40", func := "hypostyle/hypostylelaw21.TreeTells", spec := "treeTells", unfollowed := true, recurses := true, named := ["hypostyle/sha.constants"], plainKeys := false, apart := false, laid := [("hypostyle/sha.constants", laid_hypostyle_sha_constants)] }
def TreeTellsSaid : Prop := treeTellsRow.holds Tryd.pinned (OpenSpec.ofChange treeTellsSpec)

/-- ITS FALSE NEIGHBOUR: 'it returns false'. Refute it at one input. -/
def treeTellsWrong : ChangeSpec := { name := "treeTells", fn := fun _ => fun
  | [d1, d2] => { results := [.lit (.bool false)], args := [d1, d2] }
  | _ => none }
def TreeTellsWrongFalsely : Prop := treeTellsRow.holds Tryd.pinned (OpenSpec.ofChange treeTellsWrong)

/-- 'hypostylelaw21.TreePlaces': WHATEVER THE INPUT: true; the input reads as it did. -/
def treePlacesSpec : ChangeSpec := { name := "treePlaces", fn := fun _ => fun
  | [d1, d2, d3, d4, d5, d6, d7, d8] => { results := [.lit (.bool true)], args := [d1, d2, d3, d4, d5, d6, d7, d8] }
  | _ => none }
def treePlacesRow : OpenClaim := { program := "ytgfemjpeegbhhaadoor", sum := "cd5bd35de096e78f6bb82a023b18e4075d0a2bfce9e0ce74c8ee57847f84ae40", func := "hypostyle/hypostylelaw21.TreePlaces", spec := "treePlaces", unfollowed := true, recurses := true, named := ["hypostyle/sha.constants"], plainKeys := false, apart := false, laid := [("hypostyle/sha.constants", laid_hypostyle_sha_constants)] }
def TreePlacesSaid : Prop := treePlacesRow.holds Tryd.pinned (OpenSpec.ofChange treePlacesSpec)

/-- ITS FALSE NEIGHBOUR: 'it returns false'. Refute it at one input. -/
def treePlacesWrong : ChangeSpec := { name := "treePlaces", fn := fun _ => fun
  | [d1, d2, d3, d4, d5, d6, d7, d8] => { results := [.lit (.bool false)], args := [d1, d2, d3, d4, d5, d6, d7, d8] }
  | _ => none }
def TreePlacesWrongFalsely : Prop := treePlacesRow.holds Tryd.pinned (OpenSpec.ofChange treePlacesWrong)

/-- 'hypostylelaw21.TreeHalves': WHATEVER THE INPUT: true; the input reads as it did. -/
def treeHalvesSpec : ChangeSpec := { name := "treeHalves", fn := fun _ => fun
  | [d] => { results := [.lit (.bool true)], args := [d] }
  | _ => none }
def treeHalvesRow : OpenClaim := { program := "ytgfemjpeegbhhaadoor", sum := "cd5bd35de096e78f6bb82a023b18e4075d0a2bfce9e0ce74c8ee57847f84ae40", func := "hypostyle/hypostylelaw21.TreeHalves", spec := "treeHalves", recurses := true, named := ["hypostyle/sha.constants"], plainKeys := false, apart := false, laid := [("hypostyle/sha.constants", laid_hypostyle_sha_constants)] }
def TreeHalvesSaid : Prop := treeHalvesRow.holds Tryd.pinned (OpenSpec.ofChange treeHalvesSpec)

/-- ITS FALSE NEIGHBOUR: 'it returns false'. Refute it at one input. -/
def treeHalvesWrong : ChangeSpec := { name := "treeHalves", fn := fun _ => fun
  | [d] => { results := [.lit (.bool false)], args := [d] }
  | _ => none }
def TreeHalvesWrongFalsely : Prop := treeHalvesRow.holds Tryd.pinned (OpenSpec.ofChange treeHalvesWrong)

/-- 'hypostylelaw21.TreeCounts': WHATEVER THE INPUT: true; the input reads as it did. -/
def treeCountsSpec : ChangeSpec := { name := "treeCounts", fn := fun _ => fun
  | [d] => { results := [.lit (.bool true)], args := [d] }
  | _ => none }
def treeCountsRow : OpenClaim := { program := "ytgfemjpeegbhhaadoor", sum := "cd5bd35de096e78f6bb82a023b18e4075d0a2bfce9e0ce74c8ee57847f84ae40", func := "hypostyle/hypostylelaw21.TreeCounts", spec := "treeCounts", recurses := true, named := ["hypostyle/sha.constants"], plainKeys := false, apart := false, laid := [("hypostyle/sha.constants", laid_hypostyle_sha_constants)] }
def TreeCountsSaid : Prop := treeCountsRow.holds Tryd.pinned (OpenSpec.ofChange treeCountsSpec)

/-- ITS FALSE NEIGHBOUR: 'it returns false'. Refute it at one input. -/
def treeCountsWrong : ChangeSpec := { name := "treeCounts", fn := fun _ => fun
  | [d] => { results := [.lit (.bool false)], args := [d] }
  | _ => none }
def TreeCountsWrongFalsely : Prop := treeCountsRow.holds Tryd.pinned (OpenSpec.ofChange treeCountsWrong)

/-- 'hypostylelaw22.ProofNeeds': WHATEVER THE INPUT: true; the input reads as it did. -/
def proofNeedsSpec : ChangeSpec := { name := "proofNeeds", fn := fun _ => fun
  | [d1, d2, d3] => { results := [.lit (.bool true)], args := [d1, d2, d3] }
  | _ => none }
def proofNeedsRow : OpenClaim := { program := "ytgfemjpeegbhhaadoor", sum := "cd5bd35de096e78f6bb82a023b18e4075d0a2bfce9e0ce74c8ee57847f84ae40", func := "hypostyle/hypostylelaw22.ProofNeeds", spec := "proofNeeds", unfollowed := true, recurses := true, named := ["hypostyle/sha.constants"], plainKeys := false, apart := false, laid := [("hypostyle/sha.constants", laid_hypostyle_sha_constants)] }
def ProofNeedsSaid : Prop := proofNeedsRow.holds Tryd.pinned (OpenSpec.ofChange proofNeedsSpec)

/-- ITS FALSE NEIGHBOUR: 'it returns false'. Refute it at one input. -/
def proofNeedsWrong : ChangeSpec := { name := "proofNeeds", fn := fun _ => fun
  | [d1, d2, d3] => { results := [.lit (.bool false)], args := [d1, d2, d3] }
  | _ => none }
def ProofNeedsWrongFalsely : Prop := proofNeedsRow.holds Tryd.pinned (OpenSpec.ofChange proofNeedsWrong)

/-- 'hypostylelaw22.ProofJoins': WHATEVER THE INPUT: true; the input reads as it did. -/
def proofJoinsSpec : ChangeSpec := { name := "proofJoins", fn := fun _ => fun
  | [d1, d2, d3] => { results := [.lit (.bool true)], args := [d1, d2, d3] }
  | _ => none }
def proofJoinsRow : OpenClaim := { program := "ytgfemjpeegbhhaadoor", sum := "cd5bd35de096e78f6bb82a023b18e4075d0a2bfce9e0ce74c8ee57847f84ae40", func := "hypostyle/hypostylelaw22.ProofJoins", spec := "proofJoins", unfollowed := true, recurses := true, named := ["hypostyle/sha.constants"], plainKeys := false, apart := false, laid := [("hypostyle/sha.constants", laid_hypostyle_sha_constants)] }
def ProofJoinsSaid : Prop := proofJoinsRow.holds Tryd.pinned (OpenSpec.ofChange proofJoinsSpec)

/-- ITS FALSE NEIGHBOUR: 'it returns false'. Refute it at one input. -/
def proofJoinsWrong : ChangeSpec := { name := "proofJoins", fn := fun _ => fun
  | [d1, d2, d3] => { results := [.lit (.bool false)], args := [d1, d2, d3] }
  | _ => none }
def ProofJoinsWrongFalsely : Prop := proofJoinsRow.holds Tryd.pinned (OpenSpec.ofChange proofJoinsWrong)

/-- 'hypostylelaw22.ProofSound': WHATEVER THE INPUT: true; the input reads as it did. -/
def proofSoundSpec : ChangeSpec := { name := "proofSound", fn := fun _ => fun
  | [d1, d2, d3, d4] => { results := [.lit (.bool true)], args := [d1, d2, d3, d4] }
  | _ => none }
def proofSoundRow : OpenClaim := { program := "ytgfemjpeegbhhaadoor", sum := "cd5bd35de096e78f6bb82a023b18e4075d0a2bfce9e0ce74c8ee57847f84ae40", func := "hypostyle/hypostylelaw22.ProofSound", spec := "proofSound", unfollowed := true, recurses := true, named := ["hypostyle/sha.constants"], plainKeys := false, apart := false, laid := [("hypostyle/sha.constants", laid_hypostyle_sha_constants)] }
def ProofSoundSaid : Prop := proofSoundRow.holds Tryd.pinned (OpenSpec.ofChange proofSoundSpec)

/-- ITS FALSE NEIGHBOUR: 'it returns false'. Refute it at one input. -/
def proofSoundWrong : ChangeSpec := { name := "proofSound", fn := fun _ => fun
  | [d1, d2, d3, d4] => { results := [.lit (.bool false)], args := [d1, d2, d3, d4] }
  | _ => none }
def ProofSoundWrongFalsely : Prop := proofSoundRow.holds Tryd.pinned (OpenSpec.ofChange proofSoundWrong)

/-- 'hypostylelaw22.ProofFew': WHATEVER THE INPUT: true; the input reads as it did. -/
def proofFewSpec : ChangeSpec := { name := "proofFew", fn := fun _ => fun
  | [d1, d2, d3] => { results := [.lit (.bool true)], args := [d1, d2, d3] }
  | _ => none }
def proofFewRow : OpenClaim := { program := "ytgfemjpeegbhhaadoor", sum := "cd5bd35de096e78f6bb82a023b18e4075d0a2bfce9e0ce74c8ee57847f84ae40", func := "hypostyle/hypostylelaw22.ProofFew", spec := "proofFew", unfollowed := true, recurses := true, named := ["hypostyle/sha.constants"], plainKeys := false, apart := false, laid := [("hypostyle/sha.constants", laid_hypostyle_sha_constants)] }
def ProofFewSaid : Prop := proofFewRow.holds Tryd.pinned (OpenSpec.ofChange proofFewSpec)

/-- ITS FALSE NEIGHBOUR: 'it returns false'. Refute it at one input. -/
def proofFewWrong : ChangeSpec := { name := "proofFew", fn := fun _ => fun
  | [d1, d2, d3] => { results := [.lit (.bool false)], args := [d1, d2, d3] }
  | _ => none }
def ProofFewWrongFalsely : Prop := proofFewRow.holds Tryd.pinned (OpenSpec.ofChange proofFewWrong)

/- THE SECOND FORM. 'bulk': how many values and letters a reading holds, each counted each time it is reached (what is shared counts as often as it is met; a slice's spare places count too). A statement '..UptoSaid' is the law's where the arguments, and the package variables that the reading takes, are together of bulk at most 1048576: NARROWER than '..Said'. Prove '..Said' where nothing that the law and all that it calls make is longer than what came in: it says more and counts as full. Else prove '..UptoSaid'. A law counts once. -/
mutual
def uptoBulk {H : Type} : DataW H → Nat
  | .lit (.string bytes) => bytes.length + 1
  | .lit _ => 1
  | .nil => 1
  | .ptr d => uptoBulk d + 1
  | .slice elems spare => uptoBulkAll elems + uptoBulkAll spare + 1
  | .agg parts => uptoBulkAll parts + 1
  | .iface _ d => uptoBulk d + 1
  | .map entries => uptoBulkEntries entries + 1
  | .held _ => 1
def uptoBulkAll {H : Type} : List (DataW H) → Nat
  | [] => 0
  | d :: r => uptoBulk d + uptoBulkAll r
def uptoBulkEntries {H : Type} : List (Lit × DataW H) → Nat
  | [] => 0
  | x :: r => uptoBulkEntry x + uptoBulkEntries r
def uptoBulkEntry {H : Type} : Lit × DataW H → Nat
  | (.string bytes, d) => bytes.length + uptoBulk d + 1
  | (_, d) => uptoBulk d + 1
 end
def uptoSmall : (H : Type) → List (DataW H) → Bool := fun _ ds => decide (uptoBulkAll ds ≤ 1048576)
def OpenSpec.upto (s : _root_.Go.ChangeSpec) : _root_.Go.OpenSpec := { _root_.Go.OpenSpec.ofChange s with cond := some uptoSmall }

/-- 'hypostylelaw21.TreeRoots', WHERE WHAT IT READS IS OF BULK AT MOST 1048576: true; the input reads as it did. -/
def treeRootsUptoRow : OpenClaim := { program := "ytgfemjpeegbhhaadoor", sum := "cd5bd35de096e78f6bb82a023b18e4075d0a2bfce9e0ce74c8ee57847f84ae40", func := "hypostyle/hypostylelaw21.TreeRoots", spec := "treeRoots", recurses := true, named := ["hypostyle/sha.constants"], plainKeys := false, apart := false, laid := [("hypostyle/sha.constants", laid_hypostyle_sha_constants)], narrowed := true }
def TreeRootsUptoSaid : Prop := treeRootsUptoRow.holds Tryd.pinned (OpenSpec.upto treeRootsSpec)

/-- 'hypostylelaw21.TreeSplits', WHERE WHAT IT READS IS OF BULK AT MOST 1048576: true; the input reads as it did. -/
def treeSplitsUptoRow : OpenClaim := { program := "ytgfemjpeegbhhaadoor", sum := "cd5bd35de096e78f6bb82a023b18e4075d0a2bfce9e0ce74c8ee57847f84ae40", func := "hypostyle/hypostylelaw21.TreeSplits", spec := "treeSplits", recurses := true, named := ["hypostyle/sha.constants"], plainKeys := false, apart := false, laid := [("hypostyle/sha.constants", laid_hypostyle_sha_constants)], narrowed := true }
def TreeSplitsUptoSaid : Prop := treeSplitsUptoRow.holds Tryd.pinned (OpenSpec.upto treeSplitsSpec)

/-- 'hypostylelaw21.TreeTells', WHERE WHAT IT READS IS OF BULK AT MOST 1048576: true; the input reads as it did. -/
def treeTellsUptoRow : OpenClaim := { program := "ytgfemjpeegbhhaadoor", sum := "cd5bd35de096e78f6bb82a023b18e4075d0a2bfce9e0ce74c8ee57847f84ae40", func := "hypostyle/hypostylelaw21.TreeTells", spec := "treeTells", unfollowed := true, recurses := true, named := ["hypostyle/sha.constants"], plainKeys := false, apart := false, laid := [("hypostyle/sha.constants", laid_hypostyle_sha_constants)], narrowed := true }
def TreeTellsUptoSaid : Prop := treeTellsUptoRow.holds Tryd.pinned (OpenSpec.upto treeTellsSpec)

/-- 'hypostylelaw21.TreePlaces', WHERE WHAT IT READS IS OF BULK AT MOST 1048576: true; the input reads as it did. -/
def treePlacesUptoRow : OpenClaim := { program := "ytgfemjpeegbhhaadoor", sum := "cd5bd35de096e78f6bb82a023b18e4075d0a2bfce9e0ce74c8ee57847f84ae40", func := "hypostyle/hypostylelaw21.TreePlaces", spec := "treePlaces", unfollowed := true, recurses := true, named := ["hypostyle/sha.constants"], plainKeys := false, apart := false, laid := [("hypostyle/sha.constants", laid_hypostyle_sha_constants)], narrowed := true }
def TreePlacesUptoSaid : Prop := treePlacesUptoRow.holds Tryd.pinned (OpenSpec.upto treePlacesSpec)

/-- 'hypostylelaw21.TreeHalves', WHERE WHAT IT READS IS OF BULK AT MOST 1048576: true; the input reads as it did. -/
def treeHalvesUptoRow : OpenClaim := { program := "ytgfemjpeegbhhaadoor", sum := "cd5bd35de096e78f6bb82a023b18e4075d0a2bfce9e0ce74c8ee57847f84ae40", func := "hypostyle/hypostylelaw21.TreeHalves", spec := "treeHalves", recurses := true, named := ["hypostyle/sha.constants"], plainKeys := false, apart := false, laid := [("hypostyle/sha.constants", laid_hypostyle_sha_constants)], narrowed := true }
def TreeHalvesUptoSaid : Prop := treeHalvesUptoRow.holds Tryd.pinned (OpenSpec.upto treeHalvesSpec)

/-- 'hypostylelaw21.TreeCounts', WHERE WHAT IT READS IS OF BULK AT MOST 1048576: true; the input reads as it did. -/
def treeCountsUptoRow : OpenClaim := { program := "ytgfemjpeegbhhaadoor", sum := "cd5bd35de096e78f6bb82a023b18e4075d0a2bfce9e0ce74c8ee57847f84ae40", func := "hypostyle/hypostylelaw21.TreeCounts", spec := "treeCounts", recurses := true, named := ["hypostyle/sha.constants"], plainKeys := false, apart := false, laid := [("hypostyle/sha.constants", laid_hypostyle_sha_constants)], narrowed := true }
def TreeCountsUptoSaid : Prop := treeCountsUptoRow.holds Tryd.pinned (OpenSpec.upto treeCountsSpec)

/-- 'hypostylelaw22.ProofNeeds', WHERE WHAT IT READS IS OF BULK AT MOST 1048576: true; the input reads as it did. -/
def proofNeedsUptoRow : OpenClaim := { program := "ytgfemjpeegbhhaadoor", sum := "cd5bd35de096e78f6bb82a023b18e4075d0a2bfce9e0ce74c8ee57847f84ae40", func := "hypostyle/hypostylelaw22.ProofNeeds", spec := "proofNeeds", unfollowed := true, recurses := true, named := ["hypostyle/sha.constants"], plainKeys := false, apart := false, laid := [("hypostyle/sha.constants", laid_hypostyle_sha_constants)], narrowed := true }
def ProofNeedsUptoSaid : Prop := proofNeedsUptoRow.holds Tryd.pinned (OpenSpec.upto proofNeedsSpec)

/-- 'hypostylelaw22.ProofJoins', WHERE WHAT IT READS IS OF BULK AT MOST 1048576: true; the input reads as it did. -/
def proofJoinsUptoRow : OpenClaim := { program := "ytgfemjpeegbhhaadoor", sum := "cd5bd35de096e78f6bb82a023b18e4075d0a2bfce9e0ce74c8ee57847f84ae40", func := "hypostyle/hypostylelaw22.ProofJoins", spec := "proofJoins", unfollowed := true, recurses := true, named := ["hypostyle/sha.constants"], plainKeys := false, apart := false, laid := [("hypostyle/sha.constants", laid_hypostyle_sha_constants)], narrowed := true }
def ProofJoinsUptoSaid : Prop := proofJoinsUptoRow.holds Tryd.pinned (OpenSpec.upto proofJoinsSpec)

/-- 'hypostylelaw22.ProofSound', WHERE WHAT IT READS IS OF BULK AT MOST 1048576: true; the input reads as it did. -/
def proofSoundUptoRow : OpenClaim := { program := "ytgfemjpeegbhhaadoor", sum := "cd5bd35de096e78f6bb82a023b18e4075d0a2bfce9e0ce74c8ee57847f84ae40", func := "hypostyle/hypostylelaw22.ProofSound", spec := "proofSound", unfollowed := true, recurses := true, named := ["hypostyle/sha.constants"], plainKeys := false, apart := false, laid := [("hypostyle/sha.constants", laid_hypostyle_sha_constants)], narrowed := true }
def ProofSoundUptoSaid : Prop := proofSoundUptoRow.holds Tryd.pinned (OpenSpec.upto proofSoundSpec)

/-- 'hypostylelaw22.ProofFew', WHERE WHAT IT READS IS OF BULK AT MOST 1048576: true; the input reads as it did. -/
def proofFewUptoRow : OpenClaim := { program := "ytgfemjpeegbhhaadoor", sum := "cd5bd35de096e78f6bb82a023b18e4075d0a2bfce9e0ce74c8ee57847f84ae40", func := "hypostyle/hypostylelaw22.ProofFew", spec := "proofFew", unfollowed := true, recurses := true, named := ["hypostyle/sha.constants"], plainKeys := false, apart := false, laid := [("hypostyle/sha.constants", laid_hypostyle_sha_constants)], narrowed := true }
def ProofFewUptoSaid : Prop := proofFewUptoRow.holds Tryd.pinned (OpenSpec.upto proofFewSpec)

end Rows
end Go.Proofs.YtgfemjpeegbhhaaDoor
