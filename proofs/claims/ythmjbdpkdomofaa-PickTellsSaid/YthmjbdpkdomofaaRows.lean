/-
  No cell of these rows narrows 'for every input' (looked for: loops, veiled, ifaces, maps, wideKeys, modest, calm, conditions, laid).
  DERIVED. THE GIVEN ROWS OF THIS SEAT. 6 by the template 'for every input the law returns true; each argument reads behind the call as it read before'; 0 by the template 'total and deterministic' (their statements: YthmjbdpkdomofaaTotals.lean).
  GIVEN WITH THE SEED: the statements are not yours to turn. If you find one false, say at which input.
  Laid BY PROGRAM, IN A SANDBOX (cutbox-rows.mjs): the forced cells as the released guide's own fill.sh prints them over the translation 712cd2ab1f826c8a… (all of the seat's roots in one cut). By AI agents, Wed Nov 11 2026. No macro, syntax, notation, axiom, sorry.
-/
import Derived.Test.YthmjbdpkdomofaaChecked
import GoSem.Claim
import GoSem.ClaimJoined
import GoSem.ClaimMapViews
import Derived.JoinedTies
import Derived.KernelRfl
namespace Go.Proofs.Ythmjbdpkdomofaa
/- THE CELL 'sum', in the pinned program and in every row, IS THE sha256 OF THE DUMP (.gsa) THAT YthmjbdpkdomofaaProg.lean LOADS. Nothing in Lean hashes anything: it is a label: what it is worth is what the hold of that sum in a sandbox is worth. -/
noncomputable def Try.pinned : Pinned := { name := "ythmjbdpkdomofaa", sum := "712cd2ab1f826c8a83ce5316791fecf5ab54087547e982f4ec134c9c30a7d602", checked := Try.checked }
namespace Rows
def none {H : Type} : Left H := { results := [], args := [] }

/-- 'hypostylelaw25.PickTells': WHATEVER THE INPUT: true; the input reads as it did. -/
def pickTellsSpec : ChangeSpec := { name := "pickTells", fn := fun _ => fun
  | [d1, d2] => { results := [.lit (.bool true)], args := [d1, d2] }
  | _ => none }
def pickTellsRow : OpenClaim := { program := "ythmjbdpkdomofaa", sum := "712cd2ab1f826c8a83ce5316791fecf5ab54087547e982f4ec134c9c30a7d602", func := "hypostyle/hypostylelaw25.PickTells", spec := "pickTells", inPlace := ["internal/bytealg.abigen_runtime_cmpstring"], unfollowed := true, recurses := true, apart := false }
def PickTellsSaid : Prop := pickTellsRow.holds Try.pinned (OpenSpec.ofChange pickTellsSpec)

/-- ITS FALSE NEIGHBOUR: 'it returns false'. Refute it at one input. -/
def pickTellsWrong : ChangeSpec := { name := "pickTells", fn := fun _ => fun
  | [d1, d2] => { results := [.lit (.bool false)], args := [d1, d2] }
  | _ => none }
def PickTellsWrongFalsely : Prop := pickTellsRow.holds Try.pinned (OpenSpec.ofChange pickTellsWrong)

/-- 'hypostylelaw25.PickRows': WHATEVER THE INPUT: true; the input reads as it did. -/
def pickRowsSpec : ChangeSpec := { name := "pickRows", fn := fun _ => fun
  | [d1, d2] => { results := [.lit (.bool true)], args := [d1, d2] }
  | _ => none }
def pickRowsRow : OpenClaim := { program := "ythmjbdpkdomofaa", sum := "712cd2ab1f826c8a83ce5316791fecf5ab54087547e982f4ec134c9c30a7d602", func := "hypostyle/hypostylelaw25.PickRows", spec := "pickRows", inPlace := ["internal/bytealg.abigen_runtime_cmpstring"], unfollowed := true, recurses := true, apart := false }
def PickRowsSaid : Prop := pickRowsRow.holds Try.pinned (OpenSpec.ofChange pickRowsSpec)

/-- ITS FALSE NEIGHBOUR: 'it returns false'. Refute it at one input. -/
def pickRowsWrong : ChangeSpec := { name := "pickRows", fn := fun _ => fun
  | [d1, d2] => { results := [.lit (.bool false)], args := [d1, d2] }
  | _ => none }
def PickRowsWrongFalsely : Prop := pickRowsRow.holds Try.pinned (OpenSpec.ofChange pickRowsWrong)

/-- 'hypostylelaw25.PickFew': WHATEVER THE INPUT: true; the input reads as it did. -/
def pickFewSpec : ChangeSpec := { name := "pickFew", fn := fun _ => fun
  | [d1, d2] => { results := [.lit (.bool true)], args := [d1, d2] }
  | _ => none }
def pickFewRow : OpenClaim := { program := "ythmjbdpkdomofaa", sum := "712cd2ab1f826c8a83ce5316791fecf5ab54087547e982f4ec134c9c30a7d602", func := "hypostyle/hypostylelaw25.PickFew", spec := "pickFew", inPlace := ["internal/bytealg.abigen_runtime_cmpstring"], unfollowed := true, recurses := true, apart := false }
def PickFewSaid : Prop := pickFewRow.holds Try.pinned (OpenSpec.ofChange pickFewSpec)

/-- ITS FALSE NEIGHBOUR: 'it returns false'. Refute it at one input. -/
def pickFewWrong : ChangeSpec := { name := "pickFew", fn := fun _ => fun
  | [d1, d2] => { results := [.lit (.bool false)], args := [d1, d2] }
  | _ => none }
def PickFewWrongFalsely : Prop := pickFewRow.holds Try.pinned (OpenSpec.ofChange pickFewWrong)

/-- 'hypostylelaw25.PickParts': WHATEVER THE INPUT: true; the input reads as it did. -/
def pickPartsSpec : ChangeSpec := { name := "pickParts", fn := fun _ => fun
  | [d1, d2, d3] => { results := [.lit (.bool true)], args := [d1, d2, d3] }
  | _ => none }
def pickPartsRow : OpenClaim := { program := "ythmjbdpkdomofaa", sum := "712cd2ab1f826c8a83ce5316791fecf5ab54087547e982f4ec134c9c30a7d602", func := "hypostyle/hypostylelaw25.PickParts", spec := "pickParts", inPlace := ["internal/bytealg.abigen_runtime_cmpstring"], unfollowed := true, recurses := true, apart := false }
def PickPartsSaid : Prop := pickPartsRow.holds Try.pinned (OpenSpec.ofChange pickPartsSpec)

/-- ITS FALSE NEIGHBOUR: 'it returns false'. Refute it at one input. -/
def pickPartsWrong : ChangeSpec := { name := "pickParts", fn := fun _ => fun
  | [d1, d2, d3] => { results := [.lit (.bool false)], args := [d1, d2, d3] }
  | _ => none }
def PickPartsWrongFalsely : Prop := pickPartsRow.holds Try.pinned (OpenSpec.ofChange pickPartsWrong)

/-- 'hypostylelaw25.PickCols': WHATEVER THE INPUT: true; the input reads as it did. -/
def pickColsSpec : ChangeSpec := { name := "pickCols", fn := fun _ => fun
  | [d1, d2] => { results := [.lit (.bool true)], args := [d1, d2] }
  | _ => none }
def pickColsRow : OpenClaim := { program := "ythmjbdpkdomofaa", sum := "712cd2ab1f826c8a83ce5316791fecf5ab54087547e982f4ec134c9c30a7d602", func := "hypostyle/hypostylelaw25.PickCols", spec := "pickCols", inPlace := ["internal/bytealg.abigen_runtime_cmpstring"], unfollowed := true, recurses := true, apart := false }
def PickColsSaid : Prop := pickColsRow.holds Try.pinned (OpenSpec.ofChange pickColsSpec)

/-- ITS FALSE NEIGHBOUR: 'it returns false'. Refute it at one input. -/
def pickColsWrong : ChangeSpec := { name := "pickCols", fn := fun _ => fun
  | [d1, d2] => { results := [.lit (.bool false)], args := [d1, d2] }
  | _ => none }
def PickColsWrongFalsely : Prop := pickColsRow.holds Try.pinned (OpenSpec.ofChange pickColsWrong)

/-- 'hypostylelaw25.PickNone': WHATEVER THE INPUT: true; the input reads as it did. -/
def pickNoneSpec : ChangeSpec := { name := "pickNone", fn := fun _ => fun
  | [d1, d2, d3] => { results := [.lit (.bool true)], args := [d1, d2, d3] }
  | _ => none }
def pickNoneRow : OpenClaim := { program := "ythmjbdpkdomofaa", sum := "712cd2ab1f826c8a83ce5316791fecf5ab54087547e982f4ec134c9c30a7d602", func := "hypostyle/hypostylelaw25.PickNone", spec := "pickNone", inPlace := ["internal/bytealg.abigen_runtime_cmpstring"], unfollowed := true, recurses := true, apart := false }
def PickNoneSaid : Prop := pickNoneRow.holds Try.pinned (OpenSpec.ofChange pickNoneSpec)

/-- ITS FALSE NEIGHBOUR: 'it returns false'. Refute it at one input. -/
def pickNoneWrong : ChangeSpec := { name := "pickNone", fn := fun _ => fun
  | [d1, d2, d3] => { results := [.lit (.bool false)], args := [d1, d2, d3] }
  | _ => none }
def PickNoneWrongFalsely : Prop := pickNoneRow.holds Try.pinned (OpenSpec.ofChange pickNoneWrong)

/- THE SECOND FORM. 'bulk': how many values and letters a reading holds, each counted each time it is reached (what is shared counts as often as it is met; a slice's spare places count too). A statement '..UptoSaid' is the law's where the arguments, and the package variables that the reading takes, are together of bulk at most 1048576: NARROWER than '..Said'. Prove '..Said' where nothing that the law and all that it calls make is longer than what came in: it says more and counts as full. Else prove '..UptoSaid'. A law counts once. -/
mutual
def uptoBulk {H : Type} : DataW H → Nat
  | .lit (.string bytes) => bytes.length + 1
  | .lit _ => 1
  | .nil => 1
  | .ptr d => uptoBulk d + 1
  | .slice elems spare => uptoBulkAll elems + uptoBulkAll spare + 1
  | .agg parts => uptoBulkAll parts + 1
  | .iface _ d => uptoBulk d + 1
  | .map entries => uptoBulkEntries entries + 1
  | .held _ => 1
def uptoBulkAll {H : Type} : List (DataW H) → Nat
  | [] => 0
  | d :: r => uptoBulk d + uptoBulkAll r
def uptoBulkEntries {H : Type} : List (Lit × DataW H) → Nat
  | [] => 0
  | x :: r => uptoBulkEntry x + uptoBulkEntries r
def uptoBulkEntry {H : Type} : Lit × DataW H → Nat
  | (.string bytes, d) => bytes.length + uptoBulk d + 1
  | (_, d) => uptoBulk d + 1
 end
def uptoSmall : (H : Type) → List (DataW H) → Bool := fun _ ds => decide (uptoBulkAll ds ≤ 1048576)
def OpenSpec.upto (s : _root_.Go.ChangeSpec) : _root_.Go.OpenSpec := { _root_.Go.OpenSpec.ofChange s with cond := some uptoSmall }

/-- 'hypostylelaw25.PickTells', WHERE WHAT IT READS IS OF BULK AT MOST 1048576: true; the input reads as it did. -/
def pickTellsUptoRow : OpenClaim := { program := "ythmjbdpkdomofaa", sum := "712cd2ab1f826c8a83ce5316791fecf5ab54087547e982f4ec134c9c30a7d602", func := "hypostyle/hypostylelaw25.PickTells", spec := "pickTells", inPlace := ["internal/bytealg.abigen_runtime_cmpstring"], unfollowed := true, recurses := true, apart := false, narrowed := true }
def PickTellsUptoSaid : Prop := pickTellsUptoRow.holds Try.pinned (OpenSpec.upto pickTellsSpec)

/-- 'hypostylelaw25.PickRows', WHERE WHAT IT READS IS OF BULK AT MOST 1048576: true; the input reads as it did. -/
def pickRowsUptoRow : OpenClaim := { program := "ythmjbdpkdomofaa", sum := "712cd2ab1f826c8a83ce5316791fecf5ab54087547e982f4ec134c9c30a7d602", func := "hypostyle/hypostylelaw25.PickRows", spec := "pickRows", inPlace := ["internal/bytealg.abigen_runtime_cmpstring"], unfollowed := true, recurses := true, apart := false, narrowed := true }
def PickRowsUptoSaid : Prop := pickRowsUptoRow.holds Try.pinned (OpenSpec.upto pickRowsSpec)

/-- 'hypostylelaw25.PickFew', WHERE WHAT IT READS IS OF BULK AT MOST 1048576: true; the input reads as it did. -/
def pickFewUptoRow : OpenClaim := { program := "ythmjbdpkdomofaa", sum := "712cd2ab1f826c8a83ce5316791fecf5ab54087547e982f4ec134c9c30a7d602", func := "hypostyle/hypostylelaw25.PickFew", spec := "pickFew", inPlace := ["internal/bytealg.abigen_runtime_cmpstring"], unfollowed := true, recurses := true, apart := false, narrowed := true }
def PickFewUptoSaid : Prop := pickFewUptoRow.holds Try.pinned (OpenSpec.upto pickFewSpec)

/-- 'hypostylelaw25.PickParts', WHERE WHAT IT READS IS OF BULK AT MOST 1048576: true; the input reads as it did. -/
def pickPartsUptoRow : OpenClaim := { program := "ythmjbdpkdomofaa", sum := "712cd2ab1f826c8a83ce5316791fecf5ab54087547e982f4ec134c9c30a7d602", func := "hypostyle/hypostylelaw25.PickParts", spec := "pickParts", inPlace := ["internal/bytealg.abigen_runtime_cmpstring"], unfollowed := true, recurses := true, apart := false, narrowed := true }
def PickPartsUptoSaid : Prop := pickPartsUptoRow.holds Try.pinned (OpenSpec.upto pickPartsSpec)

/-- 'hypostylelaw25.PickCols', WHERE WHAT IT READS IS OF BULK AT MOST 1048576: true; the input reads as it did. -/
def pickColsUptoRow : OpenClaim := { program := "ythmjbdpkdomofaa", sum := "712cd2ab1f826c8a83ce5316791fecf5ab54087547e982f4ec134c9c30a7d602", func := "hypostyle/hypostylelaw25.PickCols", spec := "pickCols", inPlace := ["internal/bytealg.abigen_runtime_cmpstring"], unfollowed := true, recurses := true, apart := false, narrowed := true }
def PickColsUptoSaid : Prop := pickColsUptoRow.holds Try.pinned (OpenSpec.upto pickColsSpec)

/-- 'hypostylelaw25.PickNone', WHERE WHAT IT READS IS OF BULK AT MOST 1048576: true; the input reads as it did. -/
def pickNoneUptoRow : OpenClaim := { program := "ythmjbdpkdomofaa", sum := "712cd2ab1f826c8a83ce5316791fecf5ab54087547e982f4ec134c9c30a7d602", func := "hypostyle/hypostylelaw25.PickNone", spec := "pickNone", inPlace := ["internal/bytealg.abigen_runtime_cmpstring"], unfollowed := true, recurses := true, apart := false, narrowed := true }
def PickNoneUptoSaid : Prop := pickNoneUptoRow.holds Try.pinned (OpenSpec.upto pickNoneSpec)

end Rows
end Go.Proofs.Ythmjbdpkdomofaa
