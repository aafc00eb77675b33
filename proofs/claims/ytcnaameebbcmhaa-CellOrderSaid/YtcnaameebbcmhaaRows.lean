/-
  No cell of these rows narrows 'for every input' (looked for: loops, veiled, ifaces, maps, wideKeys, modest, calm, conditions, laid).
  DERIVED. THE GIVEN ROWS OF THIS SEAT. 6 by the template 'for every input the law returns true; each argument reads behind the call as it read before'; 0 by the template 'total and deterministic' (their statements: YtcnaameebbcmhaaTotals.lean).
  GIVEN WITH THE SEED: the statements are not yours to turn. If you find one false, say at which input.
  Laid BY PROGRAM, IN A SANDBOX (cutbox-rows.mjs): the forced cells as the released guide's own fill.sh prints them over the translation 8cb745d540b0f8b3… (all of the seat's roots in one cut). By AI agents, Wed Nov 11 2026. No macro, syntax, notation, axiom, sorry.
-/
import Derived.Test.YtcnaameebbcmhaaChecked
import GoSem.Claim
import GoSem.ClaimJoined
import GoSem.ClaimMapViews
import Derived.JoinedTies
import Derived.KernelRfl
namespace Go.Proofs.Ytcnaameebbcmhaa
/- THE CELL 'sum', in the pinned program and in every row, IS THE sha256 OF THE DUMP (.gsa) THAT YtcnaameebbcmhaaProg.lean LOADS. Nothing in Lean hashes anything: it is a label: what it is worth is what the hold of that sum in a sandbox is worth. -/
noncomputable def Try.pinned : Pinned := { name := "ytcnaameebbcmhaa", sum := "8cb745d540b0f8b3da53480f47f47331e59dced64449b466c53c206d0989ff19", checked := Try.checked }
namespace Rows
def none {H : Type} : Left H := { results := [], args := [] }

/-- 'hypostylelaw07.CellTells': WHATEVER THE INPUT: true; the input reads as it did. -/
def cellTellsSpec : ChangeSpec := { name := "cellTells", fn := fun _ => fun
  | [d1, d2, d3] => { results := [.lit (.bool true)], args := [d1, d2, d3] }
  | _ => none }
def cellTellsRow : OpenClaim := { program := "ytcnaameebbcmhaa", sum := "8cb745d540b0f8b3da53480f47f47331e59dced64449b466c53c206d0989ff19", func := "hypostyle/hypostylelaw07.CellTells", spec := "cellTells", inPlace := ["internal/bytealg.abigen_runtime_cmpstring"], apart := false }
def CellTellsSaid : Prop := cellTellsRow.holds Try.pinned (OpenSpec.ofChange cellTellsSpec)

/-- ITS FALSE NEIGHBOUR: 'it returns false'. Refute it at one input. -/
def cellTellsWrong : ChangeSpec := { name := "cellTells", fn := fun _ => fun
  | [d1, d2, d3] => { results := [.lit (.bool false)], args := [d1, d2, d3] }
  | _ => none }
def CellTellsWrongFalsely : Prop := cellTellsRow.holds Try.pinned (OpenSpec.ofChange cellTellsWrong)

/-- 'hypostylelaw07.CellChecks': WHATEVER THE INPUT: true; the input reads as it did. -/
def cellChecksSpec : ChangeSpec := { name := "cellChecks", fn := fun _ => fun
  | [d] => { results := [.lit (.bool true)], args := [d] }
  | _ => none }
def cellChecksRow : OpenClaim := { program := "ytcnaameebbcmhaa", sum := "8cb745d540b0f8b3da53480f47f47331e59dced64449b466c53c206d0989ff19", func := "hypostyle/hypostylelaw07.CellChecks", spec := "cellChecks", inPlace := ["internal/bytealg.abigen_runtime_cmpstring"], apart := false }
def CellChecksSaid : Prop := cellChecksRow.holds Try.pinned (OpenSpec.ofChange cellChecksSpec)

/-- ITS FALSE NEIGHBOUR: 'it returns false'. Refute it at one input. -/
def cellChecksWrong : ChangeSpec := { name := "cellChecks", fn := fun _ => fun
  | [d] => { results := [.lit (.bool false)], args := [d] }
  | _ => none }
def CellChecksWrongFalsely : Prop := cellChecksRow.holds Try.pinned (OpenSpec.ofChange cellChecksWrong)

/-- 'hypostylelaw07.CellProjects': WHATEVER THE INPUT: true; the input reads as it did. -/
def cellProjectsSpec : ChangeSpec := { name := "cellProjects", fn := fun _ => fun
  | [d1, d2, d3, d4] => { results := [.lit (.bool true)], args := [d1, d2, d3, d4] }
  | _ => none }
def cellProjectsRow : OpenClaim := { program := "ytcnaameebbcmhaa", sum := "8cb745d540b0f8b3da53480f47f47331e59dced64449b466c53c206d0989ff19", func := "hypostyle/hypostylelaw07.CellProjects", spec := "cellProjects", inPlace := ["internal/bytealg.abigen_runtime_cmpstring"], apart := false }
def CellProjectsSaid : Prop := cellProjectsRow.holds Try.pinned (OpenSpec.ofChange cellProjectsSpec)

/-- ITS FALSE NEIGHBOUR: 'it returns false'. Refute it at one input. -/
def cellProjectsWrong : ChangeSpec := { name := "cellProjects", fn := fun _ => fun
  | [d1, d2, d3, d4] => { results := [.lit (.bool false)], args := [d1, d2, d3, d4] }
  | _ => none }
def CellProjectsWrongFalsely : Prop := cellProjectsRow.holds Try.pinned (OpenSpec.ofChange cellProjectsWrong)

/-- 'hypostylelaw07.CellTwice': WHATEVER THE INPUT: true; the input reads as it did. -/
def cellTwiceSpec : ChangeSpec := { name := "cellTwice", fn := fun _ => fun
  | [d1, d2, d3, d4, d5, d6, d7] => { results := [.lit (.bool true)], args := [d1, d2, d3, d4, d5, d6, d7] }
  | _ => none }
def cellTwiceRow : OpenClaim := { program := "ytcnaameebbcmhaa", sum := "8cb745d540b0f8b3da53480f47f47331e59dced64449b466c53c206d0989ff19", func := "hypostyle/hypostylelaw07.CellTwice", spec := "cellTwice", inPlace := ["internal/bytealg.abigen_runtime_cmpstring"], apart := false }
def CellTwiceSaid : Prop := cellTwiceRow.holds Try.pinned (OpenSpec.ofChange cellTwiceSpec)

/-- ITS FALSE NEIGHBOUR: 'it returns false'. Refute it at one input. -/
def cellTwiceWrong : ChangeSpec := { name := "cellTwice", fn := fun _ => fun
  | [d1, d2, d3, d4, d5, d6, d7] => { results := [.lit (.bool false)], args := [d1, d2, d3, d4, d5, d6, d7] }
  | _ => none }
def CellTwiceWrongFalsely : Prop := cellTwiceRow.holds Try.pinned (OpenSpec.ofChange cellTwiceWrong)

/-- 'hypostylelaw07.CellOrder': WHATEVER THE INPUT: true; the input reads as it did. -/
def cellOrderSpec : ChangeSpec := { name := "cellOrder", fn := fun _ => fun
  | [d1, d2, d3, d4] => { results := [.lit (.bool true)], args := [d1, d2, d3, d4] }
  | _ => none }
def cellOrderRow : OpenClaim := { program := "ytcnaameebbcmhaa", sum := "8cb745d540b0f8b3da53480f47f47331e59dced64449b466c53c206d0989ff19", func := "hypostyle/hypostylelaw07.CellOrder", spec := "cellOrder", inPlace := ["internal/bytealg.abigen_runtime_cmpstring"], apart := false }
def CellOrderSaid : Prop := cellOrderRow.holds Try.pinned (OpenSpec.ofChange cellOrderSpec)

/-- ITS FALSE NEIGHBOUR: 'it returns false'. Refute it at one input. -/
def cellOrderWrong : ChangeSpec := { name := "cellOrder", fn := fun _ => fun
  | [d1, d2, d3, d4] => { results := [.lit (.bool false)], args := [d1, d2, d3, d4] }
  | _ => none }
def CellOrderWrongFalsely : Prop := cellOrderRow.holds Try.pinned (OpenSpec.ofChange cellOrderWrong)

/-- 'hypostylelaw07.CellCols': WHATEVER THE INPUT: true; the input reads as it did. -/
def cellColsSpec : ChangeSpec := { name := "cellCols", fn := fun _ => fun
  | [d1, d2] => { results := [.lit (.bool true)], args := [d1, d2] }
  | _ => none }
def cellColsRow : OpenClaim := { program := "ytcnaameebbcmhaa", sum := "8cb745d540b0f8b3da53480f47f47331e59dced64449b466c53c206d0989ff19", func := "hypostyle/hypostylelaw07.CellCols", spec := "cellCols", inPlace := ["internal/bytealg.abigen_runtime_cmpstring"], apart := false }
def CellColsSaid : Prop := cellColsRow.holds Try.pinned (OpenSpec.ofChange cellColsSpec)

/-- ITS FALSE NEIGHBOUR: 'it returns false'. Refute it at one input. -/
def cellColsWrong : ChangeSpec := { name := "cellCols", fn := fun _ => fun
  | [d1, d2] => { results := [.lit (.bool false)], args := [d1, d2] }
  | _ => none }
def CellColsWrongFalsely : Prop := cellColsRow.holds Try.pinned (OpenSpec.ofChange cellColsWrong)

/- THE SECOND FORM. 'bulk': how many values and letters a reading holds, each counted each time it is reached (what is shared counts as often as it is met; a slice's spare places count too). A statement '..UptoSaid' is the law's where the arguments, and the package variables that the reading takes, are together of bulk at most 1048576: NARROWER than '..Said'. Prove '..Said' where nothing that the law and all that it calls make is longer than what came in: it says more and counts as full. Else prove '..UptoSaid'. A law counts once. -/
mutual
def uptoBulk {H : Type} : DataW H → Nat
  | .lit (.string bytes) => bytes.length + 1
  | .lit _ => 1
  | .nil => 1
  | .ptr d => uptoBulk d + 1
  | .slice elems spare => uptoBulkAll elems + uptoBulkAll spare + 1
  | .agg parts => uptoBulkAll parts + 1
  | .iface _ d => uptoBulk d + 1
  | .map entries => uptoBulkEntries entries + 1
  | .held _ => 1
def uptoBulkAll {H : Type} : List (DataW H) → Nat
  | [] => 0
  | d :: r => uptoBulk d + uptoBulkAll r
def uptoBulkEntries {H : Type} : List (Lit × DataW H) → Nat
  | [] => 0
  | x :: r => uptoBulkEntry x + uptoBulkEntries r
def uptoBulkEntry {H : Type} : Lit × DataW H → Nat
  | (.string bytes, d) => bytes.length + uptoBulk d + 1
  | (_, d) => uptoBulk d + 1
 end
def uptoSmall : (H : Type) → List (DataW H) → Bool := fun _ ds => decide (uptoBulkAll ds ≤ 1048576)
def OpenSpec.upto (s : _root_.Go.ChangeSpec) : _root_.Go.OpenSpec := { _root_.Go.OpenSpec.ofChange s with cond := some uptoSmall }

/-- 'hypostylelaw07.CellTells', WHERE WHAT IT READS IS OF BULK AT MOST 1048576: true; the input reads as it did. -/
def cellTellsUptoRow : OpenClaim := { program := "ytcnaameebbcmhaa", sum := "8cb745d540b0f8b3da53480f47f47331e59dced64449b466c53c206d0989ff19", func := "hypostyle/hypostylelaw07.CellTells", spec := "cellTells", inPlace := ["internal/bytealg.abigen_runtime_cmpstring"], apart := false, narrowed := true }
def CellTellsUptoSaid : Prop := cellTellsUptoRow.holds Try.pinned (OpenSpec.upto cellTellsSpec)

/-- 'hypostylelaw07.CellChecks', WHERE WHAT IT READS IS OF BULK AT MOST 1048576: true; the input reads as it did. -/
def cellChecksUptoRow : OpenClaim := { program := "ytcnaameebbcmhaa", sum := "8cb745d540b0f8b3da53480f47f47331e59dced64449b466c53c206d0989ff19", func := "hypostyle/hypostylelaw07.CellChecks", spec := "cellChecks", inPlace := ["internal/bytealg.abigen_runtime_cmpstring"], apart := false, narrowed := true }
def CellChecksUptoSaid : Prop := cellChecksUptoRow.holds Try.pinned (OpenSpec.upto cellChecksSpec)

/-- 'hypostylelaw07.CellProjects', WHERE WHAT IT READS IS OF BULK AT MOST 1048576: true; the input reads as it did. -/
def cellProjectsUptoRow : OpenClaim := { program := "ytcnaameebbcmhaa", sum := "8cb745d540b0f8b3da53480f47f47331e59dced64449b466c53c206d0989ff19", func := "hypostyle/hypostylelaw07.CellProjects", spec := "cellProjects", inPlace := ["internal/bytealg.abigen_runtime_cmpstring"], apart := false, narrowed := true }
def CellProjectsUptoSaid : Prop := cellProjectsUptoRow.holds Try.pinned (OpenSpec.upto cellProjectsSpec)

/-- 'hypostylelaw07.CellTwice', WHERE WHAT IT READS IS OF BULK AT MOST 1048576: true; the input reads as it did. -/
def cellTwiceUptoRow : OpenClaim := { program := "ytcnaameebbcmhaa", sum := "8cb745d540b0f8b3da53480f47f47331e59dced64449b466c53c206d0989ff19", func := "hypostyle/hypostylelaw07.CellTwice", spec := "cellTwice", inPlace := ["internal/bytealg.abigen_runtime_cmpstring"], apart := false, narrowed := true }
def CellTwiceUptoSaid : Prop := cellTwiceUptoRow.holds Try.pinned (OpenSpec.upto cellTwiceSpec)

/-- 'hypostylelaw07.CellOrder', WHERE WHAT IT READS IS OF BULK AT MOST 1048576: true; the input reads as it did. -/
def cellOrderUptoRow : OpenClaim := { program := "ytcnaameebbcmhaa", sum := "8cb745d540b0f8b3da53480f47f47331e59dced64449b466c53c206d0989ff19", func := "hypostyle/hypostylelaw07.CellOrder", spec := "cellOrder", inPlace := ["internal/bytealg.abigen_runtime_cmpstring"], apart := false, narrowed := true }
def CellOrderUptoSaid : Prop := cellOrderUptoRow.holds Try.pinned (OpenSpec.upto cellOrderSpec)

/-- 'hypostylelaw07.CellCols', WHERE WHAT IT READS IS OF BULK AT MOST 1048576: true; the input reads as it did. -/
def cellColsUptoRow : OpenClaim := { program := "ytcnaameebbcmhaa", sum := "8cb745d540b0f8b3da53480f47f47331e59dced64449b466c53c206d0989ff19", func := "hypostyle/hypostylelaw07.CellCols", spec := "cellCols", inPlace := ["internal/bytealg.abigen_runtime_cmpstring"], apart := false, narrowed := true }
def CellColsUptoSaid : Prop := cellColsUptoRow.holds Try.pinned (OpenSpec.upto cellColsSpec)

end Rows
end Go.Proofs.Ytcnaameebbcmhaa
