/-
  No cell of these rows narrows 'for every input' (looked for: loops, veiled, ifaces, maps, wideKeys, modest, calm, conditions, laid).
  DERIVED. THE GIVEN ROWS OF THIS SEAT. 6 by the template 'for every input the law returns true; each argument reads behind the call as it read before'; 0 by the template 'total and deterministic' (their statements: YtpdjgmhhbdfdcaaTotals.lean).
  GIVEN WITH THE SEED: the statements are not yours to turn. If you find one false, say at which input.
  Laid BY PROGRAM, IN A SANDBOX (cutbox-rows.mjs): the forced cells as the released guide's own fill.sh prints them over the translation d59d95cdaa8a4680… (all of the seat's roots in one cut). By AI agents, Wed Nov 11 2026. No macro, syntax, notation, axiom, sorry.
-/
import Derived.Test.YtpdjgmhhbdfdcaaChecked
import GoSem.Claim
import GoSem.ClaimJoined
import GoSem.ClaimMapViews
import Derived.JoinedTies
import Derived.KernelRfl
namespace Go.Proofs.Ytpdjgmhhbdfdcaa
/- THE CELL 'sum', in the pinned program and in every row, IS THE sha256 OF THE DUMP (.gsa) THAT YtpdjgmhhbdfdcaaProg.lean LOADS. Nothing in Lean hashes anything: it is a label: what it is worth is what the hold of that sum in a sandbox is worth. -/
noncomputable def Try.pinned : Pinned := { name := "ytpdjgmhhbdfdcaa", sum := "d59d95cdaa8a4680c7b99e3e098b1f2984a17f725fe1caf24538e27e516e3118", checked := Try.checked }
namespace Rows
def none {H : Type} : Left H := { results := [], args := [] }

/-- 'hypostylelaw24.QueryEncodes': WHATEVER THE INPUT: true; the input reads as it did. -/
def queryEncodesSpec : ChangeSpec := { name := "queryEncodes", fn := fun _ => fun
  | [d1, d2] => { results := [.lit (.bool true)], args := [d1, d2] }
  | _ => none }
def queryEncodesRow : OpenClaim := { program := "ytpdjgmhhbdfdcaa", sum := "d59d95cdaa8a4680c7b99e3e098b1f2984a17f725fe1caf24538e27e516e3118", func := "hypostyle/hypostylelaw24.QueryEncodes", spec := "queryEncodes", apart := false }
def QueryEncodesSaid : Prop := queryEncodesRow.holds Try.pinned (OpenSpec.ofChange queryEncodesSpec)

/-- ITS FALSE NEIGHBOUR: 'it returns false'. Refute it at one input. -/
def queryEncodesWrong : ChangeSpec := { name := "queryEncodes", fn := fun _ => fun
  | [d1, d2] => { results := [.lit (.bool false)], args := [d1, d2] }
  | _ => none }
def QueryEncodesWrongFalsely : Prop := queryEncodesRow.holds Try.pinned (OpenSpec.ofChange queryEncodesWrong)

/-- 'hypostylelaw24.QueryDecodes': WHATEVER THE INPUT: true; the input reads as it did. -/
def queryDecodesSpec : ChangeSpec := { name := "queryDecodes", fn := fun _ => fun
  | [d] => { results := [.lit (.bool true)], args := [d] }
  | _ => none }
def queryDecodesRow : OpenClaim := { program := "ytpdjgmhhbdfdcaa", sum := "d59d95cdaa8a4680c7b99e3e098b1f2984a17f725fe1caf24538e27e516e3118", func := "hypostyle/hypostylelaw24.QueryDecodes", spec := "queryDecodes", apart := false }
def QueryDecodesSaid : Prop := queryDecodesRow.holds Try.pinned (OpenSpec.ofChange queryDecodesSpec)

/-- ITS FALSE NEIGHBOUR: 'it returns false'. Refute it at one input. -/
def queryDecodesWrong : ChangeSpec := { name := "queryDecodes", fn := fun _ => fun
  | [d] => { results := [.lit (.bool false)], args := [d] }
  | _ => none }
def QueryDecodesWrongFalsely : Prop := queryDecodesRow.holds Try.pinned (OpenSpec.ofChange queryDecodesWrong)

/-- 'hypostylelaw24.QueryBack': WHATEVER THE INPUT: true; the input reads as it did. -/
def queryBackSpec : ChangeSpec := { name := "queryBack", fn := fun _ => fun
  | [d1, d2] => { results := [.lit (.bool true)], args := [d1, d2] }
  | _ => none }
def queryBackRow : OpenClaim := { program := "ytpdjgmhhbdfdcaa", sum := "d59d95cdaa8a4680c7b99e3e098b1f2984a17f725fe1caf24538e27e516e3118", func := "hypostyle/hypostylelaw24.QueryBack", spec := "queryBack", apart := false }
def QueryBackSaid : Prop := queryBackRow.holds Try.pinned (OpenSpec.ofChange queryBackSpec)

/-- ITS FALSE NEIGHBOUR: 'it returns false'. Refute it at one input. -/
def queryBackWrong : ChangeSpec := { name := "queryBack", fn := fun _ => fun
  | [d1, d2] => { results := [.lit (.bool false)], args := [d1, d2] }
  | _ => none }
def QueryBackWrongFalsely : Prop := queryBackRow.holds Try.pinned (OpenSpec.ofChange queryBackWrong)

/-- 'hypostylelaw24.QueryFits': WHATEVER THE INPUT: true; the input reads as it did. -/
def queryFitsSpec : ChangeSpec := { name := "queryFits", fn := fun _ => fun
  | [d1, d2] => { results := [.lit (.bool true)], args := [d1, d2] }
  | _ => none }
def queryFitsRow : OpenClaim := { program := "ytpdjgmhhbdfdcaa", sum := "d59d95cdaa8a4680c7b99e3e098b1f2984a17f725fe1caf24538e27e516e3118", func := "hypostyle/hypostylelaw24.QueryFits", spec := "queryFits", apart := false }
def QueryFitsSaid : Prop := queryFitsRow.holds Try.pinned (OpenSpec.ofChange queryFitsSpec)

/-- ITS FALSE NEIGHBOUR: 'it returns false'. Refute it at one input. -/
def queryFitsWrong : ChangeSpec := { name := "queryFits", fn := fun _ => fun
  | [d1, d2] => { results := [.lit (.bool false)], args := [d1, d2] }
  | _ => none }
def QueryFitsWrongFalsely : Prop := queryFitsRow.holds Try.pinned (OpenSpec.ofChange queryFitsWrong)

/-- 'hypostylelaw24.QueryTwice': WHATEVER THE INPUT: true; the input reads as it did. -/
def queryTwiceSpec : ChangeSpec := { name := "queryTwice", fn := fun _ => fun
  | [d] => { results := [.lit (.bool true)], args := [d] }
  | _ => none }
def queryTwiceRow : OpenClaim := { program := "ytpdjgmhhbdfdcaa", sum := "d59d95cdaa8a4680c7b99e3e098b1f2984a17f725fe1caf24538e27e516e3118", func := "hypostyle/hypostylelaw24.QueryTwice", spec := "queryTwice", apart := false }
def QueryTwiceSaid : Prop := queryTwiceRow.holds Try.pinned (OpenSpec.ofChange queryTwiceSpec)

/-- ITS FALSE NEIGHBOUR: 'it returns false'. Refute it at one input. -/
def queryTwiceWrong : ChangeSpec := { name := "queryTwice", fn := fun _ => fun
  | [d] => { results := [.lit (.bool false)], args := [d] }
  | _ => none }
def QueryTwiceWrongFalsely : Prop := queryTwiceRow.holds Try.pinned (OpenSpec.ofChange queryTwiceWrong)

/-- 'hypostylelaw24.QueryApart': WHATEVER THE INPUT: true; the input reads as it did. -/
def queryApartSpec : ChangeSpec := { name := "queryApart", fn := fun _ => fun
  | [d1, d2] => { results := [.lit (.bool true)], args := [d1, d2] }
  | _ => none }
def queryApartRow : OpenClaim := { program := "ytpdjgmhhbdfdcaa", sum := "d59d95cdaa8a4680c7b99e3e098b1f2984a17f725fe1caf24538e27e516e3118", func := "hypostyle/hypostylelaw24.QueryApart", spec := "queryApart", apart := false }
def QueryApartSaid : Prop := queryApartRow.holds Try.pinned (OpenSpec.ofChange queryApartSpec)

/-- ITS FALSE NEIGHBOUR: 'it returns false'. Refute it at one input. -/
def queryApartWrong : ChangeSpec := { name := "queryApart", fn := fun _ => fun
  | [d1, d2] => { results := [.lit (.bool false)], args := [d1, d2] }
  | _ => none }
def QueryApartWrongFalsely : Prop := queryApartRow.holds Try.pinned (OpenSpec.ofChange queryApartWrong)

/- THE SECOND FORM. 'bulk': how many values and letters a reading holds, each counted each time it is reached (what is shared counts as often as it is met; a slice's spare places count too). A statement '..UptoSaid' is the law's where the arguments, and the package variables that the reading takes, are together of bulk at most 1048576: NARROWER than '..Said'. Prove '..Said' where nothing that the law and all that it calls make is longer than what came in: it says more and counts as full. Else prove '..UptoSaid'. A law counts once. -/
mutual
def uptoBulk {H : Type} : DataW H → Nat
  | .lit (.string bytes) => bytes.length + 1
  | .lit _ => 1
  | .nil => 1
  | .ptr d => uptoBulk d + 1
  | .slice elems spare => uptoBulkAll elems + uptoBulkAll spare + 1
  | .agg parts => uptoBulkAll parts + 1
  | .iface _ d => uptoBulk d + 1
  | .map entries => uptoBulkEntries entries + 1
  | .held _ => 1
def uptoBulkAll {H : Type} : List (DataW H) → Nat
  | [] => 0
  | d :: r => uptoBulk d + uptoBulkAll r
def uptoBulkEntries {H : Type} : List (Lit × DataW H) → Nat
  | [] => 0
  | x :: r => uptoBulkEntry x + uptoBulkEntries r
def uptoBulkEntry {H : Type} : Lit × DataW H → Nat
  | (.string bytes, d) => bytes.length + uptoBulk d + 1
  | (_, d) => uptoBulk d + 1
 end
def uptoSmall : (H : Type) → List (DataW H) → Bool := fun _ ds => decide (uptoBulkAll ds ≤ 1048576)
def OpenSpec.upto (s : _root_.Go.ChangeSpec) : _root_.Go.OpenSpec := { _root_.Go.OpenSpec.ofChange s with cond := some uptoSmall }

/-- 'hypostylelaw24.QueryEncodes', WHERE WHAT IT READS IS OF BULK AT MOST 1048576: true; the input reads as it did. -/
def queryEncodesUptoRow : OpenClaim := { program := "ytpdjgmhhbdfdcaa", sum := "d59d95cdaa8a4680c7b99e3e098b1f2984a17f725fe1caf24538e27e516e3118", func := "hypostyle/hypostylelaw24.QueryEncodes", spec := "queryEncodes", apart := false, narrowed := true }
def QueryEncodesUptoSaid : Prop := queryEncodesUptoRow.holds Try.pinned (OpenSpec.upto queryEncodesSpec)

/-- 'hypostylelaw24.QueryDecodes', WHERE WHAT IT READS IS OF BULK AT MOST 1048576: true; the input reads as it did. -/
def queryDecodesUptoRow : OpenClaim := { program := "ytpdjgmhhbdfdcaa", sum := "d59d95cdaa8a4680c7b99e3e098b1f2984a17f725fe1caf24538e27e516e3118", func := "hypostyle/hypostylelaw24.QueryDecodes", spec := "queryDecodes", apart := false, narrowed := true }
def QueryDecodesUptoSaid : Prop := queryDecodesUptoRow.holds Try.pinned (OpenSpec.upto queryDecodesSpec)

/-- 'hypostylelaw24.QueryBack', WHERE WHAT IT READS IS OF BULK AT MOST 1048576: true; the input reads as it did. -/
def queryBackUptoRow : OpenClaim := { program := "ytpdjgmhhbdfdcaa", sum := "d59d95cdaa8a4680c7b99e3e098b1f2984a17f725fe1caf24538e27e516e3118", func := "hypostyle/hypostylelaw24.QueryBack", spec := "queryBack", apart := false, narrowed := true }
def QueryBackUptoSaid : Prop := queryBackUptoRow.holds Try.pinned (OpenSpec.upto queryBackSpec)

/-- 'hypostylelaw24.QueryFits', WHERE WHAT IT READS IS OF BULK AT MOST 1048576: true; the input reads as it did. -/
def queryFitsUptoRow : OpenClaim := { program := "ytpdjgmhhbdfdcaa", sum := "d59d95cdaa8a4680c7b99e3e098b1f2984a17f725fe1caf24538e27e516e3118", func := "hypostyle/hypostylelaw24.QueryFits", spec := "queryFits", apart := false, narrowed := true }
def QueryFitsUptoSaid : Prop := queryFitsUptoRow.holds Try.pinned (OpenSpec.upto queryFitsSpec)

/-- 'hypostylelaw24.QueryTwice', WHERE WHAT IT READS IS OF BULK AT MOST 1048576: true; the input reads as it did. -/
def queryTwiceUptoRow : OpenClaim := { program := "ytpdjgmhhbdfdcaa", sum := "d59d95cdaa8a4680c7b99e3e098b1f2984a17f725fe1caf24538e27e516e3118", func := "hypostyle/hypostylelaw24.QueryTwice", spec := "queryTwice", apart := false, narrowed := true }
def QueryTwiceUptoSaid : Prop := queryTwiceUptoRow.holds Try.pinned (OpenSpec.upto queryTwiceSpec)

/-- 'hypostylelaw24.QueryApart', WHERE WHAT IT READS IS OF BULK AT MOST 1048576: true; the input reads as it did. -/
def queryApartUptoRow : OpenClaim := { program := "ytpdjgmhhbdfdcaa", sum := "d59d95cdaa8a4680c7b99e3e098b1f2984a17f725fe1caf24538e27e516e3118", func := "hypostyle/hypostylelaw24.QueryApart", spec := "queryApart", apart := false, narrowed := true }
def QueryApartUptoSaid : Prop := queryApartUptoRow.holds Try.pinned (OpenSpec.upto queryApartSpec)

end Rows
end Go.Proofs.Ytpdjgmhhbdfdcaa
