/-
  No cell of these rows narrows 'for every input' (looked for: loops, veiled, ifaces, maps, wideKeys, modest, calm, conditions, laid).
  DERIVED. THE GIVEN ROWS OF THIS SEAT. 17 by the template 'for every input the law returns true; each argument reads behind the call as it read before'; 0 by the template 'total and deterministic' (their statements: YtghfdbnbgkpnaaaTotals.lean).
  GIVEN WITH THE SEED: the statements are not yours to turn. If you find one false, say at which input.
  Laid BY PROGRAM, IN A SANDBOX (cutbox-rows.mjs): the forced cells as the released guide's own fill.sh prints them over the translation b7556fcc4a94dac3… (all of the seat's roots in one cut). By AI agents, Wed Nov 11 2026. No macro, syntax, notation, axiom, sorry.
-/
import Derived.Test.YtghfdbnbgkpnaaaChecked
import GoSem.Claim
import GoSem.ClaimJoined
import GoSem.ClaimMapViews
import Derived.JoinedTies
import Derived.KernelRfl
namespace Go.Proofs.Ytghfdbnbgkpnaaa
/- THE CELL 'sum', in the pinned program and in every row, IS THE sha256 OF THE DUMP (.gsa) THAT YtghfdbnbgkpnaaaProg.lean LOADS. Nothing in Lean hashes anything: it is a label: what it is worth is what the hold of that sum in a sandbox is worth. -/
noncomputable def Try.pinned : Pinned := { name := "ytghfdbnbgkpnaaa", sum := "b7556fcc4a94dac37769f170bc73032c0ca4278b5c665ecbf3e0838270793eef", checked := Try.checked }
namespace Rows
def none {H : Type} : Left H := { results := [], args := [] }

/-- 'hypostylelaw03.CursorReads': WHATEVER THE INPUT: true; the input reads as it did. -/
def cursorReadsSpec : ChangeSpec := { name := "cursorReads", fn := fun _ => fun
  | [d1, d2] => { results := [.lit (.bool true)], args := [d1, d2] }
  | _ => none }
def cursorReadsRow : OpenClaim := { program := "ytghfdbnbgkpnaaa", sum := "b7556fcc4a94dac37769f170bc73032c0ca4278b5c665ecbf3e0838270793eef", func := "hypostyle/hypostylelaw03.CursorReads", spec := "cursorReads", apart := false }
def CursorReadsSaid : Prop := cursorReadsRow.holds Try.pinned (OpenSpec.ofChange cursorReadsSpec)

/-- ITS FALSE NEIGHBOUR: 'it returns false'. Refute it at one input. -/
def cursorReadsWrong : ChangeSpec := { name := "cursorReads", fn := fun _ => fun
  | [d1, d2] => { results := [.lit (.bool false)], args := [d1, d2] }
  | _ => none }
def CursorReadsWrongFalsely : Prop := cursorReadsRow.holds Try.pinned (OpenSpec.ofChange cursorReadsWrong)

/-- 'hypostylelaw03.CursorLays': WHATEVER THE INPUT: true; the input reads as it did. -/
def cursorLaysSpec : ChangeSpec := { name := "cursorLays", fn := fun _ => fun
  | [d1, d2, d3] => { results := [.lit (.bool true)], args := [d1, d2, d3] }
  | _ => none }
def cursorLaysRow : OpenClaim := { program := "ytghfdbnbgkpnaaa", sum := "b7556fcc4a94dac37769f170bc73032c0ca4278b5c665ecbf3e0838270793eef", func := "hypostyle/hypostylelaw03.CursorLays", spec := "cursorLays", apart := false }
def CursorLaysSaid : Prop := cursorLaysRow.holds Try.pinned (OpenSpec.ofChange cursorLaysSpec)

/-- ITS FALSE NEIGHBOUR: 'it returns false'. Refute it at one input. -/
def cursorLaysWrong : ChangeSpec := { name := "cursorLays", fn := fun _ => fun
  | [d1, d2, d3] => { results := [.lit (.bool false)], args := [d1, d2, d3] }
  | _ => none }
def CursorLaysWrongFalsely : Prop := cursorLaysRow.holds Try.pinned (OpenSpec.ofChange cursorLaysWrong)

/-- 'hypostylelaw03.CursorBack': WHATEVER THE INPUT: true; the input reads as it did. -/
def cursorBackSpec : ChangeSpec := { name := "cursorBack", fn := fun _ => fun
  | [d1, d2, d3] => { results := [.lit (.bool true)], args := [d1, d2, d3] }
  | _ => none }
def cursorBackRow : OpenClaim := { program := "ytghfdbnbgkpnaaa", sum := "b7556fcc4a94dac37769f170bc73032c0ca4278b5c665ecbf3e0838270793eef", func := "hypostyle/hypostylelaw03.CursorBack", spec := "cursorBack", apart := false }
def CursorBackSaid : Prop := cursorBackRow.holds Try.pinned (OpenSpec.ofChange cursorBackSpec)

/-- ITS FALSE NEIGHBOUR: 'it returns false'. Refute it at one input. -/
def cursorBackWrong : ChangeSpec := { name := "cursorBack", fn := fun _ => fun
  | [d1, d2, d3] => { results := [.lit (.bool false)], args := [d1, d2, d3] }
  | _ => none }
def CursorBackWrongFalsely : Prop := cursorBackRow.holds Try.pinned (OpenSpec.ofChange cursorBackWrong)

/-- 'hypostylelaw03.CursorBad': WHATEVER THE INPUT: true; the input reads as it did. -/
def cursorBadSpec : ChangeSpec := { name := "cursorBad", fn := fun _ => fun
  | [d1, d2] => { results := [.lit (.bool true)], args := [d1, d2] }
  | _ => none }
def cursorBadRow : OpenClaim := { program := "ytghfdbnbgkpnaaa", sum := "b7556fcc4a94dac37769f170bc73032c0ca4278b5c665ecbf3e0838270793eef", func := "hypostyle/hypostylelaw03.CursorBad", spec := "cursorBad", apart := false }
def CursorBadSaid : Prop := cursorBadRow.holds Try.pinned (OpenSpec.ofChange cursorBadSpec)

/-- ITS FALSE NEIGHBOUR: 'it returns false'. Refute it at one input. -/
def cursorBadWrong : ChangeSpec := { name := "cursorBad", fn := fun _ => fun
  | [d1, d2] => { results := [.lit (.bool false)], args := [d1, d2] }
  | _ => none }
def CursorBadWrongFalsely : Prop := cursorBadRow.holds Try.pinned (OpenSpec.ofChange cursorBadWrong)

/-- 'hypostylelaw03.CursorParts': WHATEVER THE INPUT: true; the input reads as it did. -/
def cursorPartsSpec : ChangeSpec := { name := "cursorParts", fn := fun _ => fun
  | [d] => { results := [.lit (.bool true)], args := [d] }
  | _ => none }
def cursorPartsRow : OpenClaim := { program := "ytghfdbnbgkpnaaa", sum := "b7556fcc4a94dac37769f170bc73032c0ca4278b5c665ecbf3e0838270793eef", func := "hypostyle/hypostylelaw03.CursorParts", spec := "cursorParts", apart := false }
def CursorPartsSaid : Prop := cursorPartsRow.holds Try.pinned (OpenSpec.ofChange cursorPartsSpec)

/-- ITS FALSE NEIGHBOUR: 'it returns false'. Refute it at one input. -/
def cursorPartsWrong : ChangeSpec := { name := "cursorParts", fn := fun _ => fun
  | [d] => { results := [.lit (.bool false)], args := [d] }
  | _ => none }
def CursorPartsWrongFalsely : Prop := cursorPartsRow.holds Try.pinned (OpenSpec.ofChange cursorPartsWrong)

/-- 'hypostylelaw03.CursorTakes': WHATEVER THE INPUT: true; the input reads as it did. -/
def cursorTakesSpec : ChangeSpec := { name := "cursorTakes", fn := fun _ => fun
  | [d1, d2] => { results := [.lit (.bool true)], args := [d1, d2] }
  | _ => none }
def cursorTakesRow : OpenClaim := { program := "ytghfdbnbgkpnaaa", sum := "b7556fcc4a94dac37769f170bc73032c0ca4278b5c665ecbf3e0838270793eef", func := "hypostyle/hypostylelaw03.CursorTakes", spec := "cursorTakes", apart := false }
def CursorTakesSaid : Prop := cursorTakesRow.holds Try.pinned (OpenSpec.ofChange cursorTakesSpec)

/-- ITS FALSE NEIGHBOUR: 'it returns false'. Refute it at one input. -/
def cursorTakesWrong : ChangeSpec := { name := "cursorTakes", fn := fun _ => fun
  | [d1, d2] => { results := [.lit (.bool false)], args := [d1, d2] }
  | _ => none }
def CursorTakesWrongFalsely : Prop := cursorTakesRow.holds Try.pinned (OpenSpec.ofChange cursorTakesWrong)

/-- 'hypostylelaw04.VarintPuts': WHATEVER THE INPUT: true; the input reads as it did. -/
def varintPutsSpec : ChangeSpec := { name := "varintPuts", fn := fun _ => fun
  | [d1, d2, d3] => { results := [.lit (.bool true)], args := [d1, d2, d3] }
  | _ => none }
def varintPutsRow : OpenClaim := { program := "ytghfdbnbgkpnaaa", sum := "b7556fcc4a94dac37769f170bc73032c0ca4278b5c665ecbf3e0838270793eef", func := "hypostyle/hypostylelaw04.VarintPuts", spec := "varintPuts", apart := false }
def VarintPutsSaid : Prop := varintPutsRow.holds Try.pinned (OpenSpec.ofChange varintPutsSpec)

/-- ITS FALSE NEIGHBOUR: 'it returns false'. Refute it at one input. -/
def varintPutsWrong : ChangeSpec := { name := "varintPuts", fn := fun _ => fun
  | [d1, d2, d3] => { results := [.lit (.bool false)], args := [d1, d2, d3] }
  | _ => none }
def VarintPutsWrongFalsely : Prop := varintPutsRow.holds Try.pinned (OpenSpec.ofChange varintPutsWrong)

/-- 'hypostylelaw04.VarintGets': WHATEVER THE INPUT: true; the input reads as it did. -/
def varintGetsSpec : ChangeSpec := { name := "varintGets", fn := fun _ => fun
  | [d1, d2] => { results := [.lit (.bool true)], args := [d1, d2] }
  | _ => none }
def varintGetsRow : OpenClaim := { program := "ytghfdbnbgkpnaaa", sum := "b7556fcc4a94dac37769f170bc73032c0ca4278b5c665ecbf3e0838270793eef", func := "hypostyle/hypostylelaw04.VarintGets", spec := "varintGets", apart := false }
def VarintGetsSaid : Prop := varintGetsRow.holds Try.pinned (OpenSpec.ofChange varintGetsSpec)

/-- ITS FALSE NEIGHBOUR: 'it returns false'. Refute it at one input. -/
def varintGetsWrong : ChangeSpec := { name := "varintGets", fn := fun _ => fun
  | [d1, d2] => { results := [.lit (.bool false)], args := [d1, d2] }
  | _ => none }
def VarintGetsWrongFalsely : Prop := varintGetsRow.holds Try.pinned (OpenSpec.ofChange varintGetsWrong)

/-- 'hypostylelaw04.VarintBack': WHATEVER THE INPUT: true; the input reads as it did. -/
def varintBackSpec : ChangeSpec := { name := "varintBack", fn := fun _ => fun
  | [d] => { results := [.lit (.bool true)], args := [d] }
  | _ => none }
def varintBackRow : OpenClaim := { program := "ytghfdbnbgkpnaaa", sum := "b7556fcc4a94dac37769f170bc73032c0ca4278b5c665ecbf3e0838270793eef", func := "hypostyle/hypostylelaw04.VarintBack", spec := "varintBack", apart := false }
def VarintBackSaid : Prop := varintBackRow.holds Try.pinned (OpenSpec.ofChange varintBackSpec)

/-- ITS FALSE NEIGHBOUR: 'it returns false'. Refute it at one input. -/
def varintBackWrong : ChangeSpec := { name := "varintBack", fn := fun _ => fun
  | [d] => { results := [.lit (.bool false)], args := [d] }
  | _ => none }
def VarintBackWrongFalsely : Prop := varintBackRow.holds Try.pinned (OpenSpec.ofChange varintBackWrong)

/-- 'hypostylelaw04.VarintOnce': WHATEVER THE INPUT: true; the input reads as it did. -/
def varintOnceSpec : ChangeSpec := { name := "varintOnce", fn := fun _ => fun
  | [d] => { results := [.lit (.bool true)], args := [d] }
  | _ => none }
def varintOnceRow : OpenClaim := { program := "ytghfdbnbgkpnaaa", sum := "b7556fcc4a94dac37769f170bc73032c0ca4278b5c665ecbf3e0838270793eef", func := "hypostyle/hypostylelaw04.VarintOnce", spec := "varintOnce", apart := false }
def VarintOnceSaid : Prop := varintOnceRow.holds Try.pinned (OpenSpec.ofChange varintOnceSpec)

/-- ITS FALSE NEIGHBOUR: 'it returns false'. Refute it at one input. -/
def varintOnceWrong : ChangeSpec := { name := "varintOnce", fn := fun _ => fun
  | [d] => { results := [.lit (.bool false)], args := [d] }
  | _ => none }
def VarintOnceWrongFalsely : Prop := varintOnceRow.holds Try.pinned (OpenSpec.ofChange varintOnceWrong)

/-- 'hypostylelaw04.VarintZigs': WHATEVER THE INPUT: true; the input reads as it did. -/
def varintZigsSpec : ChangeSpec := { name := "varintZigs", fn := fun _ => fun
  | [d1, d2] => { results := [.lit (.bool true)], args := [d1, d2] }
  | _ => none }
def varintZigsRow : OpenClaim := { program := "ytghfdbnbgkpnaaa", sum := "b7556fcc4a94dac37769f170bc73032c0ca4278b5c665ecbf3e0838270793eef", func := "hypostyle/hypostylelaw04.VarintZigs", spec := "varintZigs", apart := false }
def VarintZigsSaid : Prop := varintZigsRow.holds Try.pinned (OpenSpec.ofChange varintZigsSpec)

/-- ITS FALSE NEIGHBOUR: 'it returns false'. Refute it at one input. -/
def varintZigsWrong : ChangeSpec := { name := "varintZigs", fn := fun _ => fun
  | [d1, d2] => { results := [.lit (.bool false)], args := [d1, d2] }
  | _ => none }
def VarintZigsWrongFalsely : Prop := varintZigsRow.holds Try.pinned (OpenSpec.ofChange varintZigsWrong)

/-- 'hypostylelaw04.VarintOrder': WHATEVER THE INPUT: true; the input reads as it did. -/
def varintOrderSpec : ChangeSpec := { name := "varintOrder", fn := fun _ => fun
  | [d1, d2] => { results := [.lit (.bool true)], args := [d1, d2] }
  | _ => none }
def varintOrderRow : OpenClaim := { program := "ytghfdbnbgkpnaaa", sum := "b7556fcc4a94dac37769f170bc73032c0ca4278b5c665ecbf3e0838270793eef", func := "hypostyle/hypostylelaw04.VarintOrder", spec := "varintOrder", apart := false }
def VarintOrderSaid : Prop := varintOrderRow.holds Try.pinned (OpenSpec.ofChange varintOrderSpec)

/-- ITS FALSE NEIGHBOUR: 'it returns false'. Refute it at one input. -/
def varintOrderWrong : ChangeSpec := { name := "varintOrder", fn := fun _ => fun
  | [d1, d2] => { results := [.lit (.bool false)], args := [d1, d2] }
  | _ => none }
def VarintOrderWrongFalsely : Prop := varintOrderRow.holds Try.pinned (OpenSpec.ofChange varintOrderWrong)

/-- 'hypostylelaw05.BitpackTells': WHATEVER THE INPUT: true; the input reads as it did. -/
def bitpackTellsSpec : ChangeSpec := { name := "bitpackTells", fn := fun _ => fun
  | [d1, d2, d3] => { results := [.lit (.bool true)], args := [d1, d2, d3] }
  | _ => none }
def bitpackTellsRow : OpenClaim := { program := "ytghfdbnbgkpnaaa", sum := "b7556fcc4a94dac37769f170bc73032c0ca4278b5c665ecbf3e0838270793eef", func := "hypostyle/hypostylelaw05.BitpackTells", spec := "bitpackTells", apart := false }
def BitpackTellsSaid : Prop := bitpackTellsRow.holds Try.pinned (OpenSpec.ofChange bitpackTellsSpec)

/-- ITS FALSE NEIGHBOUR: 'it returns false'. Refute it at one input. -/
def bitpackTellsWrong : ChangeSpec := { name := "bitpackTells", fn := fun _ => fun
  | [d1, d2, d3] => { results := [.lit (.bool false)], args := [d1, d2, d3] }
  | _ => none }
def BitpackTellsWrongFalsely : Prop := bitpackTellsRow.holds Try.pinned (OpenSpec.ofChange bitpackTellsWrong)

/-- 'hypostylelaw05.BitpackPacks': WHATEVER THE INPUT: true; the input reads as it did. -/
def bitpackPacksSpec : ChangeSpec := { name := "bitpackPacks", fn := fun _ => fun
  | [d1, d2, d3, d4] => { results := [.lit (.bool true)], args := [d1, d2, d3, d4] }
  | _ => none }
def bitpackPacksRow : OpenClaim := { program := "ytghfdbnbgkpnaaa", sum := "b7556fcc4a94dac37769f170bc73032c0ca4278b5c665ecbf3e0838270793eef", func := "hypostyle/hypostylelaw05.BitpackPacks", spec := "bitpackPacks", apart := false }
def BitpackPacksSaid : Prop := bitpackPacksRow.holds Try.pinned (OpenSpec.ofChange bitpackPacksSpec)

/-- ITS FALSE NEIGHBOUR: 'it returns false'. Refute it at one input. -/
def bitpackPacksWrong : ChangeSpec := { name := "bitpackPacks", fn := fun _ => fun
  | [d1, d2, d3, d4] => { results := [.lit (.bool false)], args := [d1, d2, d3, d4] }
  | _ => none }
def BitpackPacksWrongFalsely : Prop := bitpackPacksRow.holds Try.pinned (OpenSpec.ofChange bitpackPacksWrong)

/-- 'hypostylelaw05.BitpackBack': WHATEVER THE INPUT: true; the input reads as it did. -/
def bitpackBackSpec : ChangeSpec := { name := "bitpackBack", fn := fun _ => fun
  | [d1, d2] => { results := [.lit (.bool true)], args := [d1, d2] }
  | _ => none }
def bitpackBackRow : OpenClaim := { program := "ytghfdbnbgkpnaaa", sum := "b7556fcc4a94dac37769f170bc73032c0ca4278b5c665ecbf3e0838270793eef", func := "hypostyle/hypostylelaw05.BitpackBack", spec := "bitpackBack", apart := false }
def BitpackBackSaid : Prop := bitpackBackRow.holds Try.pinned (OpenSpec.ofChange bitpackBackSpec)

/-- ITS FALSE NEIGHBOUR: 'it returns false'. Refute it at one input. -/
def bitpackBackWrong : ChangeSpec := { name := "bitpackBack", fn := fun _ => fun
  | [d1, d2] => { results := [.lit (.bool false)], args := [d1, d2] }
  | _ => none }
def BitpackBackWrongFalsely : Prop := bitpackBackRow.holds Try.pinned (OpenSpec.ofChange bitpackBackWrong)

/-- 'hypostylelaw05.BitpackOnce': WHATEVER THE INPUT: true; the input reads as it did. -/
def bitpackOnceSpec : ChangeSpec := { name := "bitpackOnce", fn := fun _ => fun
  | [d1, d2, d3] => { results := [.lit (.bool true)], args := [d1, d2, d3] }
  | _ => none }
def bitpackOnceRow : OpenClaim := { program := "ytghfdbnbgkpnaaa", sum := "b7556fcc4a94dac37769f170bc73032c0ca4278b5c665ecbf3e0838270793eef", func := "hypostyle/hypostylelaw05.BitpackOnce", spec := "bitpackOnce", apart := false }
def BitpackOnceSaid : Prop := bitpackOnceRow.holds Try.pinned (OpenSpec.ofChange bitpackOnceSpec)

/-- ITS FALSE NEIGHBOUR: 'it returns false'. Refute it at one input. -/
def bitpackOnceWrong : ChangeSpec := { name := "bitpackOnce", fn := fun _ => fun
  | [d1, d2, d3] => { results := [.lit (.bool false)], args := [d1, d2, d3] }
  | _ => none }
def BitpackOnceWrongFalsely : Prop := bitpackOnceRow.holds Try.pinned (OpenSpec.ofChange bitpackOnceWrong)

/-- 'hypostylelaw05.BitpackNarrow': WHATEVER THE INPUT: true; the input reads as it did. -/
def bitpackNarrowSpec : ChangeSpec := { name := "bitpackNarrow", fn := fun _ => fun
  | [d] => { results := [.lit (.bool true)], args := [d] }
  | _ => none }
def bitpackNarrowRow : OpenClaim := { program := "ytghfdbnbgkpnaaa", sum := "b7556fcc4a94dac37769f170bc73032c0ca4278b5c665ecbf3e0838270793eef", func := "hypostyle/hypostylelaw05.BitpackNarrow", spec := "bitpackNarrow", apart := false }
def BitpackNarrowSaid : Prop := bitpackNarrowRow.holds Try.pinned (OpenSpec.ofChange bitpackNarrowSpec)

/-- ITS FALSE NEIGHBOUR: 'it returns false'. Refute it at one input. -/
def bitpackNarrowWrong : ChangeSpec := { name := "bitpackNarrow", fn := fun _ => fun
  | [d] => { results := [.lit (.bool false)], args := [d] }
  | _ => none }
def BitpackNarrowWrongFalsely : Prop := bitpackNarrowRow.holds Try.pinned (OpenSpec.ofChange bitpackNarrowWrong)

/- THE SECOND FORM. 'bulk': how many values and letters a reading holds, each counted each time it is reached (what is shared counts as often as it is met; a slice's spare places count too). A statement '..UptoSaid' is the law's where the arguments, and the package variables that the reading takes, are together of bulk at most 1048576: NARROWER than '..Said'. Prove '..Said' where nothing that the law and all that it calls make is longer than what came in: it says more and counts as full. Else prove '..UptoSaid'. A law counts once. -/
mutual
def uptoBulk {H : Type} : DataW H → Nat
  | .lit (.string bytes) => bytes.length + 1
  | .lit _ => 1
  | .nil => 1
  | .ptr d => uptoBulk d + 1
  | .slice elems spare => uptoBulkAll elems + uptoBulkAll spare + 1
  | .agg parts => uptoBulkAll parts + 1
  | .iface _ d => uptoBulk d + 1
  | .map entries => uptoBulkEntries entries + 1
  | .held _ => 1
def uptoBulkAll {H : Type} : List (DataW H) → Nat
  | [] => 0
  | d :: r => uptoBulk d + uptoBulkAll r
def uptoBulkEntries {H : Type} : List (Lit × DataW H) → Nat
  | [] => 0
  | x :: r => uptoBulkEntry x + uptoBulkEntries r
def uptoBulkEntry {H : Type} : Lit × DataW H → Nat
  | (.string bytes, d) => bytes.length + uptoBulk d + 1
  | (_, d) => uptoBulk d + 1
 end
def uptoSmall : (H : Type) → List (DataW H) → Bool := fun _ ds => decide (uptoBulkAll ds ≤ 1048576)
def OpenSpec.upto (s : _root_.Go.ChangeSpec) : _root_.Go.OpenSpec := { _root_.Go.OpenSpec.ofChange s with cond := some uptoSmall }

/-- 'hypostylelaw03.CursorReads', WHERE WHAT IT READS IS OF BULK AT MOST 1048576: true; the input reads as it did. -/
def cursorReadsUptoRow : OpenClaim := { program := "ytghfdbnbgkpnaaa", sum := "b7556fcc4a94dac37769f170bc73032c0ca4278b5c665ecbf3e0838270793eef", func := "hypostyle/hypostylelaw03.CursorReads", spec := "cursorReads", apart := false, narrowed := true }
def CursorReadsUptoSaid : Prop := cursorReadsUptoRow.holds Try.pinned (OpenSpec.upto cursorReadsSpec)

/-- 'hypostylelaw03.CursorLays', WHERE WHAT IT READS IS OF BULK AT MOST 1048576: true; the input reads as it did. -/
def cursorLaysUptoRow : OpenClaim := { program := "ytghfdbnbgkpnaaa", sum := "b7556fcc4a94dac37769f170bc73032c0ca4278b5c665ecbf3e0838270793eef", func := "hypostyle/hypostylelaw03.CursorLays", spec := "cursorLays", apart := false, narrowed := true }
def CursorLaysUptoSaid : Prop := cursorLaysUptoRow.holds Try.pinned (OpenSpec.upto cursorLaysSpec)

/-- 'hypostylelaw03.CursorBack', WHERE WHAT IT READS IS OF BULK AT MOST 1048576: true; the input reads as it did. -/
def cursorBackUptoRow : OpenClaim := { program := "ytghfdbnbgkpnaaa", sum := "b7556fcc4a94dac37769f170bc73032c0ca4278b5c665ecbf3e0838270793eef", func := "hypostyle/hypostylelaw03.CursorBack", spec := "cursorBack", apart := false, narrowed := true }
def CursorBackUptoSaid : Prop := cursorBackUptoRow.holds Try.pinned (OpenSpec.upto cursorBackSpec)

/-- 'hypostylelaw03.CursorBad', WHERE WHAT IT READS IS OF BULK AT MOST 1048576: true; the input reads as it did. -/
def cursorBadUptoRow : OpenClaim := { program := "ytghfdbnbgkpnaaa", sum := "b7556fcc4a94dac37769f170bc73032c0ca4278b5c665ecbf3e0838270793eef", func := "hypostyle/hypostylelaw03.CursorBad", spec := "cursorBad", apart := false, narrowed := true }
def CursorBadUptoSaid : Prop := cursorBadUptoRow.holds Try.pinned (OpenSpec.upto cursorBadSpec)

/-- 'hypostylelaw03.CursorParts', WHERE WHAT IT READS IS OF BULK AT MOST 1048576: true; the input reads as it did. -/
def cursorPartsUptoRow : OpenClaim := { program := "ytghfdbnbgkpnaaa", sum := "b7556fcc4a94dac37769f170bc73032c0ca4278b5c665ecbf3e0838270793eef", func := "hypostyle/hypostylelaw03.CursorParts", spec := "cursorParts", apart := false, narrowed := true }
def CursorPartsUptoSaid : Prop := cursorPartsUptoRow.holds Try.pinned (OpenSpec.upto cursorPartsSpec)

/-- 'hypostylelaw03.CursorTakes', WHERE WHAT IT READS IS OF BULK AT MOST 1048576: true; the input reads as it did. -/
def cursorTakesUptoRow : OpenClaim := { program := "ytghfdbnbgkpnaaa", sum := "b7556fcc4a94dac37769f170bc73032c0ca4278b5c665ecbf3e0838270793eef", func := "hypostyle/hypostylelaw03.CursorTakes", spec := "cursorTakes", apart := false, narrowed := true }
def CursorTakesUptoSaid : Prop := cursorTakesUptoRow.holds Try.pinned (OpenSpec.upto cursorTakesSpec)

/-- 'hypostylelaw04.VarintPuts', WHERE WHAT IT READS IS OF BULK AT MOST 1048576: true; the input reads as it did. -/
def varintPutsUptoRow : OpenClaim := { program := "ytghfdbnbgkpnaaa", sum := "b7556fcc4a94dac37769f170bc73032c0ca4278b5c665ecbf3e0838270793eef", func := "hypostyle/hypostylelaw04.VarintPuts", spec := "varintPuts", apart := false, narrowed := true }
def VarintPutsUptoSaid : Prop := varintPutsUptoRow.holds Try.pinned (OpenSpec.upto varintPutsSpec)

/-- 'hypostylelaw04.VarintGets', WHERE WHAT IT READS IS OF BULK AT MOST 1048576: true; the input reads as it did. -/
def varintGetsUptoRow : OpenClaim := { program := "ytghfdbnbgkpnaaa", sum := "b7556fcc4a94dac37769f170bc73032c0ca4278b5c665ecbf3e0838270793eef", func := "hypostyle/hypostylelaw04.VarintGets", spec := "varintGets", apart := false, narrowed := true }
def VarintGetsUptoSaid : Prop := varintGetsUptoRow.holds Try.pinned (OpenSpec.upto varintGetsSpec)

/-- 'hypostylelaw04.VarintBack', WHERE WHAT IT READS IS OF BULK AT MOST 1048576: true; the input reads as it did. -/
def varintBackUptoRow : OpenClaim := { program := "ytghfdbnbgkpnaaa", sum := "b7556fcc4a94dac37769f170bc73032c0ca4278b5c665ecbf3e0838270793eef", func := "hypostyle/hypostylelaw04.VarintBack", spec := "varintBack", apart := false, narrowed := true }
def VarintBackUptoSaid : Prop := varintBackUptoRow.holds Try.pinned (OpenSpec.upto varintBackSpec)

/-- 'hypostylelaw04.VarintOnce', WHERE WHAT IT READS IS OF BULK AT MOST 1048576: true; the input reads as it did. -/
def varintOnceUptoRow : OpenClaim := { program := "ytghfdbnbgkpnaaa", sum := "b7556fcc4a94dac37769f170bc73032c0ca4278b5c665ecbf3e0838270793eef", func := "hypostyle/hypostylelaw04.VarintOnce", spec := "varintOnce", apart := false, narrowed := true }
def VarintOnceUptoSaid : Prop := varintOnceUptoRow.holds Try.pinned (OpenSpec.upto varintOnceSpec)

/-- 'hypostylelaw04.VarintZigs', WHERE WHAT IT READS IS OF BULK AT MOST 1048576: true; the input reads as it did. -/
def varintZigsUptoRow : OpenClaim := { program := "ytghfdbnbgkpnaaa", sum := "b7556fcc4a94dac37769f170bc73032c0ca4278b5c665ecbf3e0838270793eef", func := "hypostyle/hypostylelaw04.VarintZigs", spec := "varintZigs", apart := false, narrowed := true }
def VarintZigsUptoSaid : Prop := varintZigsUptoRow.holds Try.pinned (OpenSpec.upto varintZigsSpec)

/-- 'hypostylelaw04.VarintOrder', WHERE WHAT IT READS IS OF BULK AT MOST 1048576: true; the input reads as it did. -/
def varintOrderUptoRow : OpenClaim := { program := "ytghfdbnbgkpnaaa", sum := "b7556fcc4a94dac37769f170bc73032c0ca4278b5c665ecbf3e0838270793eef", func := "hypostyle/hypostylelaw04.VarintOrder", spec := "varintOrder", apart := false, narrowed := true }
def VarintOrderUptoSaid : Prop := varintOrderUptoRow.holds Try.pinned (OpenSpec.upto varintOrderSpec)

/-- 'hypostylelaw05.BitpackTells', WHERE WHAT IT READS IS OF BULK AT MOST 1048576: true; the input reads as it did. -/
def bitpackTellsUptoRow : OpenClaim := { program := "ytghfdbnbgkpnaaa", sum := "b7556fcc4a94dac37769f170bc73032c0ca4278b5c665ecbf3e0838270793eef", func := "hypostyle/hypostylelaw05.BitpackTells", spec := "bitpackTells", apart := false, narrowed := true }
def BitpackTellsUptoSaid : Prop := bitpackTellsUptoRow.holds Try.pinned (OpenSpec.upto bitpackTellsSpec)

/-- 'hypostylelaw05.BitpackPacks', WHERE WHAT IT READS IS OF BULK AT MOST 1048576: true; the input reads as it did. -/
def bitpackPacksUptoRow : OpenClaim := { program := "ytghfdbnbgkpnaaa", sum := "b7556fcc4a94dac37769f170bc73032c0ca4278b5c665ecbf3e0838270793eef", func := "hypostyle/hypostylelaw05.BitpackPacks", spec := "bitpackPacks", apart := false, narrowed := true }
def BitpackPacksUptoSaid : Prop := bitpackPacksUptoRow.holds Try.pinned (OpenSpec.upto bitpackPacksSpec)

/-- 'hypostylelaw05.BitpackBack', WHERE WHAT IT READS IS OF BULK AT MOST 1048576: true; the input reads as it did. -/
def bitpackBackUptoRow : OpenClaim := { program := "ytghfdbnbgkpnaaa", sum := "b7556fcc4a94dac37769f170bc73032c0ca4278b5c665ecbf3e0838270793eef", func := "hypostyle/hypostylelaw05.BitpackBack", spec := "bitpackBack", apart := false, narrowed := true }
def BitpackBackUptoSaid : Prop := bitpackBackUptoRow.holds Try.pinned (OpenSpec.upto bitpackBackSpec)

/-- 'hypostylelaw05.BitpackOnce', WHERE WHAT IT READS IS OF BULK AT MOST 1048576: true; the input reads as it did. -/
def bitpackOnceUptoRow : OpenClaim := { program := "ytghfdbnbgkpnaaa", sum := "b7556fcc4a94dac37769f170bc73032c0ca4278b5c665ecbf3e0838270793eef", func := "hypostyle/hypostylelaw05.BitpackOnce", spec := "bitpackOnce", apart := false, narrowed := true }
def BitpackOnceUptoSaid : Prop := bitpackOnceUptoRow.holds Try.pinned (OpenSpec.upto bitpackOnceSpec)

/-- 'hypostylelaw05.BitpackNarrow', WHERE WHAT IT READS IS OF BULK AT MOST 1048576: true; the input reads as it did. -/
def bitpackNarrowUptoRow : OpenClaim := { program := "ytghfdbnbgkpnaaa", sum := "b7556fcc4a94dac37769f170bc73032c0ca4278b5c665ecbf3e0838270793eef", func := "hypostyle/hypostylelaw05.BitpackNarrow", spec := "bitpackNarrow", apart := false, narrowed := true }
def BitpackNarrowUptoSaid : Prop := bitpackNarrowUptoRow.holds Try.pinned (OpenSpec.upto bitpackNarrowSpec)

end Rows
end Go.Proofs.Ytghfdbnbgkpnaaa
