/-
  No cell of these rows narrows 'for every input' (looked for: loops, veiled, ifaces, maps, wideKeys, modest, calm, conditions, laid).
  DERIVED. THE GIVEN ROWS OF THIS SEAT. 6 by the template 'for every input the law returns true; each argument reads behind the call as it read before'; 0 by the template 'total and deterministic' (their statements: YtmgfkpnghlmheaaGreatTotals.lean).
  GIVEN WITH THE SEED: the statements are not yours to turn. If you find one false, say at which input.
  Laid BY PROGRAM, IN A SANDBOX (cutbox-rows.mjs): the forced cells as the released guide's own fill.sh prints them over the translation d16ffd1b59e8b344… (all of the seat's roots in one cut). By AI agents, Wed Nov 11 2026. No macro, syntax, notation, axiom, sorry.
-/
import Derived.Test.YtmgfkpnghlmheaaGreatChecked
import GoSem.Claim
import GoSem.ClaimJoined
import GoSem.ClaimMapViews
import Derived.JoinedTies
import Derived.KernelRfl
namespace Go.Proofs.YtmgfkpnghlmheaaGreat
/- THE CELL 'sum', in the pinned program and in every row, IS THE sha256 OF THE DUMP (.gsa) THAT YtmgfkpnghlmheaaGreatProg.lean LOADS. Nothing in Lean hashes anything: it is a label: what it is worth is what the hold of that sum in a sandbox is worth. -/
noncomputable def Tryz.pinned : Pinned := { name := "ytmgfkpnghlmheaagreat", sum := "d16ffd1b59e8b34489a5e11015ffa8935fae81faac8e3a45716a1bade3934691", checked := Tryz.checked }
namespace Rows
def none {H : Type} : Left H := { results := [], args := [] }

/-- 'hypostylelaw20.FileWrites': WHATEVER THE INPUT: true; the input reads as it did. -/
def fileWritesSpec : ChangeSpec := { name := "fileWrites", fn := fun _ => fun
  | [d1, d2] => { results := [.lit (.bool true)], args := [d1, d2] }
  | _ => none }
def fileWritesRow : OpenClaim := { program := "ytmgfkpnghlmheaagreat", sum := "d16ffd1b59e8b34489a5e11015ffa8935fae81faac8e3a45716a1bade3934691", func := "hypostyle/hypostylelaw20.FileWrites", spec := "fileWrites", inPlace := ["internal/bytealg.abigen_runtime_cmpstring"], unfollowed := true, recurses := true, plainKeys := false, apart := false }
def FileWritesSaid : Prop := fileWritesRow.holds Tryz.pinned (OpenSpec.ofChange fileWritesSpec)

/-- ITS FALSE NEIGHBOUR: 'it returns false'. Refute it at one input. -/
def fileWritesWrong : ChangeSpec := { name := "fileWrites", fn := fun _ => fun
  | [d1, d2] => { results := [.lit (.bool false)], args := [d1, d2] }
  | _ => none }
def FileWritesWrongFalsely : Prop := fileWritesRow.holds Tryz.pinned (OpenSpec.ofChange fileWritesWrong)

/-- 'hypostylelaw20.FileReads': WHATEVER THE INPUT: true; the input reads as it did. -/
def fileReadsSpec : ChangeSpec := { name := "fileReads", fn := fun _ => fun
  | [d] => { results := [.lit (.bool true)], args := [d] }
  | _ => none }
def fileReadsRow : OpenClaim := { program := "ytmgfkpnghlmheaagreat", sum := "d16ffd1b59e8b34489a5e11015ffa8935fae81faac8e3a45716a1bade3934691", func := "hypostyle/hypostylelaw20.FileReads", spec := "fileReads", inPlace := ["internal/bytealg.abigen_runtime_cmpstring"], unfollowed := true, recurses := true, plainKeys := false, apart := false }
def FileReadsSaid : Prop := fileReadsRow.holds Tryz.pinned (OpenSpec.ofChange fileReadsSpec)

/-- ITS FALSE NEIGHBOUR: 'it returns false'. Refute it at one input. -/
def fileReadsWrong : ChangeSpec := { name := "fileReads", fn := fun _ => fun
  | [d] => { results := [.lit (.bool false)], args := [d] }
  | _ => none }
def FileReadsWrongFalsely : Prop := fileReadsRow.holds Tryz.pinned (OpenSpec.ofChange fileReadsWrong)

/-- 'hypostylelaw20.FileBack': WHATEVER THE INPUT: true; the input reads as it did. -/
def fileBackSpec : ChangeSpec := { name := "fileBack", fn := fun _ => fun
  | [d1, d2] => { results := [.lit (.bool true)], args := [d1, d2] }
  | _ => none }
def fileBackRow : OpenClaim := { program := "ytmgfkpnghlmheaagreat", sum := "d16ffd1b59e8b34489a5e11015ffa8935fae81faac8e3a45716a1bade3934691", func := "hypostyle/hypostylelaw20.FileBack", spec := "fileBack", inPlace := ["internal/bytealg.abigen_runtime_cmpstring"], unfollowed := true, recurses := true, plainKeys := false, apart := false }
def FileBackSaid : Prop := fileBackRow.holds Tryz.pinned (OpenSpec.ofChange fileBackSpec)

/-- ITS FALSE NEIGHBOUR: 'it returns false'. Refute it at one input. -/
def fileBackWrong : ChangeSpec := { name := "fileBack", fn := fun _ => fun
  | [d1, d2] => { results := [.lit (.bool false)], args := [d1, d2] }
  | _ => none }
def FileBackWrongFalsely : Prop := fileBackRow.holds Tryz.pinned (OpenSpec.ofChange fileBackWrong)

/-- 'hypostylelaw20.FileTables': WHATEVER THE INPUT: true; the input reads as it did. -/
def fileTablesSpec : ChangeSpec := { name := "fileTables", fn := fun _ => fun
  | [d] => { results := [.lit (.bool true)], args := [d] }
  | _ => none }
def fileTablesRow : OpenClaim := { program := "ytmgfkpnghlmheaagreat", sum := "d16ffd1b59e8b34489a5e11015ffa8935fae81faac8e3a45716a1bade3934691", func := "hypostyle/hypostylelaw20.FileTables", spec := "fileTables", inPlace := ["internal/bytealg.abigen_runtime_cmpstring"], unfollowed := true, recurses := true, plainKeys := false, apart := false }
def FileTablesSaid : Prop := fileTablesRow.holds Tryz.pinned (OpenSpec.ofChange fileTablesSpec)

/-- ITS FALSE NEIGHBOUR: 'it returns false'. Refute it at one input. -/
def fileTablesWrong : ChangeSpec := { name := "fileTables", fn := fun _ => fun
  | [d] => { results := [.lit (.bool false)], args := [d] }
  | _ => none }
def FileTablesWrongFalsely : Prop := fileTablesRow.holds Tryz.pinned (OpenSpec.ofChange fileTablesWrong)

/-- 'hypostylelaw20.FilePages': WHATEVER THE INPUT: true; the input reads as it did. -/
def filePagesSpec : ChangeSpec := { name := "filePages", fn := fun _ => fun
  | [d1, d2] => { results := [.lit (.bool true)], args := [d1, d2] }
  | _ => none }
def filePagesRow : OpenClaim := { program := "ytmgfkpnghlmheaagreat", sum := "d16ffd1b59e8b34489a5e11015ffa8935fae81faac8e3a45716a1bade3934691", func := "hypostyle/hypostylelaw20.FilePages", spec := "filePages", inPlace := ["internal/bytealg.abigen_runtime_cmpstring"], unfollowed := true, recurses := true, plainKeys := false, apart := false }
def FilePagesSaid : Prop := filePagesRow.holds Tryz.pinned (OpenSpec.ofChange filePagesSpec)

/-- ITS FALSE NEIGHBOUR: 'it returns false'. Refute it at one input. -/
def filePagesWrong : ChangeSpec := { name := "filePages", fn := fun _ => fun
  | [d1, d2] => { results := [.lit (.bool false)], args := [d1, d2] }
  | _ => none }
def FilePagesWrongFalsely : Prop := filePagesRow.holds Tryz.pinned (OpenSpec.ofChange filePagesWrong)

/-- 'hypostylelaw20.FileMakes': WHATEVER THE INPUT: true; the input reads as it did. -/
def fileMakesSpec : ChangeSpec := { name := "fileMakes", fn := fun _ => fun
  | [d1, d2] => { results := [.lit (.bool true)], args := [d1, d2] }
  | _ => none }
def fileMakesRow : OpenClaim := { program := "ytmgfkpnghlmheaagreat", sum := "d16ffd1b59e8b34489a5e11015ffa8935fae81faac8e3a45716a1bade3934691", func := "hypostyle/hypostylelaw20.FileMakes", spec := "fileMakes", inPlace := ["internal/bytealg.abigen_runtime_cmpstring"], unfollowed := true, recurses := true, plainKeys := false, apart := false }
def FileMakesSaid : Prop := fileMakesRow.holds Tryz.pinned (OpenSpec.ofChange fileMakesSpec)

/-- ITS FALSE NEIGHBOUR: 'it returns false'. Refute it at one input. -/
def fileMakesWrong : ChangeSpec := { name := "fileMakes", fn := fun _ => fun
  | [d1, d2] => { results := [.lit (.bool false)], args := [d1, d2] }
  | _ => none }
def FileMakesWrongFalsely : Prop := fileMakesRow.holds Tryz.pinned (OpenSpec.ofChange fileMakesWrong)

/- THE SECOND FORM. 'bulk': how many values and letters a reading holds, each counted each time it is reached (what is shared counts as often as it is met; a slice's spare places count too). A statement '..UptoSaid' is the law's where the arguments, and the package variables that the reading takes, are together of bulk at most 1048576: NARROWER than '..Said'. Prove '..Said' where nothing that the law and all that it calls make is longer than what came in: it says more and counts as full. Else prove '..UptoSaid'. A law counts once. -/
mutual
def uptoBulk {H : Type} : DataW H → Nat
  | .lit (.string bytes) => bytes.length + 1
  | .lit _ => 1
  | .nil => 1
  | .ptr d => uptoBulk d + 1
  | .slice elems spare => uptoBulkAll elems + uptoBulkAll spare + 1
  | .agg parts => uptoBulkAll parts + 1
  | .iface _ d => uptoBulk d + 1
  | .map entries => uptoBulkEntries entries + 1
  | .held _ => 1
def uptoBulkAll {H : Type} : List (DataW H) → Nat
  | [] => 0
  | d :: r => uptoBulk d + uptoBulkAll r
def uptoBulkEntries {H : Type} : List (Lit × DataW H) → Nat
  | [] => 0
  | x :: r => uptoBulkEntry x + uptoBulkEntries r
def uptoBulkEntry {H : Type} : Lit × DataW H → Nat
  | (.string bytes, d) => bytes.length + uptoBulk d + 1
  | (_, d) => uptoBulk d + 1
 end
def uptoSmall : (H : Type) → List (DataW H) → Bool := fun _ ds => decide (uptoBulkAll ds ≤ 1048576)
def OpenSpec.upto (s : _root_.Go.ChangeSpec) : _root_.Go.OpenSpec := { _root_.Go.OpenSpec.ofChange s with cond := some uptoSmall }

/-- 'hypostylelaw20.FileWrites', WHERE WHAT IT READS IS OF BULK AT MOST 1048576: true; the input reads as it did. -/
def fileWritesUptoRow : OpenClaim := { program := "ytmgfkpnghlmheaagreat", sum := "d16ffd1b59e8b34489a5e11015ffa8935fae81faac8e3a45716a1bade3934691", func := "hypostyle/hypostylelaw20.FileWrites", spec := "fileWrites", inPlace := ["internal/bytealg.abigen_runtime_cmpstring"], unfollowed := true, recurses := true, plainKeys := false, apart := false, narrowed := true }
def FileWritesUptoSaid : Prop := fileWritesUptoRow.holds Tryz.pinned (OpenSpec.upto fileWritesSpec)

/-- 'hypostylelaw20.FileReads', WHERE WHAT IT READS IS OF BULK AT MOST 1048576: true; the input reads as it did. -/
def fileReadsUptoRow : OpenClaim := { program := "ytmgfkpnghlmheaagreat", sum := "d16ffd1b59e8b34489a5e11015ffa8935fae81faac8e3a45716a1bade3934691", func := "hypostyle/hypostylelaw20.FileReads", spec := "fileReads", inPlace := ["internal/bytealg.abigen_runtime_cmpstring"], unfollowed := true, recurses := true, plainKeys := false, apart := false, narrowed := true }
def FileReadsUptoSaid : Prop := fileReadsUptoRow.holds Tryz.pinned (OpenSpec.upto fileReadsSpec)

/-- 'hypostylelaw20.FileBack', WHERE WHAT IT READS IS OF BULK AT MOST 1048576: true; the input reads as it did. -/
def fileBackUptoRow : OpenClaim := { program := "ytmgfkpnghlmheaagreat", sum := "d16ffd1b59e8b34489a5e11015ffa8935fae81faac8e3a45716a1bade3934691", func := "hypostyle/hypostylelaw20.FileBack", spec := "fileBack", inPlace := ["internal/bytealg.abigen_runtime_cmpstring"], unfollowed := true, recurses := true, plainKeys := false, apart := false, narrowed := true }
def FileBackUptoSaid : Prop := fileBackUptoRow.holds Tryz.pinned (OpenSpec.upto fileBackSpec)

/-- 'hypostylelaw20.FileTables', WHERE WHAT IT READS IS OF BULK AT MOST 1048576: true; the input reads as it did. -/
def fileTablesUptoRow : OpenClaim := { program := "ytmgfkpnghlmheaagreat", sum := "d16ffd1b59e8b34489a5e11015ffa8935fae81faac8e3a45716a1bade3934691", func := "hypostyle/hypostylelaw20.FileTables", spec := "fileTables", inPlace := ["internal/bytealg.abigen_runtime_cmpstring"], unfollowed := true, recurses := true, plainKeys := false, apart := false, narrowed := true }
def FileTablesUptoSaid : Prop := fileTablesUptoRow.holds Tryz.pinned (OpenSpec.upto fileTablesSpec)

/-- 'hypostylelaw20.FilePages', WHERE WHAT IT READS IS OF BULK AT MOST 1048576: true; the input reads as it did. -/
def filePagesUptoRow : OpenClaim := { program := "ytmgfkpnghlmheaagreat", sum := "d16ffd1b59e8b34489a5e11015ffa8935fae81faac8e3a45716a1bade3934691", func := "hypostyle/hypostylelaw20.FilePages", spec := "filePages", inPlace := ["internal/bytealg.abigen_runtime_cmpstring"], unfollowed := true, recurses := true, plainKeys := false, apart := false, narrowed := true }
def FilePagesUptoSaid : Prop := filePagesUptoRow.holds Tryz.pinned (OpenSpec.upto filePagesSpec)

/-- 'hypostylelaw20.FileMakes', WHERE WHAT IT READS IS OF BULK AT MOST 1048576: true; the input reads as it did. -/
def fileMakesUptoRow : OpenClaim := { program := "ytmgfkpnghlmheaagreat", sum := "d16ffd1b59e8b34489a5e11015ffa8935fae81faac8e3a45716a1bade3934691", func := "hypostyle/hypostylelaw20.FileMakes", spec := "fileMakes", inPlace := ["internal/bytealg.abigen_runtime_cmpstring"], unfollowed := true, recurses := true, plainKeys := false, apart := false, narrowed := true }
def FileMakesUptoSaid : Prop := fileMakesUptoRow.holds Tryz.pinned (OpenSpec.upto fileMakesSpec)

end Rows
end Go.Proofs.YtmgfkpnghlmheaaGreat
