/-
  NARROWER THAN 'FOR EVERY INPUT', by the rows' own cells (each row's printed sentence says how): TagFrames: laid · TagBack: laid · TagLogs: laid · TagExtracts: laid · TagApart: laid · TagMany: laid.
  DERIVED. THE GIVEN ROWS OF THIS SEAT. 6 by the template 'for every input the law returns true; each argument reads behind the call as it read before'; 0 by the template 'total and deterministic' (their statements: YtlfnhbnaegihfaaDoorTotals.lean).
  GIVEN WITH THE SEED: the statements are not yours to turn. If you find one false, say at which input.
  Laid BY PROGRAM, IN A SANDBOX (cutbox-rows.mjs): the forced cells as the released guide's own fill.sh prints them over the translation f94822dae709b78a… (all of the seat's roots in one cut). By AI agents, Wed Nov 11 2026. No macro, syntax, notation, axiom, sorry.
-/
import Derived.Test.YtlfnhbnaegihfaaDoorChecked
import GoSem.Claim
import GoSem.ClaimJoined
import GoSem.ClaimMapViews
import Derived.JoinedTies
import Derived.KernelRfl
namespace Go.Proofs.YtlfnhbnaegihfaaDoor
/- THE CELL 'sum', in the pinned program and in every row, IS THE sha256 OF THE DUMP (.gsa) THAT YtlfnhbnaegihfaaDoorProg.lean LOADS. Nothing in Lean hashes anything: it is a label: what it is worth is what the hold of that sum in a sandbox is worth. -/
noncomputable def Tryd.pinned : Pinned := { name := "ytlfnhbnaegihfaadoor", sum := "f94822dae709b78a3d5d0001dc2a0601fa9ded490e94c09a00705dec95159022", checked := Tryd.checked }
namespace Rows
def none {H : Type} : Left H := { results := [], args := [] }

/- WHAT THE LISTED PACKAGE-LEVEL VARIABLES READ AS WHEN THE CALL BEGINS. Each datum BY PROGRAM (the guide's laid-datum.mjs) off the statement by which the dump's own 'gosem.cut.vars' lays the variable. In a bare row this is a premise. The card (YtlfnhbnaegihfaaDoorCards.lean) ties it to the program's text. -/
def laid_hypostyle_sha_constants {H : Type} : DataW H := .agg [.lit (.int .u32 1116352408), .lit (.int .u32 1899447441), .lit (.int .u32 3049323471), .lit (.int .u32 3921009573), .lit (.int .u32 961987163), .lit (.int .u32 1508970993), .lit (.int .u32 2453635748), .lit (.int .u32 2870763221), .lit (.int .u32 3624381080), .lit (.int .u32 310598401), .lit (.int .u32 607225278), .lit (.int .u32 1426881987), .lit (.int .u32 1925078388), .lit (.int .u32 2162078206), .lit (.int .u32 2614888103), .lit (.int .u32 3248222580), .lit (.int .u32 3835390401), .lit (.int .u32 4022224774), .lit (.int .u32 264347078), .lit (.int .u32 604807628), .lit (.int .u32 770255983), .lit (.int .u32 1249150122), .lit (.int .u32 1555081692), .lit (.int .u32 1996064986), .lit (.int .u32 2554220882), .lit (.int .u32 2821834349), .lit (.int .u32 2952996808), .lit (.int .u32 3210313671), .lit (.int .u32 3336571891), .lit (.int .u32 3584528711), .lit (.int .u32 113926993), .lit (.int .u32 338241895), .lit (.int .u32 666307205), .lit (.int .u32 773529912), .lit (.int .u32 1294757372), .lit (.int .u32 1396182291), .lit (.int .u32 1695183700), .lit (.int .u32 1986661051), .lit (.int .u32 2177026350), .lit (.int .u32 2456956037), .lit (.int .u32 2730485921), .lit (.int .u32 2820302411), .lit (.int .u32 3259730800), .lit (.int .u32 3345764771), .lit (.int .u32 3516065817), .lit (.int .u32 3600352804), .lit (.int .u32 4094571909), .lit (.int .u32 275423344), .lit (.int .u32 430227734), .lit (.int .u32 506948616), .lit (.int .u32 659060556), .lit (.int .u32 883997877), .lit (.int .u32 958139571), .lit (.int .u32 1322822218), .lit (.int .u32 1537002063), .lit (.int .u32 1747873779), .lit (.int .u32 1955562222), .lit (.int .u32 2024104815), .lit (.int .u32 2227730452), .lit (.int .u32 2361852424), .lit (.int .u32 2428436474), .lit (.int .u32 2756734187), .lit (.int .u32 3204031479), .lit (.int .u32 3329325298)]

/-- 'hypostylelaw02.TagFrames': WHATEVER THE INPUT: true; the input reads as it did. -/
def tagFramesSpec : ChangeSpec := { name := "tagFrames", fn := fun _ => fun
  | [d1, d2, d3] => { results := [.lit (.bool true)], args := [d1, d2, d3] }
  | _ => none }
def tagFramesRow : OpenClaim := { program := "ytlfnhbnaegihfaadoor", sum := "f94822dae709b78a3d5d0001dc2a0601fa9ded490e94c09a00705dec95159022", func := "hypostyle/hypostylelaw02.TagFrames", spec := "tagFrames", unfollowed := true, recurses := true, named := ["hypostyle/sha.constants"], plainKeys := false, apart := false, laid := [("hypostyle/sha.constants", laid_hypostyle_sha_constants)] }
def TagFramesSaid : Prop := tagFramesRow.holds Tryd.pinned (OpenSpec.ofChange tagFramesSpec)

/-- ITS FALSE NEIGHBOUR: 'it returns false'. Refute it at one input. -/
def tagFramesWrong : ChangeSpec := { name := "tagFrames", fn := fun _ => fun
  | [d1, d2, d3] => { results := [.lit (.bool false)], args := [d1, d2, d3] }
  | _ => none }
def TagFramesWrongFalsely : Prop := tagFramesRow.holds Tryd.pinned (OpenSpec.ofChange tagFramesWrong)

/-- 'hypostylelaw02.TagBack': WHATEVER THE INPUT: true; the input reads as it did. -/
def tagBackSpec : ChangeSpec := { name := "tagBack", fn := fun _ => fun
  | [d1, d2, d3] => { results := [.lit (.bool true)], args := [d1, d2, d3] }
  | _ => none }
def tagBackRow : OpenClaim := { program := "ytlfnhbnaegihfaadoor", sum := "f94822dae709b78a3d5d0001dc2a0601fa9ded490e94c09a00705dec95159022", func := "hypostyle/hypostylelaw02.TagBack", spec := "tagBack", unfollowed := true, recurses := true, named := ["hypostyle/sha.constants"], plainKeys := false, apart := false, laid := [("hypostyle/sha.constants", laid_hypostyle_sha_constants)] }
def TagBackSaid : Prop := tagBackRow.holds Tryd.pinned (OpenSpec.ofChange tagBackSpec)

/-- ITS FALSE NEIGHBOUR: 'it returns false'. Refute it at one input. -/
def tagBackWrong : ChangeSpec := { name := "tagBack", fn := fun _ => fun
  | [d1, d2, d3] => { results := [.lit (.bool false)], args := [d1, d2, d3] }
  | _ => none }
def TagBackWrongFalsely : Prop := tagBackRow.holds Tryd.pinned (OpenSpec.ofChange tagBackWrong)

/-- 'hypostylelaw02.TagLogs': WHATEVER THE INPUT: true; the input reads as it did. -/
def tagLogsSpec : ChangeSpec := { name := "tagLogs", fn := fun _ => fun
  | [d] => { results := [.lit (.bool true)], args := [d] }
  | _ => none }
def tagLogsRow : OpenClaim := { program := "ytlfnhbnaegihfaadoor", sum := "f94822dae709b78a3d5d0001dc2a0601fa9ded490e94c09a00705dec95159022", func := "hypostyle/hypostylelaw02.TagLogs", spec := "tagLogs", unfollowed := true, recurses := true, named := ["hypostyle/sha.constants"], plainKeys := false, apart := false, laid := [("hypostyle/sha.constants", laid_hypostyle_sha_constants)] }
def TagLogsSaid : Prop := tagLogsRow.holds Tryd.pinned (OpenSpec.ofChange tagLogsSpec)

/-- ITS FALSE NEIGHBOUR: 'it returns false'. Refute it at one input. -/
def tagLogsWrong : ChangeSpec := { name := "tagLogs", fn := fun _ => fun
  | [d] => { results := [.lit (.bool false)], args := [d] }
  | _ => none }
def TagLogsWrongFalsely : Prop := tagLogsRow.holds Tryd.pinned (OpenSpec.ofChange tagLogsWrong)

/-- 'hypostylelaw02.TagExtracts': WHATEVER THE INPUT: true; the input reads as it did. -/
def tagExtractsSpec : ChangeSpec := { name := "tagExtracts", fn := fun _ => fun
  | [d1, d2] => { results := [.lit (.bool true)], args := [d1, d2] }
  | _ => none }
def tagExtractsRow : OpenClaim := { program := "ytlfnhbnaegihfaadoor", sum := "f94822dae709b78a3d5d0001dc2a0601fa9ded490e94c09a00705dec95159022", func := "hypostyle/hypostylelaw02.TagExtracts", spec := "tagExtracts", unfollowed := true, recurses := true, named := ["hypostyle/sha.constants"], plainKeys := false, apart := false, laid := [("hypostyle/sha.constants", laid_hypostyle_sha_constants)] }
def TagExtractsSaid : Prop := tagExtractsRow.holds Tryd.pinned (OpenSpec.ofChange tagExtractsSpec)

/-- ITS FALSE NEIGHBOUR: 'it returns false'. Refute it at one input. -/
def tagExtractsWrong : ChangeSpec := { name := "tagExtracts", fn := fun _ => fun
  | [d1, d2] => { results := [.lit (.bool false)], args := [d1, d2] }
  | _ => none }
def TagExtractsWrongFalsely : Prop := tagExtractsRow.holds Tryd.pinned (OpenSpec.ofChange tagExtractsWrong)

/-- 'hypostylelaw02.TagApart': WHATEVER THE INPUT: true; the input reads as it did. -/
def tagApartSpec : ChangeSpec := { name := "tagApart", fn := fun _ => fun
  | [d1, d2] => { results := [.lit (.bool true)], args := [d1, d2] }
  | _ => none }
def tagApartRow : OpenClaim := { program := "ytlfnhbnaegihfaadoor", sum := "f94822dae709b78a3d5d0001dc2a0601fa9ded490e94c09a00705dec95159022", func := "hypostyle/hypostylelaw02.TagApart", spec := "tagApart", unfollowed := true, recurses := true, named := ["hypostyle/sha.constants"], plainKeys := false, apart := false, laid := [("hypostyle/sha.constants", laid_hypostyle_sha_constants)] }
def TagApartSaid : Prop := tagApartRow.holds Tryd.pinned (OpenSpec.ofChange tagApartSpec)

/-- ITS FALSE NEIGHBOUR: 'it returns false'. Refute it at one input. -/
def tagApartWrong : ChangeSpec := { name := "tagApart", fn := fun _ => fun
  | [d1, d2] => { results := [.lit (.bool false)], args := [d1, d2] }
  | _ => none }
def TagApartWrongFalsely : Prop := tagApartRow.holds Tryd.pinned (OpenSpec.ofChange tagApartWrong)

/-- 'hypostylelaw02.TagMany': WHATEVER THE INPUT: true; the input reads as it did. -/
def tagManySpec : ChangeSpec := { name := "tagMany", fn := fun _ => fun
  | [d] => { results := [.lit (.bool true)], args := [d] }
  | _ => none }
def tagManyRow : OpenClaim := { program := "ytlfnhbnaegihfaadoor", sum := "f94822dae709b78a3d5d0001dc2a0601fa9ded490e94c09a00705dec95159022", func := "hypostyle/hypostylelaw02.TagMany", spec := "tagMany", unfollowed := true, recurses := true, named := ["hypostyle/sha.constants"], plainKeys := false, apart := false, laid := [("hypostyle/sha.constants", laid_hypostyle_sha_constants)] }
def TagManySaid : Prop := tagManyRow.holds Tryd.pinned (OpenSpec.ofChange tagManySpec)

/-- ITS FALSE NEIGHBOUR: 'it returns false'. Refute it at one input. -/
def tagManyWrong : ChangeSpec := { name := "tagMany", fn := fun _ => fun
  | [d] => { results := [.lit (.bool false)], args := [d] }
  | _ => none }
def TagManyWrongFalsely : Prop := tagManyRow.holds Tryd.pinned (OpenSpec.ofChange tagManyWrong)

/- THE SECOND FORM. 'bulk': how many values and letters a reading holds, each counted each time it is reached (what is shared counts as often as it is met; a slice's spare places count too). A statement '..UptoSaid' is the law's where the arguments, and the package variables that the reading takes, are together of bulk at most 1048576: NARROWER than '..Said'. Prove '..Said' where nothing that the law and all that it calls make is longer than what came in: it says more and counts as full. Else prove '..UptoSaid'. A law counts once. -/
mutual
def uptoBulk {H : Type} : DataW H → Nat
  | .lit (.string bytes) => bytes.length + 1
  | .lit _ => 1
  | .nil => 1
  | .ptr d => uptoBulk d + 1
  | .slice elems spare => uptoBulkAll elems + uptoBulkAll spare + 1
  | .agg parts => uptoBulkAll parts + 1
  | .iface _ d => uptoBulk d + 1
  | .map entries => uptoBulkEntries entries + 1
  | .held _ => 1
def uptoBulkAll {H : Type} : List (DataW H) → Nat
  | [] => 0
  | d :: r => uptoBulk d + uptoBulkAll r
def uptoBulkEntries {H : Type} : List (Lit × DataW H) → Nat
  | [] => 0
  | x :: r => uptoBulkEntry x + uptoBulkEntries r
def uptoBulkEntry {H : Type} : Lit × DataW H → Nat
  | (.string bytes, d) => bytes.length + uptoBulk d + 1
  | (_, d) => uptoBulk d + 1
 end
def uptoSmall : (H : Type) → List (DataW H) → Bool := fun _ ds => decide (uptoBulkAll ds ≤ 1048576)
def OpenSpec.upto (s : _root_.Go.ChangeSpec) : _root_.Go.OpenSpec := { _root_.Go.OpenSpec.ofChange s with cond := some uptoSmall }

/-- 'hypostylelaw02.TagFrames', WHERE WHAT IT READS IS OF BULK AT MOST 1048576: true; the input reads as it did. -/
def tagFramesUptoRow : OpenClaim := { program := "ytlfnhbnaegihfaadoor", sum := "f94822dae709b78a3d5d0001dc2a0601fa9ded490e94c09a00705dec95159022", func := "hypostyle/hypostylelaw02.TagFrames", spec := "tagFrames", unfollowed := true, recurses := true, named := ["hypostyle/sha.constants"], plainKeys := false, apart := false, laid := [("hypostyle/sha.constants", laid_hypostyle_sha_constants)], narrowed := true }
def TagFramesUptoSaid : Prop := tagFramesUptoRow.holds Tryd.pinned (OpenSpec.upto tagFramesSpec)

/-- 'hypostylelaw02.TagBack', WHERE WHAT IT READS IS OF BULK AT MOST 1048576: true; the input reads as it did. -/
def tagBackUptoRow : OpenClaim := { program := "ytlfnhbnaegihfaadoor", sum := "f94822dae709b78a3d5d0001dc2a0601fa9ded490e94c09a00705dec95159022", func := "hypostyle/hypostylelaw02.TagBack", spec := "tagBack", unfollowed := true, recurses := true, named := ["hypostyle/sha.constants"], plainKeys := false, apart := false, laid := [("hypostyle/sha.constants", laid_hypostyle_sha_constants)], narrowed := true }
def TagBackUptoSaid : Prop := tagBackUptoRow.holds Tryd.pinned (OpenSpec.upto tagBackSpec)

/-- 'hypostylelaw02.TagLogs', WHERE WHAT IT READS IS OF BULK AT MOST 1048576: true; the input reads as it did. -/
def tagLogsUptoRow : OpenClaim := { program := "ytlfnhbnaegihfaadoor", sum := "f94822dae709b78a3d5d0001dc2a0601fa9ded490e94c09a00705dec95159022", func := "hypostyle/hypostylelaw02.TagLogs", spec := "tagLogs", unfollowed := true, recurses := true, named := ["hypostyle/sha.constants"], plainKeys := false, apart := false, laid := [("hypostyle/sha.constants", laid_hypostyle_sha_constants)], narrowed := true }
def TagLogsUptoSaid : Prop := tagLogsUptoRow.holds Tryd.pinned (OpenSpec.upto tagLogsSpec)

/-- 'hypostylelaw02.TagExtracts', WHERE WHAT IT READS IS OF BULK AT MOST 1048576: true; the input reads as it did. -/
def tagExtractsUptoRow : OpenClaim := { program := "ytlfnhbnaegihfaadoor", sum := "f94822dae709b78a3d5d0001dc2a0601fa9ded490e94c09a00705dec95159022", func := "hypostyle/hypostylelaw02.TagExtracts", spec := "tagExtracts", unfollowed := true, recurses := true, named := ["hypostyle/sha.constants"], plainKeys := false, apart := false, laid := [("hypostyle/sha.constants", laid_hypostyle_sha_constants)], narrowed := true }
def TagExtractsUptoSaid : Prop := tagExtractsUptoRow.holds Tryd.pinned (OpenSpec.upto tagExtractsSpec)

/-- 'hypostylelaw02.TagApart', WHERE WHAT IT READS IS OF BULK AT MOST 1048576: true; the input reads as it did. -/
def tagApartUptoRow : OpenClaim := { program := "ytlfnhbnaegihfaadoor", sum := "f94822dae709b78a3d5d0001dc2a0601fa9ded490e94c09a00705dec95159022", func := "hypostyle/hypostylelaw02.TagApart", spec := "tagApart", unfollowed := true, recurses := true, named := ["hypostyle/sha.constants"], plainKeys := false, apart := false, laid := [("hypostyle/sha.constants", laid_hypostyle_sha_constants)], narrowed := true }
def TagApartUptoSaid : Prop := tagApartUptoRow.holds Tryd.pinned (OpenSpec.upto tagApartSpec)

/-- 'hypostylelaw02.TagMany', WHERE WHAT IT READS IS OF BULK AT MOST 1048576: true; the input reads as it did. -/
def tagManyUptoRow : OpenClaim := { program := "ytlfnhbnaegihfaadoor", sum := "f94822dae709b78a3d5d0001dc2a0601fa9ded490e94c09a00705dec95159022", func := "hypostyle/hypostylelaw02.TagMany", spec := "tagMany", unfollowed := true, recurses := true, named := ["hypostyle/sha.constants"], plainKeys := false, apart := false, laid := [("hypostyle/sha.constants", laid_hypostyle_sha_constants)], narrowed := true }
def TagManyUptoSaid : Prop := tagManyUptoRow.holds Tryd.pinned (OpenSpec.upto tagManySpec)

end Rows
end Go.Proofs.YtlfnhbnaegihfaaDoor
