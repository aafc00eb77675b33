/- Facts off this program's tables. -/
import Derived.Test.YtcnaameebbcmhaaRows
import Derived.Test.YtcnaameebbcmhaaMem

namespace Go.Proofs.Ytcnaameebbcmhaa
open Go.Hm
theorem Try.own : ownKnob Try.prog.godebug = none := by kernel_rfl
theorem Try.laidOut : laidOutB Try.prog = true := by kernel_rfl
theorem elI : ElT Try.prog 40 3 (.int .i64 0) 1 8 := ⟨by kernel_rfl, by kernel_rfl, rfl, by omega⟩

end Go.Proofs.Ytcnaameebbcmhaa
