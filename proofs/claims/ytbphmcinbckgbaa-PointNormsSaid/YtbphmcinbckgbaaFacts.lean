/- Facts off this program's tables. -/
import Derived.Test.YtbphmcinbckgbaaRows
import Derived.Test.YtbphmcinbckgbaaMem

namespace Go.Proofs.Ytbphmcinbckgbaa
open Go.Hm
theorem Try.own : ownKnob Try.prog.godebug = none := by kernel_rfl
theorem Try.laidOut : laidOutB Try.prog = true := by kernel_rfl
theorem elI : ElT Try.prog 45 3 (.int .i64 0) 1 8 := ⟨by kernel_rfl, by kernel_rfl, rfl, by omega⟩

end Go.Proofs.Ytbphmcinbckgbaa
