/- Equality of cells, as an equation for every world. -/
import Derived.Test.YtcnaameebbcmhaaCellV
import Derived.Test.YtcnaameebbcmhaaOpt
import Derived.Outline

namespace Go.Proofs.Ytcnaameebbcmhaa
open Go.RowKit Go.Hm
set_option maxHeartbeats 1000000 in
set_option maxRecDepth 100000 in
theorem neqCell {b b' : Bool} {n n' : Int} {s s' : ByteArray} {x x' y y' : Int} (W : World) :
    (binOp .neq 25 (.agg #[.bool b, .int .i64 n, .string s, .int .i64 x, .int .i64 y]) (.agg #[.bool b', .int .i64 n', .string s', .int .i64 x', .int .i64 y'])).run Try.prog W = .ok (.bool (!(b == b' && n == n' && s.toList == s'.toList && x == x' && y == y'))) W := by
  by_cases h1 : b = b' <;> by_cases h2 : n = n' <;> by_cases h3 : s.toList = s'.toList <;> by_cases h4 : x = x' <;> by_cases h5 : y = y'
  all_goals go_simp

end Go.Proofs.Ytcnaameebbcmhaa
