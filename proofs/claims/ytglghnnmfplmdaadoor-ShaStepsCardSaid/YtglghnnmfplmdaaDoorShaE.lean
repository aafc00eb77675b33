/- Two digests, reckoned by the kernel. No program is named here. -/
import Derived.Test.YtglghnnmfplmdaaDoorShaF

namespace Go.Hm
open Go Go.RowKit
set_option maxRecDepth 100000 in
theorem sum_nil0 : (sumI []).getD 0 0 = 227 := by decide +kernel
set_option maxRecDepth 100000 in
theorem sum_nil3 : (sumI []).getD 3 0 = 66 := by decide +kernel
set_option maxRecDepth 100000 in
theorem sum_abc0 : (sumI [97, 98, 99]).getD 0 0 = 186 := by decide +kernel
set_option maxRecDepth 100000 in
theorem sum_abc31 : (sumI [97, 98, 99]).getD 31 0 = 173 := by decide +kernel

end Go.Hm
