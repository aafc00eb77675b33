/- The small case of layer 5's statements. -/
import Derived.Test.YtlelepopdjoedaaUnpack
import Derived.Test.YtlelepopdjoedaaLaw
import Derived.Test.YtlelepopdjoedaaSmallC

namespace Go.Proofs.Ytlelepopdjoedaa
open Go.RowKit Go.Hm

theorem small05_str : (bstr [57]).toList = [57] := by rw [bstr_toList]; rfl
theorem small05_1 : packO [1, 2, 3] 2 = some [57] := by decide
theorem small05_2 : unpackO [57] 2 3 = some [1, 2, 3] := by decide
theorem small05_3 : unpackO [121] 2 3 = none := by decide
theorem small05_4 : packO [4] 2 = none := by decide
theorem small05_5 : unpackO [] 0 2 = some [0, 0] := by decide
theorem small05_6 : wid [1, 4] = 3 := by decide
theorem small05_7 : wid [] = 0 := by decide

end Go.Proofs.Ytlelepopdjoedaa
