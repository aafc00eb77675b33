/- The small case of layer 3's statements. -/
import Derived.Test.YtlelepopdjoedaaCurN
import Derived.Test.YtlelepopdjoedaaLaw

namespace Go.Proofs.Ytlelepopdjoedaa
open Go.RowKit Go.Hm

end Go.Proofs.Ytlelepopdjoedaa
