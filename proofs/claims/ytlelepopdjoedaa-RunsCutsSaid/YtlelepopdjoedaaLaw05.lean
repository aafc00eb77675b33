/- The laws of layer 5: what the walks need beside. -/
import Derived.Test.YtlelepopdjoedaaSmallP
import Derived.Test.YtlelepopdjoedaaPackO
import Derived.Test.YtlelepopdjoedaaOpen
import Derived.Test.YtlelepopdjoedaaTrod

namespace Go.Proofs.Ytlelepopdjoedaa
open Go.RowKit Go.Hm

end Go.Proofs.Ytlelepopdjoedaa
