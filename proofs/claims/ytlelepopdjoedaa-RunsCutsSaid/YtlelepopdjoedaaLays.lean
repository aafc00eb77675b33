/- Contracts of package cursor: laying numbers. -/
import Derived.Test.YtlelepopdjoedaaBy
import Derived.Test.YtlelepopdjoedaaBits
import Derived.Test.YtlelepopdjoedaaFacts

namespace Go.Proofs.Ytlelepopdjoedaa
open Go.RowKit Go.Hm



end Go.Proofs.Ytlelepopdjoedaa
