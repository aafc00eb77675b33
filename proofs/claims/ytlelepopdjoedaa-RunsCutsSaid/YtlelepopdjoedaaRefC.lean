/- Contracts of the document's own answer for layer 3. -/
import Derived.Test.YtlelepopdjoedaaLays

namespace Go.Proofs.Ytlelepopdjoedaa
open Go.RowKit Go.Hm

end Go.Proofs.Ytlelepopdjoedaa
