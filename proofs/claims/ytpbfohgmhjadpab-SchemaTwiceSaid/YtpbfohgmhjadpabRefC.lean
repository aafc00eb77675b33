/- Contracts of the document's own answer for layer 3. -/
import Derived.Test.YtpbfohgmhjadpabCurN

namespace Go.Proofs.Ytpbfohgmhjadpab
open Go.RowKit Go.Hm

end Go.Proofs.Ytpbfohgmhjadpab
