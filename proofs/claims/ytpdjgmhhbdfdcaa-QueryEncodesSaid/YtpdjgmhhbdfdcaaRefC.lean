/- Contracts of the document's own answer for layer 3. -/
import Derived.Test.YtpdjgmhhbdfdcaaCurN

namespace Go.Proofs.Ytpdjgmhhbdfdcaa
open Go.RowKit Go.Hm

end Go.Proofs.Ytpdjgmhhbdfdcaa
