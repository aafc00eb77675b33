/- Contracts of the document's own answer for layer 3. -/
import Derived.Test.YtehickkodcfmfaaCurN

namespace Go.Proofs.Ytehickkodcfmfaa
open Go.RowKit Go.Hm

end Go.Proofs.Ytehickkodcfmfaa
