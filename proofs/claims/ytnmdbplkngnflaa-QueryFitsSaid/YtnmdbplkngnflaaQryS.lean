/- Queries read: the document's own answer. -/
import Derived.Test.YtnmdbplkngnflaaQryR

namespace Go.Proofs.Ytnmdbplkngnflaa
open Go.RowKit Go.Hm

end Go.Proofs.Ytnmdbplkngnflaa
