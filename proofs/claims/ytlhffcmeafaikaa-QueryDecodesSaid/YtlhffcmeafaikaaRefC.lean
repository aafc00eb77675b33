/- Contracts of the document's own answer for layer 3. -/
import Derived.Test.YtlhffcmeafaikaaCurN

namespace Go.Proofs.Ytlhffcmeafaikaa
open Go.RowKit Go.Hm

end Go.Proofs.Ytlhffcmeafaikaa
