/- What a call answers that lays bytes. -/
import Derived.Test.YtlelepopdjoedaaTouch

namespace Go.Proofs.Ytlelepopdjoedaa
open Go.RowKit Go.Hm
/-- What a call answers that lays bytes: l, in memory of its own. -/
def BytesPost (l : List Nat) (w : World) (e : Ending) (w' : World) : Prop :=
  ∃ A n c, e = .returned (.slice A n c) ∧ Own w' w.heap.size 5 (.slice A n c) (nums .u8 l) ∧ Below w.heap.size w w'

end Go.Proofs.Ytlelepopdjoedaa
