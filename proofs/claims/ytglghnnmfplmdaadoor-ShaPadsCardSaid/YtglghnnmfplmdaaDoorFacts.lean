/- Facts off this program's tables. -/
import Derived.Test.YtglghnnmfplmdaaDoorRows
import Derived.Test.YtglghnnmfplmdaaDoorMem

namespace Go.Proofs.YtglghnnmfplmdaaDoor
open Go.Hm
theorem Tryd.own : ownKnob Tryd.prog.godebug = none := by kernel_rfl
theorem Tryd.laidOut : laidOutB Tryd.prog = true := by kernel_rfl
theorem elB : ElT Tryd.prog 22 5 (.int .u8 0) 1 1 := ⟨by kernel_rfl, by kernel_rfl, rfl, by omega⟩
theorem run_strB {w : World} {B n c : Nat} {A : Option Addr} {l : List Nat} (h : Reads w B 1 A n (nums .u8 l)) : (convert 22 9 (.slice A n c)).run Tryd.prog w = .ok (.string (bstr l)) w :=
  run_str (e := 5) (by kernel_rfl) (by kernel_rfl) (by kernel_rfl) h

end Go.Proofs.YtglghnnmfplmdaaDoor
