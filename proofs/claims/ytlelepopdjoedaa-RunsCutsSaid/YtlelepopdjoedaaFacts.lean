/- Facts off this program's tables. -/
import Derived.Test.YtlelepopdjoedaaRows
import Derived.Test.YtlelepopdjoedaaMem

namespace Go.Proofs.Ytlelepopdjoedaa
open Go.Hm
theorem Try.own : ownKnob Try.prog.godebug = none := by kernel_rfl
theorem Try.laidOut : laidOutB Try.prog = true := by kernel_rfl
theorem elB : ElT Try.prog 24 5 (.int .u8 0) 1 1 := ⟨by kernel_rfl, by kernel_rfl, rfl, by omega⟩
theorem elW : ElT Try.prog 22 34 (.int .u64 0) 1 8 := ⟨by kernel_rfl, by kernel_rfl, rfl, by omega⟩
theorem elI : ElT Try.prog 27 3 (.int .i64 0) 1 8 := ⟨by kernel_rfl, by kernel_rfl, rfl, by omega⟩
theorem run_strB {w : World} {B n c : Nat} {A : Option Addr} {l : List Nat} (h : Reads w B 1 A n (nums .u8 l)) : (convert 24 9 (.slice A n c)).run Try.prog w = .ok (.string (bstr l)) w :=
  run_str (e := 5) (by kernel_rfl) (by kernel_rfl) (by kernel_rfl) h

end Go.Proofs.Ytlelepopdjoedaa
