/- Contract on cmp.Compare of numbers. -/
import Derived.Test.YtbphmcinbckgbaaCellV
import Derived.Test.YtbphmcinbckgbaaOpt
import Derived.Outline

namespace Go.Hm
open Go Go.RowKit
/-- Which of two numbers is ahead. -/
def cmpI (x y : Int) : Int := if x < y then -1 else if y < x then 1 else 0

end Go.Hm

namespace Go.Proofs.Ytbphmcinbckgbaa
open Go.RowKit Go.Hm
set_option maxRecDepth 100000 in
theorem isNaN_any {w : World} {x : Int} : Calls Try.prog 30 #[.int .i64 x] w (ValPost (.bool false) w) := by
  go_enter Try.func30, Try.ntmps30
  go_wp2
  go_ret
  exact ⟨by simp, rfl⟩
set_option maxHeartbeats 1000000 in
set_option maxRecDepth 100000 in
theorem cmpI_any {w : World} {x y : Int} : Calls Try.prog 28 #[.int .i64 x, .int .i64 y] w (ValPost (.int .i64 (cmpI x y)) w) := by
  have P := fun z : Int => Lib.hid (isNaN_any (w := w) (x := z))
  have K1 := Lib.hid (fun (h : x < y) => show cmpI x y = -1 by rw [cmpI, if_pos h])
  have K2 := Lib.hid (fun (h : y < x) => show cmpI x y = 1 by rw [cmpI, if_neg (by omega), if_pos h])
  have K3 := Lib.hid (fun (h : ¬ x < y) (h2 : ¬ y < x) => show cmpI x y = 0 by rw [cmpI, if_neg h, if_neg h2])
  generalize cmpI x y = O at *
  by_cases h1 : x < y
  · have O1 := Lib.hid (K1.out h1)
    clear K1 K2 K3
    go_enter Try.func28, Try.ntmps28
    go_wp2_with (first | (go_at_call 30; refine ((P _).out).mono ?_; rintro e w' ⟨rfl, rfl⟩))
    go_ret
    exact ⟨by rw [O1.out]; rfl, rfl⟩
  · by_cases h2 : y < x
    · have O1 := Lib.hid (K2.out h2)
      clear K1 K2 K3
      go_enter Try.func28, Try.ntmps28
      go_wp2_with (first | (go_at_call 30; refine ((P _).out).mono ?_; rintro e w' ⟨rfl, rfl⟩))
      go_ret
      exact ⟨by rw [O1.out]; rfl, rfl⟩
    · have O1 := Lib.hid (K3.out h1 h2)
      clear K1 K2 K3
      go_enter Try.func28, Try.ntmps28
      go_wp2_with (first | (go_at_call 30; refine ((P _).out).mono ?_; rintro e w' ⟨rfl, rfl⟩))
      go_ret
      exact ⟨by rw [O1.out]; rfl, rfl⟩

end Go.Proofs.Ytbphmcinbckgbaa
