/- The order of the last region of layer 7's small case. -/
import Derived.Test.YtcnaameebbcmhaaNat
import Derived.Test.YtcnaameebbcmhaaProg

namespace Go.Proofs.Ytcnaameebbcmhaa
open Go.RowKit Go.Hm
def ks07 : List Bool := true :: false :: true :: true :: true :: true :: true :: true :: true :: true :: true :: true :: true :: true :: true :: true :: true :: true :: true :: true :: true :: true :: true :: true :: true :: true :: true :: true :: true :: true :: true :: true :: true :: true :: true :: true :: true :: true :: true :: true :: true :: true :: true :: true :: true :: true :: true :: true :: true :: true :: true :: true :: false :: true :: true :: true :: true :: false :: true :: true :: true :: true :: true :: false :: true :: true :: true :: true :: false :: true :: true :: true :: true :: true :: false :: true :: true :: true :: true :: true :: false :: true :: true :: true :: true :: false :: false :: true :: true :: true :: true :: false :: true :: true :: true :: []
def ord07 : List (Bool × Nat) := (true, 0) :: (false, 1) :: (true, 2) :: (true, 3) :: (true, 4) :: (true, 5) :: (true, 6) :: (true, 7) :: (true, 8) :: (true, 9) :: (true, 10) :: (true, 11) :: (true, 12) :: (true, 13) :: (true, 14) :: (true, 15) :: (true, 16) :: (true, 17) :: (true, 18) :: (true, 19) :: (true, 20) :: (true, 21) :: (true, 22) :: (true, 23) :: (true, 24) :: (true, 25) :: (true, 26) :: (true, 27) :: (true, 28) :: (true, 29) :: (true, 30) :: (true, 31) :: (true, 32) :: (true, 33) :: (true, 34) :: (true, 35) :: (true, 36) :: (true, 37) :: (true, 38) :: (true, 39) :: (true, 40) :: (true, 41) :: (true, 42) :: (true, 43) :: (true, 44) :: (true, 45) :: (true, 46) :: (true, 47) :: (true, 48) :: (true, 49) :: (true, 50) :: (true, 51) :: (false, 52) :: (true, 53) :: (true, 54) :: (true, 55) :: (true, 56) :: (false, 57) :: (true, 58) :: (true, 59) :: (true, 60) :: (true, 61) :: (true, 62) :: (false, 63) :: (true, 64) :: (true, 65) :: (true, 66) :: (true, 67) :: (false, 68) :: (true, 69) :: (true, 70) :: (true, 71) :: (true, 72) :: (true, 73) :: (false, 74) :: (true, 75) :: (true, 76) :: (true, 77) :: (true, 78) :: (true, 79) :: (false, 80) :: (true, 81) :: (true, 82) :: (true, 83) :: (true, 84) :: (false, 85) :: (false, 86) :: (true, 87) :: (true, 88) :: (true, 89) :: (true, 90) :: (false, 91) :: (true, 92) :: (true, 93) :: (true, 94) :: []
theorem ok07 : upOk (regOf Try.f9 9) (Array.replicate (regOf Try.f9 9).size false) ord07 = true := by
  rw [show ord07 = natOrd 0 ks07 from rfl]
  exact nat_up (by kernel_rfl)

end Go.Proofs.Ytcnaameebbcmhaa
