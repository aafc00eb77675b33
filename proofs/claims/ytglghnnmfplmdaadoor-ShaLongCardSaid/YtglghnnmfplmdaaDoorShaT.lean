/- Contracts on words that are turned: sha.turn, ref01.right. -/
import Derived.Test.YtglghnnmfplmdaaDoorShaM
import Derived.Test.YtglghnnmfplmdaaDoorOpt
import Derived.Test.YtglghnnmfplmdaaDoorUp
import Derived.Outline
import Derived.Deep.QuietTactic
import Derived.BigQuiet

namespace Go.Proofs.YtglghnnmfplmdaaDoor
open Go.RowKit Go.Hm
set_option maxHeartbeats 1000000 in
set_option maxRecDepth 100000 in
theorem turn_any {w : World} (x : Int) (n : Nat) (hx : U32 x) (hn : 1 ≤ n ∧ n ≤ 31) :
    Calls Tryd.prog 18 #[.int .u32 x, .int .i64 (n : Int)] w (DrewPost (.int .u32 (rot x n)) w) := by
  obtain ⟨h1, h2⟩ := hn
  have HO := Lib.hid (or_rot hx h2)
  clear hx
  go_enter Tryd.func18, Tryd.ntmps18
  go_wp2
  go_quiet (fail)
  go_wp2
  go_ret
  exact ⟨by rw [← HO.out]; rfl, _, rfl⟩
set_option maxHeartbeats 1000000 in
set_option maxRecDepth 100000 in
theorem right_any {w : World} (x : Int) (n : Nat) (hn : 1 ≤ n ∧ n ≤ 31) :
    Calls Tryd.prog 20 #[.int .u32 x, .int .u64 (n : Int)] w (ValPost (.int .u32 (rot x n)) w) := by
  obtain ⟨h1, h2⟩ := hn
  go_enter Tryd.func20, Tryd.ntmps20
  go_wp2
  go_ret
  exact ⟨rfl, rfl⟩

end Go.Proofs.YtglghnnmfplmdaaDoor
