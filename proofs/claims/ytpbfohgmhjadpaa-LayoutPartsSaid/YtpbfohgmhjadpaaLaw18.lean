/- What layer 18's laws share. -/
import Derived.Test.YtpbfohgmhjadpaaSmallL
import Derived.Test.YtpbfohgmhjadpaaLayR

namespace Go.Proofs.Ytpbfohgmhjadpaa
open Go.RowKit Go.Hm

/-- Some truth; nothing is turned. -/
def BoolPost (w : World) (e : Ending) (w' : World) : Prop := ∃ b, e = .returned (.bool b) ∧ w = w'
set_option maxHeartbeats 1000000 in
theorem few18_any (f t s : Int) (w : World) :
    Calls Try.prog 9 #[.int .i64 f, .int .i64 t, .int .i64 s] w (BoolPost w) := by
  have hc : f < 0 ∨ (¬ f < 0 ∧ 65536 < t) ∨ (¬ f < 0 ∧ ¬ 65536 < t ∧ s < 1) ∨ (¬ f < 0 ∧ ¬ 65536 < t ∧ ¬ s < 1 ∧ t ≤ f) ∨ (¬ f < 0 ∧ ¬ 65536 < t ∧ ¬ s < 1 ∧ ¬ t ≤ f) := by omega
  rcases hc with k1 | ⟨k1, k2⟩ | ⟨k1, k2, k3⟩ | ⟨k1, k2, k3, k4⟩ | ⟨k1, k2, k3, k4⟩
  case' inr.inr.inr.inr =>
    have e1 : IntKind.i64.wrap (t - f) = t - f := IntWalk.i64_in _ (by omega)
    have e0 : ¬ s = 0 := by omega
    have k5 : 0 ≤ t - f := by omega
    have e2 : IntKind.i64.wrap ((t - f).tdiv s) = (t - f).tdiv s := by
      have h1 : 0 ≤ (t - f).tdiv s := Int.tdiv_nonneg (by omega) (by omega)
      have h2 : (t - f).tdiv s ≤ t - f := by rw [Int.tdiv_eq_ediv_of_nonneg (by omega)]; exact Int.ediv_le_self _ (by omega)
      exact IntWalk.i64_in _ (by omega)
  all_goals
    try (have d1 : decide (f < 0) = false := decide_eq_false k1)
    try (have d2 : decide (65536 < t) = false := decide_eq_false k2)
    try (have d3 : decide (s < 1) = false := decide_eq_false k3)
    try (have d4 : decide (t ≤ f) = false := decide_eq_false k4)
    go_enter Try.func9, Try.ntmps9
    go_wp2
    go_ret
    exact ⟨_, rfl, rfl⟩

end Go.Proofs.Ytpbfohgmhjadpaa
