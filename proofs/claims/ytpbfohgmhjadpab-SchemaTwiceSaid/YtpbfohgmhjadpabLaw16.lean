/- What layer 16's laws share. -/
import Derived.Test.YtpbfohgmhjadpabSmallSch
import Derived.Test.YtpbfohgmhjadpabSchN
import Derived.Test.YtpbfohgmhjadpabOpenCo

namespace Go.Proofs.Ytpbfohgmhjadpab
open Go.RowKit Go.Hm
/-- Some truth; nothing that was is turned. -/
def BoolPost (w : World) (e : Ending) (w' : World) : Prop := ∃ b, e = .returned (.bool b) ∧ w = w'

set_option maxHeartbeats 1000000 in
theorem few16_any {w : World} {A : Option Addr} {n c : Nat} {L : List ColS} (h : Reads w w.heap.size 3 A n (recs colV L)) (hL : ∀ x ∈ L, x.1.length ≤ 140737488351232) (hn : n ≤ 4611686018427387903) :
    Calls Try.prog 9 #[.slice A n c] w (BoolPost w) := by
  obtain rfl := h.lenC
  go_enter Try.func9, Try.ntmps9
  go_wp2
  go_loopw [3, 4] (fun v i wr => ∃ (k : Nat) (x : Int), i = .int .i64 (k : Int) ∧ v = .int .i64 x ∧ k ≤ L.length ∧ w = wr) (fun _ i _ => L.length - (intOf i).toNat)
  case atStart => exact ⟨0, 0, rfl, rfl, by omega, rfl⟩
  case round =>
    obtain ⟨k, x, rfl, rfl, hk, rfl⟩ := hrel
    by_cases hlt : k < L.length
    · obtain ⟨ad, rfl, hbk, d0, d1, d2⟩ := h.colT hlt
      have hx := hL (L.getD k ([], 0, false)) (by rw [List.getD_eq_getElem?_getD, List.getElem?_eq_getElem hlt]; exact List.getElem_mem hlt)
      generalize (L.getD k ([], 0, false)).1 = s2 at *
      have zs := bstr_size s2
      have hiz : (k : Int) < (L.length : Int) := by omega
      generalize hy : IntKind.i64.wrap (x + (s2.length : Int)) = y
      go_wp2
      go_roundw
      case rel => exact ⟨k + 1, _, by go_num, rfl, by omega, trivial⟩
      case measure => simp [intOf]; omega
    · obtain rfl : k = L.length := by omega
      go_wp2
      all_goals go_ret
      all_goals exact ⟨_, rfl, rfl⟩

end Go.Proofs.Ytpbfohgmhjadpab
