/- Contracts on strings.Compare, cell.compareNulls and cell.Compare (but for points). -/
import Derived.Test.YtcnaameebbcmhaaCellO
import Derived.Test.YtcnaameebbcmhaaCellR
import Derived.Lib.Bytealg

namespace Go.Hm
open Go Go.RowKit
/-- Which of two texts is ahead. -/
def cmpT (a b : List Nat) : Int := Lib.compareBytes (a.map UInt8.ofNat) (b.map UInt8.ofNat)
/-- Which of two cells is ahead, of which one at least is null. -/
def cmpN (a b : Bool) : Int := if a && b then 0 else if a then -1 else 1
/-- Which of two cells is ahead (points are not spoken of). -/
def cmpC (t : Int) (a b : CellS) : Int := if a.1 || b.1 then cmpN a.1 b.1 else if t = 0 ∨ t = 1 then cmpI a.2.1 b.2.1 else if t = 2 then cmpT a.2.2.1 b.2.2.1 else 0

end Go.Hm

namespace Go.Proofs.Ytcnaameebbcmhaa
open Go.RowKit Go.Hm
set_option maxRecDepth 100000 in
theorem bstrCmp_any {w : World} {a b : List Nat} : Calls Try.prog 39 #[.string (bstr a), .string (bstr b)] w (ValPost (.int .i64 (cmpT a b)) w) := by
  go_enter Try.func39, Try.ntmps39
  go_wp2
  rw [run_callFunc_extern Try.func45 (by kernel_rfl) (by kernel_rfl) (by kernel_rfl) (e := Extern.BytealgCompare.compare) (by kernel_rfl), Lib.run_compareString]
  simp only [Result.andThen]
  rw [Oper.upon_value]
  go_wp2
  go_ret
  exact ⟨rfl, rfl⟩
set_option maxRecDepth 100000 in
theorem strCmp_any {w : World} {a b : List Nat} : Calls Try.prog 26 #[.string (bstr a), .string (bstr b)] w (ValPost (.int .i64 (cmpT a b)) w) := by
  go_enter Try.func26, Try.ntmps26
  go_wp2_with (go_at_call 39; refine bstrCmp_any.mono ?_; rintro e w' ⟨rfl, rfl⟩)
  go_ret
  exact ⟨rfl, rfl⟩
set_option maxHeartbeats 1000000 in
set_option maxRecDepth 100000 in
theorem cmpNulls_any {w : World} {a b : Bool} {n m : Int} {s r : ByteArray} {x y x2 y2 : Int} :
    Calls Try.prog 24 #[.agg #[.bool a, .int .i64 n, .string s, .int .i64 x, .int .i64 y], .agg #[.bool b, .int .i64 m, .string r, .int .i64 x2, .int .i64 y2]] w (NewPost (.int .i64 (cmpN a b)) w) := by
  have B0 := Blk.new w 25 #[.bool a, .int .i64 n, .string s, .int .i64 x, .int .i64 y]
  have B1 := Blk.new (w.alloc (.cells #[.bool a, .int .i64 n, .string s, .int .i64 x, .int .i64 y] 25)) 25 #[.bool b, .int .i64 m, .string r, .int .i64 x2, .int .i64 y2]
  obtain ⟨x0, _⟩ := cells5 (B0.alloc (.cells #[.bool b, .int .i64 m, .string r, .int .i64 x2, .int .i64 y2] 25))
  obtain ⟨y0, _⟩ := cells5 B1
  clear B0 B1
  go_enter Try.func24, Try.ntmps24
  cases a <;> cases b
  all_goals
    go_wp2
    go_ret
    exact ⟨rfl, new2 w _ _⟩
set_option maxHeartbeats 2000000 in
set_option maxRecDepth 100000 in
theorem compare_any {w : World} {t : Int} {a b : Bool} {n m : Int} {s r : List Nat} {x y x2 y2 : Int} (h3 : ¬ (t = 3 ∧ a = false ∧ b = false)) :
    Calls Try.prog 12 #[.int .i64 t, .agg #[.bool a, .int .i64 n, .string (bstr s), .int .i64 x, .int .i64 y], .agg #[.bool b, .int .i64 m, .string (bstr r), .int .i64 x2, .int .i64 y2]] w (NewPost (.int .i64 (cmpC t (a, n, s, x, y) (b, m, r, x2, y2))) w) := by
  have B0 := Blk.new w 25 #[.bool a, .int .i64 n, .string (bstr s), .int .i64 x, .int .i64 y]
  have B1 := Blk.new (w.alloc (.cells #[.bool a, .int .i64 n, .string (bstr s), .int .i64 x, .int .i64 y] 25)) 25 #[.bool b, .int .i64 m, .string (bstr r), .int .i64 x2, .int .i64 y2]
  obtain ⟨x0, x1, x2', x3, x4⟩ := cells5 (B0.alloc (.cells #[.bool b, .int .i64 m, .string (bstr r), .int .i64 x2, .int .i64 y2] 25))
  obtain ⟨y0, y1, y2', y3, y4⟩ := cells5 B1
  generalize hO : cmpC t (a, n, s, x, y) (b, m, r, x2, y2) = O
  have HO := Lib.hid hO
  have H3 := Lib.hid h3
  clear B0 B1 hO h3
  cases a <;> cases b
  case' false.false => have h3 : ¬ t = 3 := fun e => H3.out ⟨e, rfl, rfl⟩
  all_goals
    clear H3
    go_enter Try.func12, Try.ntmps12
    go_wp2_with (first
      | (go_at_call 24; refine cmpNulls_any.mono ?_; rintro e w' ⟨rfl, b1⟩)
      | (go_at_call 25; refine cmpI_any.mono ?_; rintro e w' ⟨rfl, rfl⟩)
      | (go_at_call 26; refine strCmp_any.mono ?_; rintro e w' ⟨rfl, rfl⟩))
  all_goals go_ret
  all_goals try refine ⟨?_, new2 w _ _⟩
  all_goals try refine ⟨?_, New.trans (new2 w _ _) (by assumption)⟩
  all_goals
    rw [← HO.out]
    clear x0 x1 x2' x3 x4 y0 y1 y2' y3 y4 HO
    simp_all [cmpC]

end Go.Proofs.Ytcnaameebbcmhaa
