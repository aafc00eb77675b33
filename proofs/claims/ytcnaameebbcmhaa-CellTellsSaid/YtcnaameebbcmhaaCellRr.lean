/- Contract on ref07.Right. -/
import Derived.Test.YtcnaameebbcmhaaCellR

namespace Go.Proofs.Ytcnaameebbcmhaa
open Go.RowKit Go.Hm
theorem two_cells {w W : World} {e e2 : TypeId} {a b c d f : Value} {o : Array Value} (h : New ((w.alloc (.cells #[a, b, c, d, f] e)).alloc (.cells o e2)) W) :
    W.cell? ⟨w.heap.size, 0, none⟩ = some a ∧ W.cell? ⟨w.heap.size, 1, none⟩ = some b ∧ W.cell? ⟨w.heap.size, 2, none⟩ = some c ∧ W.cell? ⟨w.heap.size, 3, none⟩ = some d ∧ W.cell? ⟨w.heap.size, 4, none⟩ = some f :=
  have B := (Blk.new w e #[a, b, c, d, f]).alloc (.cells o e2)
  cells5 (B.below h B.lt)
set_option maxHeartbeats 2000000 in
set_option maxRecDepth 100000 in
theorem rpright_any {w : World} (x y : Int) :
    Calls Try.prog 23 #[.agg #[.int .i64 x, .int .i64 y]] w (NewPost (.bool (inBox x y)) w) := by
  obtain ⟨W0, hW0⟩ : ∃ W, W = w.alloc (.cells #[.int .i64 x, .int .i64 y] 23) := ⟨_, rfl⟩
  have b0 : New w W0 := by rw [hW0]; exact (Below.refl _ _).alloc (Nat.le_refl _) _
  have B0 : Blk W0 w.heap.size 23 #[.int .i64 x, .int .i64 y] := by rw [hW0]; exact Blk.new _ _ _
  obtain ⟨x0, x1⟩ := cells2 B0
  have HO := Lib.hid (show inBox x y = (decide (-1048576 ≤ x) && decide (x ≤ 1048576) && decide (-1048576 ≤ y) && decide (y ≤ 1048576)) from rfl)
  generalize inBox x y = O at *
  rw [hW0] at x0 x1
  clear B0
  cases h1 : decide (-1048576 ≤ x) <;> cases h2 : decide (x ≤ 1048576) <;> cases h3 : decide (-1048576 ≤ y) <;> cases h4 : decide (y ≤ 1048576)
  all_goals
    rw [h1, h2, h3, h4] at HO
    go_enter Try.func23, Try.ntmps23
    go_wp2
    go_ret
    exact ⟨by rw [HO.out]; rfl, by rw [← hW0]; exact b0⟩
set_option maxHeartbeats 2000000 in
set_option maxRecDepth 100000 in
theorem rcright_any {w : World} {b : Bool} {n : Int} {s : List Nat} {x y : Int} {cn : List Nat} {t : Int} {nu : Bool} (hs : s.length ≤ 140737488351232) :
    Calls Try.prog 11 #[.agg #[.bool b, .int .i64 n, .string (bstr s), .int .i64 x, .int .i64 y], .agg #[.string (bstr cn), .int .i64 t, .bool nu]] w (NewPost (.bool (rightB (b, n, s, x, y) t nu)) w) := by
  have z1 := bstr_size s
  generalize hO : rightB (b, n, s, x, y) t nu = O
  have HO := Lib.hid hO
  have Z := Lib.hid (bstr_nil (s := s))
  clear hO
  have B0 := Blk.new w 25 #[.bool b, .int .i64 n, .string (bstr s), .int .i64 x, .int .i64 y]
  have B1 := Blk.new (w.alloc (.cells #[.bool b, .int .i64 n, .string (bstr s), .int .i64 x, .int .i64 y] 25)) 27 #[.string (bstr cn), .int .i64 t, .bool nu]
  obtain ⟨x0, x1, x2, x3, x4⟩ := cells5 (B0.alloc (.cells #[.string (bstr cn), .int .i64 t, .bool nu] 27))
  obtain ⟨y0, y1, y2⟩ := ccells B1
  clear B0 B1
  go_enter Try.func11, Try.ntmps11
  go_wp2_with (first
    | (go_at_call 23; refine (rpright_any x y).mono ?_; rintro e w' ⟨rfl, b1⟩; obtain ⟨p0, p1, p2, p3, p4⟩ := two_cells b1))
  all_goals go_ret
  all_goals try refine ⟨?_, new2 w _ _⟩
  all_goals try refine ⟨?_, New.trans (new2 w _ _) (by assumption)⟩
  all_goals
    rw [← HO.out]
    have Z := Z.out
    clear x0 x1 x2 x3 x4 y0 y1 y2 HO
    try clear p0 p1 p2 p3 p4
    simp_all [rightB]
  · by_cases h1 : n = 1 <;> simp [*]
  · omega

end Go.Proofs.Ytcnaameebbcmhaa
