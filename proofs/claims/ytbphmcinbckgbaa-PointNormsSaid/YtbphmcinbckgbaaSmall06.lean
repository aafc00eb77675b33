/- The small case of layer 6's statements. -/
import Derived.Test.YtbphmcinbckgbaaPtW
import Derived.Test.YtbphmcinbckgbaaPtC
import Derived.Test.YtbphmcinbckgbaaOpen

namespace Go.Proofs.Ytbphmcinbckgbaa
open Go.RowKit Go.Hm
theorem two_pts {w : World} {base n c : Nat} {A : Option Addr} {p q : Int × Int} (h : w.ownsRow base 23 2 (.slice A n c) n (pairs [p, q])) :
    ∃ g, A = some ⟨g, 0, none⟩ ∧ n = 2 ∧ ∀ W, New w W → W.cell? ⟨g, 2, none⟩ = some (.int .i64 q.1) ∧ W.cell? ⟨g, 3, none⟩ = some (.int .i64 q.2) := by
  have hr := Reads.of_own h
  have hn := hr.lenP
  have hn2 : n = 2 := hn
  obtain ⟨g, cap, hv, _, hlt⟩ := World.ownsRow.form h (by omega)
  have hA : A = some ⟨g, 0, none⟩ := by injection hv
  subst hA hn2
  refine ⟨g, rfl, rfl, fun W hW => ?_⟩
  have hr2 := Reads.later hr hW
  obtain ⟨ad, e, _, hc⟩ := hr2.2 (by omega)
  injection e with e
  subst e
  exact ⟨hc 2 _ rfl, hc 3 _ rfl⟩
theorem PtsPost.two {w w' : World} {e : Ending} {o : Option (List (Int × Int))} {p q : Int × Int} (h : PtsPost o w e w') (ho : o = some [p, q]) :
    ∃ g c, e = .returned (.tuple #[.slice (some ⟨g, 0, none⟩) 2 c, .bool true]) ∧ (∀ W, New w' W → W.cell? ⟨g, 2, none⟩ = some (.int .i64 q.1) ∧ W.cell? ⟨g, 3, none⟩ = some (.int .i64 q.2)) ∧ New w w' := by
  subst ho
  obtain ⟨A, n, c, rfl, h1, h2⟩ := h
  obtain ⟨g, rfl, rfl, h3⟩ := two_pts h1
  exact ⟨g, c, rfl, h3, h2⟩
theorem PtsPost.no {w w' : World} {e : Ending} {o : Option (List (Int × Int))} (h : PtsPost o w e w') (ho : o = none) :
    ∃ A n c, e = .returned (.tuple #[.slice A n c, .bool false]) ∧ New w w' := by
  subst ho
  obtain ⟨A, n, c, rfl, _, h2⟩ := h
  exact ⟨A, n, c, rfl, h2⟩
theorem PtPost.two {w w' : World} {e : Ending} {o : Option (List (Int × Int))} {p q : Int × Int} (h : PtPost o w e w') (ho : o = some [p, q]) :
    ∃ g c, e = .returned (.slice (some ⟨g, 0, none⟩) 2 c) ∧ (∀ W, New w' W → W.cell? ⟨g, 2, none⟩ = some (.int .i64 q.1) ∧ W.cell? ⟨g, 3, none⟩ = some (.int .i64 q.2)) ∧ New w w' := by
  subst ho
  obtain ⟨A, n, c, rfl, h1, h2⟩ := h
  obtain ⟨g, rfl, rfl, h3⟩ := two_pts h1
  exact ⟨g, c, rfl, h3, h2⟩
theorem s6m (W : World) : Calls Try.prog 14 #[.agg #[.int .i64 1, .int .i64 2], .agg #[.int .i64 3, .int .i64 (-1)]] W (NewPost (.agg #[.int .i64 5, .int .i64 5]) W) := pmul_any (w := W) (x := 1) (y := 2) (u := 3) (v := -1) (by omega) (by omega) (by omega) (by omega)
theorem s6a (W : World) : Calls Try.prog 10 #[.agg #[.int .i64 1, .int .i64 2], .agg #[.int .i64 3, .int .i64 (-1)]] W (NewPost (.agg #[.int .i64 4, .int .i64 1]) W) := padd_any (w := W) (x := 1) (y := 2) (u := 3) (v := -1) (by omega) (by omega) (by omega) (by omega)
theorem s6s (W : World) : Calls Try.prog 12 #[.agg #[.int .i64 1, .int .i64 2], .agg #[.int .i64 3, .int .i64 (-1)]] W (NewPost (.agg #[.int .i64 (-2), .int .i64 3]) W) := psub_any (w := W) (x := 1) (y := 2) (u := 3) (v := -1) (by omega) (by omega) (by omega) (by omega)
theorem s6t (W : World) : Calls Try.prog 16 #[.agg #[.int .i64 1, .int .i64 2], .int .i64 1] W (NewPost (.agg #[.int .i64 (-2), .int .i64 1]) W) := pturn_any (w := W) (x := 1) (y := 2) (n := 1) (by omega) (by omega)
theorem s6u (W : World) : Calls Try.prog 16 #[.agg #[.int .i64 1, .int .i64 2], .int .i64 (-1)] W (NewPost (.agg #[.int .i64 2, .int .i64 (-1)]) W) := pturn_any (w := W) (x := 1) (y := 2) (n := -1) (by omega) (by omega)
theorem s6n (W : World) : Calls Try.prog 18 #[.agg #[.int .i64 1, .int .i64 2]] W (NewPost (.int .i64 5) W) := norm_any (w := W) (x := 1) (y := 2) (by omega) (by omega)
theorem s6c (W : World) : Calls Try.prog 20 #[.agg #[.int .i64 1, .int .i64 2], .agg #[.int .i64 3, .int .i64 (-1)]] W (NewPost (.int .i64 (-1)) W) := pcompare_any (w := W) (x := 1) (y := 2) (u := 3) (v := -1) (by omega) (by omega) (by omega) (by omega)
theorem s6d (W : World) : Calls Try.prog 20 #[.agg #[.int .i64 1, .int .i64 2], .agg #[.int .i64 2, .int .i64 1]] W (NewPost (.int .i64 (-1)) W) := pcompare_any (w := W) (x := 1) (y := 2) (u := 2) (v := 1) (by omega) (by omega) (by omega) (by omega)
theorem s6r (W : World) : Calls Try.prog 8 #[.agg #[.int .i64 1048576, .int .i64 0]] W (NewPost (.bool true) W) := pright_any (w := W) 1048576 0
theorem s6q (W : World) : Calls Try.prog 8 #[.agg #[.int .i64 0, .int .i64 1048577]] W (NewPost (.bool false) W) := pright_any (w := W) 0 1048577
theorem s6w : walkP (0, 0) [(1, 2), (3, -1)] = some [(1, 2), (4, 1)] := by decide
theorem s6v : walkP (0, 0) [(1048576, 0), (1, 0)] = none := by decide
theorem s6x : stepsP (0, 0) [(1, 2), (3, -1)] = some [(1, 2), (2, -3)] := by decide
set_option maxHeartbeats 4000000 in
set_option maxRecDepth 100000 in
theorem small06_any (w : World) : Calls Try.prog 6 #[] w (SmallPost w) := by
  obtain ⟨W1, hW1⟩ : ∃ W, W = w.alloc (.cells #[.int .i64 1, .int .i64 2] 23) := ⟨_, rfl⟩
  obtain ⟨W2, hW2⟩ : ∃ W, W = W1.alloc (.cells #[.int .i64 3, .int .i64 (-1)] 23) := ⟨_, rfl⟩
  obtain ⟨W3, hW3⟩ : ∃ W, W = W2.alloc (.cells #[.int .i64 1, .int .i64 2, .int .i64 3, .int .i64 (-1)] 23) := ⟨_, rfl⟩
  have e1 : New w W1 := by rw [hW1]; exact (Below.refl _ _).alloc (Nat.le_refl _) _
  have e2 : New W1 W2 := by rw [hW2]; exact (Below.refl _ _).alloc (Nat.le_refl _) _
  have e3 : New W2 W3 := by rw [hW3]; exact (Below.refl _ _).alloc (Nat.le_refl _) _
  have z1 : W1.heap.size = w.heap.size + 1 := by rw [hW1]; simp
  have z2 : W2.heap.size = w.heap.size + 1 + 1 := by rw [hW2]; simp [z1]
  have B1 : Blk W2 w.heap.size 23 #[.int .i64 1, .int .i64 2] := by rw [hW2, hW1]; exact (Blk.new _ _ _).alloc _
  have B2 : Blk W2 (w.heap.size + 1) 23 #[.int .i64 3, .int .i64 (-1)] := by rw [hW2, ← z1]; exact Blk.new _ _ _
  have R3 : Reads W3 W3.heap.size 2 (some ⟨w.heap.size + 1 + 1, 0, none⟩) 2 (pairs [(1, 2), (3, -1)]) := by rw [hW3, ← z2]; exact Reads.litR W2 _ _ 2 2 _ rfl rfl
  have F := Lib.hid (fun (W : World) (hW : New W2 W) => And.intro (cells2 (B1.below hW B1.lt)) (cells2 (B2.below hW B2.lt)))
  have P1 := Lib.hid (pwalk_any (c := 2) R3 (by omega))
  rw [s6w] at P1
  have b02 := Lib.hid (New.trans e1 e2)
  obtain ⟨⟨x0, x1⟩, y0, y1⟩ := F.out W3 e3
  have b23 := e3
  have HW3 := Lib.hid (show W3 = _ from by rw [hW3, hW2, hW1])
  rw [hW3, hW2, hW1] at x0 x1 y0 y1
  clear hW1 hW2 hW3 e1 e2 e3 z1 z2 B1 B2 R3
  go_enter Try.func6, Try.ntmps6
  go_wp2_with fail
  rw [← HW3.out]
  refine P1.out.mono ?_
  rintro e w4 h
  obtain ⟨ga, ca, rfl, fa, b4⟩ := h.two rfl
  have b4 := New.trans b23 b4
  have FA := Lib.hid fa
  clear h fa x0 x1 y0 y1 HW3 P1
  obtain ⟨⟨x0, x1⟩, y0, y1⟩ := F.out w4 b4
  have R4 := Reads.litR w4 23 #[.int .i64 1048576, .int .i64 0, .int .i64 1, .int .i64 0] 2 2 (pairs [(1048576, 0), (1, 0)]) rfl rfl
  have P2 := Lib.hid (pwalk_any (c := 2) R4 (by omega))
  rw [s6v] at P2
  clear R4
  go_wp2_with fail
  refine P2.out.mono ?_
  rintro e w5 h
  obtain ⟨A5, n5, c5, rfl, b5⟩ := h.no rfl
  have c45 := New.alloc _ b5
  have b5 := New.trans b4 c45
  clear h x0 x1 y0 y1 P2
  obtain ⟨⟨x0, x1⟩, y0, y1⟩ := F.out w5 b5
  have R5 := Reads.litR w5 23 #[.int .i64 1, .int .i64 2, .int .i64 3, .int .i64 (-1)] 2 2 (pairs [(1, 2), (3, -1)]) rfl rfl
  have P3 := Lib.hid (psteps_any (c := 2) R5 (by omega))
  rw [s6x] at P3
  clear R5
  go_wp2_with fail
  refine P3.out.mono ?_
  rintro e w6 h
  obtain ⟨gs, cs, rfl, fs, b6⟩ := h.two rfl
  have c56 := New.alloc _ b6
  have b6 := New.trans b5 c56
  have G := Lib.hid (fun (W : World) (hW : New w6 W) => And.intro (F.out W (New.trans b6 hW)) (And.intro (FA.out W (New.trans (New.trans c45 c56) hW)) (fs W hW)))
  have HB := Lib.hid (New.trans b02.out b6)
  clear h x0 x1 y0 y1 P3 fs FA F b5 b4 b23 c45 c56 b6
  have hU := New.refl w6
  obtain ⟨⟨⟨x0, x1⟩, y0, y1⟩, ⟨p0, p1⟩, q0, q1⟩ := G.out w6 hU
  try simp only at p0 p1 q0 q1
  go_wp2_with fail
  (with_reducible refine (s6m _).mono ?_)
  rintro e v0 ⟨rfl, d⟩
  replace hU := New.trans hU d
  clear x0 x1 y0 y1 p0 p1 q0 q1 d
  obtain ⟨⟨⟨x0, x1⟩, y0, y1⟩, ⟨p0, p1⟩, q0, q1⟩ := G.out v0 hU
  try simp only at p0 p1 q0 q1
  go_wp2_with fail
  (with_reducible refine (s6a _).mono ?_)
  rintro e v1 ⟨rfl, d⟩
  replace hU := New.trans hU d
  clear x0 x1 y0 y1 p0 p1 q0 q1 d
  obtain ⟨⟨⟨x0, x1⟩, y0, y1⟩, ⟨p0, p1⟩, q0, q1⟩ := G.out v1 hU
  try simp only at p0 p1 q0 q1
  go_wp2_with fail
  (with_reducible refine (s6s _).mono ?_)
  rintro e v2 ⟨rfl, d⟩
  replace hU := New.trans hU d
  clear x0 x1 y0 y1 p0 p1 q0 q1 d
  obtain ⟨⟨⟨x0, x1⟩, y0, y1⟩, ⟨p0, p1⟩, q0, q1⟩ := G.out v2 hU
  try simp only at p0 p1 q0 q1
  go_wp2_with fail
  (with_reducible refine (s6t _).mono ?_)
  rintro e v3 ⟨rfl, d⟩
  replace hU := New.trans hU d
  clear x0 x1 y0 y1 p0 p1 q0 q1 d
  obtain ⟨⟨⟨x0, x1⟩, y0, y1⟩, ⟨p0, p1⟩, q0, q1⟩ := G.out v3 hU
  try simp only at p0 p1 q0 q1
  go_wp2_with fail
  (with_reducible refine (s6u _).mono ?_)
  rintro e v4 ⟨rfl, d⟩
  replace hU := New.trans hU d
  clear x0 x1 y0 y1 p0 p1 q0 q1 d
  obtain ⟨⟨⟨x0, x1⟩, y0, y1⟩, ⟨p0, p1⟩, q0, q1⟩ := G.out v4 hU
  try simp only at p0 p1 q0 q1
  go_wp2_with fail
  (with_reducible refine (s6n _).mono ?_)
  rintro e v5 ⟨rfl, d⟩
  replace hU := New.trans hU d
  clear x0 x1 y0 y1 p0 p1 q0 q1 d
  obtain ⟨⟨⟨x0, x1⟩, y0, y1⟩, ⟨p0, p1⟩, q0, q1⟩ := G.out v5 hU
  try simp only at p0 p1 q0 q1
  go_wp2_with fail
  (with_reducible refine (s6c _).mono ?_)
  rintro e v6 ⟨rfl, d⟩
  replace hU := New.trans hU d
  clear x0 x1 y0 y1 p0 p1 q0 q1 d
  obtain ⟨⟨⟨x0, x1⟩, y0, y1⟩, ⟨p0, p1⟩, q0, q1⟩ := G.out v6 hU
  try simp only at p0 p1 q0 q1
  go_wp2_with fail
  (with_reducible refine (s6d _).mono ?_)
  rintro e v7 ⟨rfl, d⟩
  replace hU := New.trans hU d
  clear x0 x1 y0 y1 p0 p1 q0 q1 d
  obtain ⟨⟨⟨x0, x1⟩, y0, y1⟩, ⟨p0, p1⟩, q0, q1⟩ := G.out v7 hU
  try simp only at p0 p1 q0 q1
  go_wp2_with fail
  (with_reducible refine (s6r _).mono ?_)
  rintro e v8 ⟨rfl, d⟩
  replace hU := New.trans hU d
  clear x0 x1 y0 y1 p0 p1 q0 q1 d
  obtain ⟨⟨⟨x0, x1⟩, y0, y1⟩, ⟨p0, p1⟩, q0, q1⟩ := G.out v8 hU
  try simp only at p0 p1 q0 q1
  go_wp2_with fail
  (with_reducible refine (s6q _).mono ?_)
  rintro e v9 ⟨rfl, d⟩
  replace hU := New.trans hU d
  clear x0 x1 y0 y1 p0 p1 q0 q1 d
  obtain ⟨⟨⟨x0, x1⟩, y0, y1⟩, ⟨p0, p1⟩, q0, q1⟩ := G.out v9 hU
  try simp only at p0 p1 q0 q1
  go_wp2
  go_ret
  exact ⟨by simp, New.trans HB.out hU⟩

end Go.Proofs.Ytbphmcinbckgbaa
