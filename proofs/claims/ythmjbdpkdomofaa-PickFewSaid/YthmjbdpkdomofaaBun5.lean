/- Texts merged, for a claim has at most 60 files: CellRr, StaT, FooL, FooR, ColsR, FooS, VarG, CurM, CurS, QryM, Qry, QryE, QryF, PicA. -/
import Derived.BigQuiet
import Derived.Deep.QuietTactic
import Derived.Outline
import Derived.ScopeJumps
import Derived.Test.YthmjbdpkdomofaaBun1
import Derived.Test.YthmjbdpkdomofaaBun2
import Derived.Test.YthmjbdpkdomofaaBun3
import Derived.Test.YthmjbdpkdomofaaBun4
import Derived.WalkMore
/- Contract on ref07.Right. -/

namespace Go.Proofs.Ythmjbdpkdomofaa
open Go.RowKit Go.Hm
theorem two_cells {w W : World} {e e2 : TypeId} {a b c d f : Value} {o : Array Value} (h : New ((w.alloc (.cells #[a, b, c, d, f] e)).alloc (.cells o e2)) W) :
    W.cell? ⟨w.heap.size, 0, none⟩ = some a ∧ W.cell? ⟨w.heap.size, 1, none⟩ = some b ∧ W.cell? ⟨w.heap.size, 2, none⟩ = some c ∧ W.cell? ⟨w.heap.size, 3, none⟩ = some d ∧ W.cell? ⟨w.heap.size, 4, none⟩ = some f :=
  have B := (Blk.new w e #[a, b, c, d, f]).alloc (.cells o e2)
  cells5 (B.below h B.lt)
set_option maxHeartbeats 2000000 in
set_option maxRecDepth 100000 in
theorem rpright_any {w : World} (x y : Int) :
    Calls Try.prog 64 #[.agg #[.int .i64 x, .int .i64 y]] w (NewPost (.bool (inBox x y)) w) := by
  obtain ⟨W0, hW0⟩ : ∃ W, W = w.alloc (.cells #[.int .i64 x, .int .i64 y] 51) := ⟨_, rfl⟩
  have b0 : New w W0 := by rw [hW0]; exact (Below.refl _ _).alloc (Nat.le_refl _) _
  have B0 : Blk W0 w.heap.size 51 #[.int .i64 x, .int .i64 y] := by rw [hW0]; exact Blk.new _ _ _
  obtain ⟨x0, x1⟩ := cells2 B0
  have HO := Lib.hid (show inBox x y = (decide (-1048576 ≤ x) && decide (x ≤ 1048576) && decide (-1048576 ≤ y) && decide (y ≤ 1048576)) from rfl)
  generalize inBox x y = O at *
  rw [hW0] at x0 x1
  clear B0
  cases h1 : decide (-1048576 ≤ x) <;> cases h2 : decide (x ≤ 1048576) <;> cases h3 : decide (-1048576 ≤ y) <;> cases h4 : decide (y ≤ 1048576)
  all_goals
    rw [h1, h2, h3, h4] at HO
    go_enter Try.func64, Try.ntmps64
    go_wp2
    go_ret
    exact ⟨by rw [HO.out]; rfl, by rw [← hW0]; exact b0⟩
set_option maxHeartbeats 2000000 in
set_option maxRecDepth 100000 in
theorem rcright_any {w : World} {b : Bool} {n : Int} {s : List Nat} {x y : Int} {cn : List Nat} {t : Int} {nu : Bool} (hs : s.length ≤ 140737488351232) :
    Calls Try.prog 61 #[.agg #[.bool b, .int .i64 n, .string (bstr s), .int .i64 x, .int .i64 y], .agg #[.string (bstr cn), .int .i64 t, .bool nu]] w (NewPost (.bool (rightB (b, n, s, x, y) t nu)) w) := by
  have z1 := bstr_size s
  generalize hO : rightB (b, n, s, x, y) t nu = O
  have HO := Lib.hid hO
  have Z := Lib.hid (bstr_nil (s := s))
  clear hO
  have B0 := Blk.new w 53 #[.bool b, .int .i64 n, .string (bstr s), .int .i64 x, .int .i64 y]
  have B1 := Blk.new (w.alloc (.cells #[.bool b, .int .i64 n, .string (bstr s), .int .i64 x, .int .i64 y] 53)) 61 #[.string (bstr cn), .int .i64 t, .bool nu]
  obtain ⟨x0, x1, x2, x3, x4⟩ := cells5 (B0.alloc (.cells #[.string (bstr cn), .int .i64 t, .bool nu] 61))
  obtain ⟨y0, y1, y2⟩ := ccells B1
  clear B0 B1
  go_enter Try.func61, Try.ntmps61
  go_wp2_with (first
    | (go_at_call 64; refine (rpright_any x y).mono ?_; rintro e w' ⟨rfl, b1⟩; obtain ⟨p0, p1, p2, p3, p4⟩ := two_cells b1))
  all_goals go_ret
  all_goals try refine ⟨?_, new2 w _ _⟩
  all_goals try refine ⟨?_, New.trans (new2 w _ _) (by assumption)⟩
  all_goals
    rw [← HO.out]
    have Z := Z.out
    clear x0 x1 x2 x3 x4 y0 y1 y2 HO
    try clear p0 p1 p2 p3 p4
    simp_all [rightB]
  · by_cases h1 : n = 1 <;> simp [*]
  · omega

end Go.Proofs.Ythmjbdpkdomofaa
/- The contracts of hypostyleref15.May and Right. -/

namespace Go.Proofs.Ythmjbdpkdomofaa
open Go.RowKit Go.Hm
set_option maxHeartbeats 1000000 in
set_option maxRecDepth 100000 in
theorem eqCell_any (a b : CellS) (W : World) : (binOp .eql 53 (cellA a) (cellA b)).run Try.prog W = .ok (.bool (eqC a b)) W := by
  obtain ⟨a1, a2, a3, a4, a5⟩ := a
  obtain ⟨b1, b2, b3, b4, b5⟩ := b
  show (binOp .eql 53 (.agg #[.bool a1, .int .i64 a2, .string (bstr a3), .int .i64 a4, .int .i64 a5]) (.agg #[.bool b1, .int .i64 b2, .string (bstr b3), .int .i64 b4, .int .i64 b5])).run Try.prog W = _
  go_simp
  unfold eqC
  repeat' split
  all_goals simp_all
set_option maxHeartbeats 4000000 in
set_option maxRecDepth 100000 in
theorem rsright_any {w : World} {t : Int} {s : StatS} (hf : statFine s) : Calls Try.prog 56 #[.int .i64 t, statA s] w (NewPost (.bool (rightS t s)) w) := by
  obtain ⟨M, hM⟩ : ∃ M, M = rightS t s := ⟨_, rfl⟩
  rw [← hM]
  unfold rightS at hM
  obtain ⟨n, b, p, q⟩ := s
  obtain ⟨⟨hf1, hf2⟩, hf3, hf4⟩ := hf
  dsimp only at hM hf1 hf2 hf3 hf4
  have E1 : ∀ W, (binOp .eql 53 (cellA p) (cellA cell0)).run Try.prog W = .ok (.bool (decide (p = cell0))) W := fun W => by
    rw [eqCell_any, eqC_is hf2 (by simp [cell0])]
  have E2 : ∀ W, (binOp .eql 53 (cellA q) (cellA cell0)).run Try.prog W = .ok (.bool (decide (q = cell0))) W := fun W => by
    rw [eqCell_any, eqC_is hf4 (by simp [cell0])]
  have HN := fun (h1 : rightB p t false = true) (h2 : rightB q t false = true) (W : World) => rcompareA_any (w := W) (t := t) (a := p) (b := q) (right_near h1) (right_near h2)
  have R1 := fun (W : World) => rcright_any (w := W) (b := p.1) (n := p.2.1) (s := p.2.2.1) (x := p.2.2.2.1) (y := p.2.2.2.2) (cn := []) (t := t) (nu := false) hf1
  have R2 := fun (W : World) => rcright_any (w := W) (b := q.1) (n := q.2.1) (s := q.2.2.1) (x := q.2.2.2.1) (y := q.2.2.2.2) (cn := []) (t := t) (nu := false) hf3
  generalize decide (p = cell0) = e1 at *
  generalize decide (q = cell0) = e2 at *
  generalize cmpD t p q = o at *
  obtain ⟨p1, p2, p3, p4, p5⟩ := p
  obtain ⟨q1, q2, q3, q4, q5⟩ := q
  dsimp only at R1 R2 hM
  generalize rightB (p1, p2, p3, p4, p5) t false = m1 at *
  generalize rightB (q1, q2, q3, q4, q5) t false = m2 at *
  have E1 : ∀ W, (binOp .eql 53 (.agg #[.bool p1, .int .i64 p2, .string (bstr p3), .int .i64 p4, .int .i64 p5]) (.agg #[.bool false, .int .i64 0, .string ⟨#[]⟩, .int .i64 0, .int .i64 0])).run Try.prog W = .ok (.bool e1) W := E1
  have E2 : ∀ W, (binOp .eql 53 (.agg #[.bool q1, .int .i64 q2, .string (bstr q3), .int .i64 q4, .int .i64 q5]) (.agg #[.bool false, .int .i64 0, .string ⟨#[]⟩, .int .i64 0, .int .i64 0])).run Try.prog W = .ok (.bool e2) W := E2
  have R1 : Hid (∀ W, Calls Try.prog 61 #[.agg #[.bool p1, .int .i64 p2, .string (bstr p3), .int .i64 p4, .int .i64 p5], .agg #[.string ⟨#[]⟩, .int .i64 t, .bool false]] W (NewPost (.bool m1) W)) := Lib.hid R1
  have R2 : Hid (∀ W, Calls Try.prog 61 #[.agg #[.bool q1, .int .i64 q2, .string (bstr q3), .int .i64 q4, .int .i64 q5], .agg #[.string ⟨#[]⟩, .int .i64 t, .bool false]] W (NewPost (.bool m2) W)) := Lib.hid R2
  unfold cellA cellV at HN
  dsimp only at HN
  have HN := Lib.hid HN
  show Calls Try.prog 56 #[.int .i64 t, .agg #[.int .i64 n, .bool b, .bool p1, .int .i64 p2, .string (bstr p3), .int .i64 p4, .int .i64 p5, .bool q1, .int .i64 q2, .string (bstr q3), .int .i64 q4, .int .i64 q5]] w (NewPost (.bool M) w)
  have B0 := Blk.new w 55 #[.int .i64 n, .bool b, .bool p1, .int .i64 p2, .string (bstr p3), .int .i64 p4, .int .i64 p5, .bool q1, .int .i64 q2, .string (bstr q3), .int .i64 q4, .int .i64 q5]
  have hb : New w (w.alloc (.cells #[.int .i64 n, .bool b, .bool p1, .int .i64 p2, .string (bstr p3), .int .i64 p4, .int .i64 p5, .bool q1, .int .i64 q2, .string (bstr q3), .int .i64 q4, .int .i64 q5] 55)) := (Below.refl _ _).alloc (Nat.le_refl _) _
  have HB0 := Lib.hid B0
  have Hb := Lib.hid hb
  obtain ⟨x0, x1, x2, x3, x4, x5, x6, x7, x8, x9, x10, x11⟩ := cells12 B0
  clear B0 hb hf1 hf2 hf3 hf4
  by_cases hr : t < 0 ∨ 3 < t ∨ n < 0 ∨ 65536 < n
  · rw [if_pos hr] at hM
    have HM := Lib.hid hM
    clear hM E1 E2
    by_cases h1 : t < 0
    all_goals try by_cases h2 : 3 < t
    all_goals try by_cases h3 : n < 0
    all_goals try (have h4 : 65536 < n := by omega)
    all_goals
      clear hr
      go_enter Try.func56, Try.ntmps56
      go_wp2
      go_ret
      exact ⟨by rw [HM.out]; rfl, Hb.out⟩
  rw [if_neg hr] at hM
  have h1 : ¬ t < 0 := by omega
  have h2 : ¬ 3 < t := by omega
  have h3 : ¬ n < 0 := by omega
  have h4 : ¬ 65536 < n := by omega
  clear hr
  cases b with
  | false =>
    rw [if_neg (by simp)] at hM
    have HM := Lib.hid hM
    clear hM
    cases e1
    all_goals
      go_enter Try.func56, Try.ntmps56
      go_wp2
      go_ret
      exact ⟨by rw [HM.out]; rfl, Hb.out⟩
  | true =>
    rw [if_pos rfl] at hM
    have HM := Lib.hid hM
    clear hM E1 E2
    go_enter Try.func56, Try.ntmps56
    go_wp2_with fail
    refine (R1.out _).mono ?_
    rintro e w1 ⟨rfl, b1⟩
    have B0 := HB0.out.below b1 HB0.out.lt
    have hl := New.trans Hb.out b1
    clear x0 x1 x2 x3 x4 x5 x6 x7 x8 x9 x10 x11 HB0 Hb b1
    obtain ⟨x0, x1, x2, x3, x4, x5, x6, x7, x8, x9, x10, x11⟩ := cells12 B0
    go_wp2_with fail
    refine (R2.out _).mono ?_
    rintro e w2 ⟨rfl, b2⟩
    replace B0 := B0.below b2 B0.lt
    replace hl := New.trans hl b2
    clear x0 x1 x2 x3 x4 x5 x6 x7 x8 x9 x10 x11 b2
    obtain ⟨x0, x1, x2, x3, x4, x5, x6, x7, x8, x9, x10, x11⟩ := cells12 B0
    cases m1 with
    | false =>
      go_wp2_with fail
      go_ret
      exact ⟨by rw [HM.out]; rfl, hl⟩
    | true =>
      cases m2 with
      | false =>
        go_wp2_with fail
        go_ret
        exact ⟨by rw [HM.out]; rfl, hl⟩
      | true =>
        have C := Lib.hid (HN.out (by trivial) (by trivial))
        go_wp2_with fail
        refine (C.out _).mono ?_
        rintro e w3 ⟨rfl, b3⟩
        go_wp2
        go_ret
        exact ⟨by rw [HM.out]; rfl, New.trans hl b3⟩

end Go.Proofs.Ythmjbdpkdomofaa
/- The contract of the answer's pageRight (layer 19). -/

namespace Go.Proofs.Ythmjbdpkdomofaa
open Go Go.RowKit Go.Hm
set_option maxHeartbeats 12000000 in
set_option maxRecDepth 100000 in
theorem rpageRight_any {w : World} {c : ColS} {p : PageS} (hp : statFine p.2.2) :
    Calls Try.prog 50 #[colA c, pageA p] w (NewPost (.bool (pageB c.2.1 c.2.2 p 65536)) w) := by
  obtain ⟨nm, t, nu⟩ := c
  have SR := fun (W : World) => rsright_any (w := W) (t := t) hp
  clear hp
  obtain ⟨M, hM⟩ : ∃ M, M = pageB t nu p 65536 := ⟨_, rfl⟩
  dsimp only
  rw [← hM]
  unfold pageB at hM
  generalize rightS t p.2.2 = R at *
  obtain ⟨sz, rw, nn, bb, ⟨p1, p2, p3, p4, p5⟩, ⟨q1, q2, q3, q4, q5⟩⟩ := p
  dsimp only at hM SR
  have SR : Hid (∀ W, Calls Try.prog 56 #[.int .i64 t, .agg #[.int .i64 nn, .bool bb, .bool p1, .int .i64 p2, .string (bstr p3), .int .i64 p4, .int .i64 p5, .bool q1, .int .i64 q2, .string (bstr q3), .int .i64 q4, .int .i64 q5]] W (NewPost (.bool R) W)) := Lib.hid SR
  show Calls Try.prog 50 #[.agg #[.string (bstr nm), .int .i64 t, .bool nu], .agg #[.int .i64 sz, .int .i64 rw, .int .i64 nn, .bool bb, .bool p1, .int .i64 p2, .string (bstr p3), .int .i64 p4, .int .i64 p5, .bool q1, .int .i64 q2, .string (bstr q3), .int .i64 q4, .int .i64 q5]] w (NewPost (.bool M) w)
  have B0 := (Blk.new w 61 #[.string (bstr nm), .int .i64 t, .bool nu]).alloc (.cells #[.int .i64 sz, .int .i64 rw, .int .i64 nn, .bool bb, .bool p1, .int .i64 p2, .string (bstr p3), .int .i64 p4, .int .i64 p5, .bool q1, .int .i64 q2, .string (bstr q3), .int .i64 q4, .int .i64 q5] 57)
  have B1 := Blk.new (w.alloc (.cells #[.string (bstr nm), .int .i64 t, .bool nu] 61)) 57 #[.int .i64 sz, .int .i64 rw, .int .i64 nn, .bool bb, .bool p1, .int .i64 p2, .string (bstr p3), .int .i64 p4, .int .i64 p5, .bool q1, .int .i64 q2, .string (bstr q3), .int .i64 q4, .int .i64 q5]
  have b0 := new2 w (.cells #[.string (bstr nm), .int .i64 t, .bool nu] 61) (.cells #[.int .i64 sz, .int .i64 rw, .int .i64 nn, .bool bb, .bool p1, .int .i64 p2, .string (bstr p3), .int .i64 p4, .int .i64 p5, .bool q1, .int .i64 q2, .string (bstr q3), .int .i64 q4, .int .i64 q5] 57)
  simp only [World.size_alloc] at B1
  obtain ⟨x0, x1, x2, x3, x4, x5, x6, x7, x8, x9, x10, x11, x12, x13⟩ := cells14 B1
  obtain ⟨y0, y1, y2⟩ := ccells B0
  have HM := Lib.hid hM
  clear hM
  go_enter Try.func50, Try.ntmps50
  go_wp2_with fail
  refine (SR.out _).mono ?_
  rintro e w1 ⟨rfl, b1⟩
  have B0 := B0.below b1 B0.lt
  have B1 := B1.below b1 B1.lt
  have b01 := New.trans b0 b1
  clear x0 x1 x2 x3 x4 x5 x6 x7 x8 x9 x10 x11 x12 x13 y0 y1 y2 b0 b1 SR
  obtain ⟨x0, x1, x2, x3, x4, x5, x6, x7, x8, x9, x10, x11, x12, x13⟩ := cells14 B1
  obtain ⟨y0, y1, y2⟩ := ccells B0
  have hM := HM.out
  cases R with
  | false =>
    have e : M = false := by rw [hM]; split <;> simp
    subst e
    clear hM HM
    go_wp2
    go_ret
    exact ⟨rfl, b01⟩
  | true =>
    by_cases h1 : 1 ≤ rw
    all_goals try by_cases h2 : rw ≤ 65536
    all_goals try by_cases h3 : 1 ≤ sz
    all_goals try by_cases h4 : sz ≤ 268435456
    all_goals
      first
        | (have e : M = false := by rw [hM, if_pos (by omega)]
           subst e
           clear hM HM
           go_wp2
           go_ret
           exact ⟨rfl, b01⟩)
        | (rw [if_neg (by omega)] at hM
           clear HM
           have HM := Lib.hid hM
           clear hM
           generalize k1 : decide (nn ≤ rw) = d1 at *
           generalize k2 : decide (nn < rw) = d2 at *
           generalize k3 : decide (nn = 0) = d3 at *
           have k4 : (nn == 0) = d3 := by rw [← k3]; rfl
           cases d1 <;> cases d2 <;> cases d3 <;> cases bb <;> cases nu
           all_goals go_wp2
           all_goals
             first
               | (go_ret
                  exact ⟨by rw [HM.out]; rfl, b01⟩)
               | (exfalso; simp only [decide_eq_true_eq, decide_eq_false_iff_not, beq_iff_eq, beq_eq_false_iff_ne, ne_eq] at k1 k2 k3 k4; omega)
               | (exfalso; simp_all; done))

end Go.Proofs.Ythmjbdpkdomofaa
/- The contract of the answer's chunk (layer 19). -/

namespace Go.Hm
open Go Go.RowKit
theorem Reads.page14s {w : World} {B n i : Nat} {ad : Addr} {l : List PageS} (h : Reads w B 14 (some ad) n (recs pageV l)) (hi : i < n) :
    w.cell? (ad.add (i * 14)) = some (.int .i64 (l.getD i pageZ).1) ∧ w.cell? ⟨(ad.add (i * 14)).block, (ad.add (i * 14)).off + 1, none⟩ = some (.int .i64 (l.getD i pageZ).2.1) ∧ w.cell? ⟨(ad.add (i * 14)).block, (ad.add (i * 14)).off + 2, none⟩ = some (.int .i64 (l.getD i pageZ).2.2.1) ∧ w.cell? ⟨(ad.add (i * 14)).block, (ad.add (i * 14)).off + 3, none⟩ = some (.bool (l.getD i pageZ).2.2.2.1) ∧ w.cell? ⟨(ad.add (i * 14)).block, (ad.add (i * 14)).off + 4, none⟩ = some (.bool (l.getD i pageZ).2.2.2.2.1.1) ∧ w.cell? ⟨(ad.add (i * 14)).block, (ad.add (i * 14)).off + 5, none⟩ = some (.int .i64 (l.getD i pageZ).2.2.2.2.1.2.1) ∧ w.cell? ⟨(ad.add (i * 14)).block, (ad.add (i * 14)).off + 6, none⟩ = some (.string (bstr (l.getD i pageZ).2.2.2.2.1.2.2.1)) ∧ w.cell? ⟨(ad.add (i * 14)).block, (ad.add (i * 14)).off + 7, none⟩ = some (.int .i64 (l.getD i pageZ).2.2.2.2.1.2.2.2.1) ∧ w.cell? ⟨(ad.add (i * 14)).block, (ad.add (i * 14)).off + 8, none⟩ = some (.int .i64 (l.getD i pageZ).2.2.2.2.1.2.2.2.2) ∧ w.cell? ⟨(ad.add (i * 14)).block, (ad.add (i * 14)).off + 9, none⟩ = some (.bool (l.getD i pageZ).2.2.2.2.2.1) ∧ w.cell? ⟨(ad.add (i * 14)).block, (ad.add (i * 14)).off + 10, none⟩ = some (.int .i64 (l.getD i pageZ).2.2.2.2.2.2.1) ∧ w.cell? ⟨(ad.add (i * 14)).block, (ad.add (i * 14)).off + 11, none⟩ = some (.string (bstr (l.getD i pageZ).2.2.2.2.2.2.2.1)) ∧ w.cell? ⟨(ad.add (i * 14)).block, (ad.add (i * 14)).off + 12, none⟩ = some (.int .i64 (l.getD i pageZ).2.2.2.2.2.2.2.2.1) ∧ w.cell? ⟨(ad.add (i * 14)).block, (ad.add (i * 14)).off + 13, none⟩ = some (.int .i64 (l.getD i pageZ).2.2.2.2.2.2.2.2.2) := by
  obtain ⟨ad', e, _, f⟩ := h.page14 hi
  injection e with e
  subst e
  exact f
/-- How many rows and bytes pages have together, as the answer reckons. -/
def rchunkS (t : Int) (nu : Bool) : List PageS → Int → Int → Int × Int
  | [], rows, size => (rows, size)
  | p :: l, rows, size => if pageB t nu p 65536 = true ∧ rows ≤ 65536 ∧ size ≤ 1073741824 then rchunkS t nu l (rows + p.2.1) (size + p.1) else (-1, -1)
theorem rchunkS_yes {t : Int} {nu : Bool} : ∀ (l : List PageS) (rows size : Int), (∀ p ∈ l, pageB t nu p 65536 = true) → rows + rowsL l ≤ 65536 → size + sizesL l ≤ 1073741824 → rchunkS t nu l rows size = (rows + rowsL l, size + sizesL l)
  | [], rows, size, _, _, _ => by simp [rchunkS, rowsL, sizesL]
  | p :: l, rows, size, h, h1, h2 => by
    have hp := h p (by simp)
    have hb := (pageB_most.1 hp).1
    have hl := rowsL_pos (l := l) fun q hq => h q (by simp [hq])
    rw [rowsL_cons] at h1 ⊢
    rw [sizesL_cons] at h2 ⊢
    unfold rchunkS
    rw [if_pos ⟨hp, by omega, by omega⟩, rchunkS_yes l _ _ (fun q hq => h q (by simp [hq])) (by omega) (by omega)]
    congr 1 <;> omega
theorem rchunkS_or {t : Int} {nu : Bool} : ∀ (l : List PageS) (rows size : Int), rchunkS t nu l rows size = (-1, -1) ∨ ((∀ p ∈ l, pageB t nu p 65536 = true) ∧ rchunkS t nu l rows size = (rows + rowsL l, size + sizesL l))
  | [], rows, size => .inr (by simp [rchunkS, rowsL, sizesL])
  | p :: l, rows, size => by
    unfold rchunkS
    split
    · rename_i hp
      rcases rchunkS_or (t := t) (nu := nu) l (rows + p.2.1) (size + p.1) with e | ⟨e1, e2⟩
      · exact .inl e
      · refine .inr ⟨fun q hq => ?_, ?_⟩
        · rcases List.mem_cons.1 hq with rfl | hq
          · exact hp.1
          · exact e1 q hq
        · rw [e2, rowsL_cons, sizesL_cons]
          congr 1 <;> omega
    · exact .inl rfl
theorem rchunkS_bound {t : Int} {nu : Bool} : ∀ (l : List PageS) (rows size : Int), 0 ≤ rows → rows ≤ 131072 → 0 ≤ size → size ≤ 1342177280 → -1 ≤ (rchunkS t nu l rows size).1 ∧ (rchunkS t nu l rows size).1 ≤ 131072 ∧ -1 ≤ (rchunkS t nu l rows size).2 ∧ (rchunkS t nu l rows size).2 ≤ 1342177280
  | [], rows, size, _, _, _, _ => by simp only [rchunkS]; omega
  | p :: l, rows, size, h1, h2, h3, h4 => by
    unfold rchunkS
    split
    · rename_i hp
      have h5 := (pageB_most.1 hp.1).1
      exact rchunkS_bound l _ _ (by omega) (by omega) (by omega) (by omega)
    · dsimp only; omega

end Go.Hm

namespace Go.Proofs.Ythmjbdpkdomofaa
open Go.RowKit Go.Hm
def RSizePost (r : Int × Int) (w : World) (e : Ending) (w' : World) : Prop := e = .returned (.tuple #[.int .i64 r.1, .int .i64 r.2]) ∧ New w w'
set_option maxHeartbeats 4000000 in
set_option maxRecDepth 100000 in
theorem rchunk_any {w : World} {c : ColS} {A : Option Addr} {n cap : Nat} {l : List PageS} (h : Reads w w.heap.size 14 A n (recs pageV l)) (hl : ∀ p ∈ l, statFine p.2.2) (hn : n ≤ 4611686018427387903) :
    Calls Try.prog 34 #[colA c, .slice A n cap] w (RSizePost (rchunkS c.2.1 c.2.2 l 0 0) w) := by
  obtain rfl := h.lenPage
  obtain ⟨nm, t, nu⟩ := c
  have HR := Lib.hid h
  have HL := Lib.hid hl
  have HC := Lib.hid (show rchunkS t nu l 0 0 = rchunkS t nu (l.drop 0) 0 0 from rfl)
  clear h hl
  show Calls Try.prog 34 #[.agg #[.string (bstr nm), .int .i64 t, .bool nu], .slice A l.length cap] w (RSizePost (rchunkS t nu l 0 0) w)
  generalize hX : rchunkS t nu l 0 0 = X at *
  clear hX
  have B0 := Blk.new w 61 #[.string (bstr nm), .int .i64 t, .bool nu]
  have b0 : New w (w.alloc (.cells #[.string (bstr nm), .int .i64 t, .bool nu] 61)) := (Below.refl _ _).alloc (Nat.le_refl _) _
  go_enter Try.func34, Try.ntmps34
  go_wp2_with fail
  go_loopw [6, 7, 8] (fun r s i wr => ∃ (k : Nat) (rr ss : Int), k ≤ l.length ∧ i = .int .i64 (k : Int) ∧ r = .int .i64 rr ∧ s = .int .i64 ss ∧ Hid (X = rchunkS t nu (l.drop k) rr ss) ∧ (0 ≤ rr ∧ rr ≤ 131072) ∧ (0 ≤ ss ∧ ss ≤ 1342177280)
    ∧ Blk wr w.heap.size 61 #[.string (bstr nm), .int .i64 t, .bool nu] ∧ New w wr) (fun _ _ i _ => l.length - (intOf i).toNat)
  case atStart => exact ⟨0, 0, 0, Nat.zero_le _, rfl, rfl, rfl, HC, by omega, by omega, B0, b0⟩
  case round =>
    obtain ⟨k, rr, ss, hk, rfl, rfl, rfl, H, hrr, hss, B, b⟩ := hrel
    clear HC B0 b0
    by_cases hlt : k < l.length
    · have hd := drop_getD l k pageZ hlt
      have RP := fun (W : World) => rpageRight_any (w := W) (c := (nm, t, nu)) (p := l.getD k pageZ) (HL.out _ (mem_getDF pageZ hlt))
      have hst : rchunkS t nu (l.drop k) rr ss = if pageB t nu (l.getD k pageZ) 65536 = true ∧ rr ≤ 65536 ∧ ss ≤ 1073741824 then rchunkS t nu (l.drop (k + 1)) (rr + (l.getD k pageZ).2.1) (ss + (l.getD k pageZ).1) else (-1, -1) := by rw [hd]; rfl
      rw [← H.out] at hst
      have hok := fun (e : pageB t nu (l.getD k pageZ) 65536 = true) => (pageB_most.1 e).1
      have FP := fun (W : World) (hW : New w W) => (Reads.later HR.out hW).page14 hlt
      obtain ⟨ad, rfl, -⟩ := FP _ b
      have FP := fun (W : World) (hW : New w W) => (Reads.later HR.out hW).page14s hlt
      clear hd H
      dsimp only at RP
      generalize pageB t nu (l.getD k pageZ) 65536 = R at *
      generalize l.getD k pageZ = p at *
      obtain ⟨sz, rw, nn, bb, ⟨p1, p2, p3, p4, p5⟩, ⟨q1, q2, q3, q4, q5⟩⟩ := p
      dsimp only at hst hok FP
      have RP : Hid (∀ W, Calls Try.prog 50 #[.agg #[.string (bstr nm), .int .i64 t, .bool nu], .agg #[.int .i64 sz, .int .i64 rw, .int .i64 nn, .bool bb, .bool p1, .int .i64 p2, .string (bstr p3), .int .i64 p4, .int .i64 p5, .bool q1, .int .i64 q2, .string (bstr q3), .int .i64 q4, .int .i64 q5]] W (NewPost (.bool R) W)) := Lib.hid RP
      have HST := Lib.hid hst
      have FP := Lib.hid FP
      clear hst
      go_wp2_with fail
      refine wp_region_up New [(true, 0), (true, 1), (true, 2), (true, 3), (true, 4), (false, 5), (true, 6)]
        New.refl New.trans (by kernel_rfl) (by kernel_rfl) (by kernel_rfl) (by kernel_rfl) ?_
      have F := Lib.hid (fun (W : World) (hW : New wr W) => B.below hW B.lt)
      have hU := New.drew wr
      repeat (first
        | (refine up_quiet rfl rfl (v := ?_) (fun W hQ => ?_) ?_; rotate_left; (obtain ⟨d0, d1, d2, d3, d4, d5, d6, d7, d8, d9, d10, d11, d12, d13⟩ := FP.out W (New.trans b (New.trans hU hQ)); obtain ⟨y0, y1, y2⟩ := ccells (F.out W (New.trans hU hQ)); go_simp <;> with_reducible rfl); simp only [Act.put, List.setIfInBounds_toArray, List.set_cons_zero, List.set_cons_succ]))
      refine up_call rfl rfl (fun K0 hK0 => ?_)
      go_simp
      (with_reducible refine (RP.out _).mono ?_)
      rintro e u ⟨rfl, bu⟩
      refine hK0 _ _ bu ?_
      replace hU := New.trans hU bu
      clear hK0 bu
      repeat (first
        | (refine up_quiet rfl rfl (v := ?_) (fun W hQ => ?_) ?_; rotate_left; (go_simp <;> with_reducible rfl); simp only [Act.put, List.setIfInBounds_toArray, List.set_cons_zero, List.set_cons_succ]))
      refine up_nil ?_
      have B3 := F.out _ hU
      have b3 := New.trans b hU
      obtain ⟨d0, d1, d2, d3, d4, d5, d6, d7, d8, d9, d10, d11, d12, d13⟩ := FP.out _ b3
      clear F hU B RP FP
      by_cases hgo : R = true ∧ rr ≤ 65536 ∧ ss ≤ 1073741824
      · have hX := HST.out
        rw [if_pos hgo] at hX
        have HX := Lib.hid hX
        obtain ⟨rfl, hg1, hg2⟩ := hgo
        have hok := hok rfl
        clear hX HST
        go_wp2_with fail
        go_roundw
        case rel => exact ⟨k + 1, rr + rw, ss + sz, by omega, by go_num, rfl, rfl, HX, by omega, by omega, B3, b3⟩
        case measure => simp [intOf]; omega
      · have hX := HST.out
        rw [if_neg hgo] at hX
        have HX := Lib.hid hX
        clear hX HST hok
        have hex : R = false ∨ (R = true ∧ 65536 < rr) ∨ (R = true ∧ rr ≤ 65536 ∧ 1073741824 < ss) := by
          cases R with
          | false => exact .inl rfl
          | true =>
            by_cases e : rr ≤ 65536
            · exact .inr (.inr ⟨rfl, e, by have : ¬ ss ≤ 1073741824 := fun h => hgo ⟨rfl, e, h⟩; omega⟩)
            · exact .inr (.inl ⟨rfl, by omega⟩)
        clear hgo
        rcases hex with rfl | ⟨rfl, h1⟩ | ⟨rfl, h1, h2⟩
        all_goals
          go_wp2_with fail
          go_ret2
          rw [HX.out]
          exact ⟨rfl, b3⟩
    · obtain rfl : k = l.length := by omega
      have hX := H.out
      rw [List.drop_length] at hX
      have HX := Lib.hid hX
      clear hX H
      go_wp2_with fail
      go_ret2
      rw [HX.out]
      exact ⟨rfl, b⟩

end Go.Proofs.Ythmjbdpkdomofaa
/- Contracts on columns: the answer's Cols and Schema. -/

namespace Go.Proofs.Ythmjbdpkdomofaa
open Go.RowKit Go.Hm


set_option maxHeartbeats 4000000 in
set_option maxRecDepth 100000 in
theorem rcols_any {w : World} {A : Option Addr} {n c : Nat} {L : List ColS} (h : Reads w w.heap.size 3 A n (recs colV L)) (hL : ∀ x ∈ L, (∀ z ∈ x.1, z < 256) ∧ x.1.length ≤ 140737488351232) (hn : n ≤ 4611686018427387903) :
    Calls Try.prog 33 #[.slice A n c] w (NewPost (.int .i64 (colsCk L)) w) := by
  obtain rfl := h.lenC
  by_cases hm : 64 < L.length
  · rw [colsCk_many hm]
    go_enter Try.func33, Try.ntmps33
    go_wp2
    go_ret
    exact ⟨rfl, New.refl _⟩
  · have HO := Lib.hid (colsCk_few hm)
    generalize colsCk L = O at *
    go_enter Try.func33, Try.ntmps33
    go_wp2
    go_loopw [3] (fun i wr => ∃ k q : Nat, i = .int .i64 (k : Int) ∧ k ≤ L.length ∧ wr = w.drewN q ∧ Hid (O = colsGo (L.take k) (L.drop k))) (fun i _ => L.length - (intOf i).toNat)
    case atStart => exact ⟨0, 0, rfl, by omega, rfl, HO⟩
    case round =>
      obtain ⟨k, q, rfl, hk, rfl, H⟩ := hrel
      by_cases hlt : k < L.length
      · obtain ⟨ad, rfl, hbk, c0, c1, c2⟩ := (h.drewN q).colT hlt
        have hx : (L.getD k ([], 0, false)) ∈ L := by rw [List.getD_eq_getElem?_getD, List.getElem?_eq_getElem hlt]; exact List.getElem_mem hlt
        obtain ⟨y1, y2⟩ := hL _ hx
        have S := H.out
        rw [colsGo_step L k hlt] at S
        have HS := Lib.hid S
        have ck1 := Lib.hid (fun (hh : nameBad (L.take k) (nm L k)) => show colCk (L.take k) (nm L k) (L.getD k ([], 0, false)).2.1 = 1 by rw [colCk, if_pos hh])
        have ck2 := Lib.hid (fun (hh : ¬ nameBad (L.take k) (nm L k)) => show colCk (L.take k) (nm L k) (L.getD k ([], 0, false)).2.1 = if 0 ≤ (L.getD k ([], 0, false)).2.1 ∧ (L.getD k ([], 0, false)).2.1 ≤ 3 then 0 else 3 by rw [colCk, if_neg hh])
        generalize colCk (L.take k) (nm L k) (L.getD k ([], 0, false)).2.1 = ck at *
        unfold nm at *
        have LL := Lib.hid (show ∀ j, j < L.length → ∀ z ∈ (L.getD j ([], 0, false)).1, z < 256 from fun j hj => (hL _ (by rw [List.getD_eq_getElem?_getD, List.getElem?_eq_getElem hj]; exact List.getElem_mem hj)).1)
        have Y1 := Lib.hid y1
        generalize hs2 : (L.getD k ([], 0, false)).1 = s2 at *
        generalize ht2 : (L.getD k ([], 0, false)).2.1 = t2 at *
        have HT2 := Lib.hid ht2
        generalize (L.getD k ([], 0, false)).2.2 = n2 at *
        clear ht2
        have HSS := Lib.hid hs2
        have z1 := bstr_size s2
        clear S H hx hs2 y1 hL
        have hiz : (k : Int) < (L.length : Int) := by omega
        have g0 : (bstr s2).toList.isEmpty = decide (s2.length = 0) := by
          rw [bstr_toList]
          cases s2 <;> simp
        have hcb : s2.length = 0 ∨ (¬ s2.length = 0 ∧ 100 < s2.length) ∨ (¬ s2.length = 0 ∧ ¬ 100 < s2.length) := by omega
        rcases hcb with hb | ⟨hb, hb2⟩ | ⟨hb, hb2⟩
        case' inl => have HI := Lib.hid (show true = decide (nameBad (L.take 0) s2) from (decide_eq_true (Or.inl hb)).symm)
        case' inr.inl => have HI := Lib.hid (show true = decide (nameBad (L.take 0) s2) from (decide_eq_true (Or.inr (Or.inl hb2))).symm)
        case' inr.inr => have HI := Lib.hid (show false = decide (nameBad (L.take 0) s2) from (decide_eq_false (by
          rintro (h' | h' | h')
          · exact hb h'
          · exact hb2 h'
          · simp at h')).symm)
        all_goals
          first
            | (rw [decide_eq_true hb] at g0; have g1 : (bstr s2).toList = [] := by simpa using g0)
            | (rw [decide_eq_false hb] at g0; have g1 : ¬ (bstr s2).toList = [] := by simpa using g0)
          try (have g2 : decide (100 < (s2.length : Int)) = true := by simp; omega)
          try (have g2 : decide (100 < (s2.length : Int)) = false := by simp; omega)
          clear hb
          go_wp2
          clear g0 g1
          go_loopw [4, 5] (fun v i wr => ∃ (j q' : Nat) (bb : Bool), i = .int .i64 (j : Int) ∧ j ≤ k ∧ v = .bool bb ∧ wr = w.drewN q' ∧ Hid (bb = decide (nameBad (L.take j) s2))) (fun _ i _ => k - (intOf i).toNat)
          case atStart => exact ⟨0, q, _, rfl, by omega, rfl, rfl, HI⟩
          case round =>
            obtain ⟨j, q', bb, rfl, hj, rfl, rfl, HJ⟩ := hrel
            by_cases hlj : j < k
            · have NS := Lib.hid (nameBad_succ (s := s2) (show j < L.length by omega))
              obtain ⟨ad1, e1, hbk1, c01, _, _⟩ := (h.drewN q').colT (show j < L.length by omega)
              injection e1 with e1
              subst e1
              obtain ⟨ad2, e2, hbk2, c02, _, _⟩ := (h.drewN q').colT hlt
              injection e2 with e2
              subst e2
              rw [HSS.out] at c02
              have hq := strB (L.getD j ([], 0, false)).1 s2 (LL.out j (by omega)) Y1.out
              unfold nm at NS
              generalize (L.getD j ([], 0, false)).1 = s3 at *
              have hiz1 : (j : Int) < (L.length : Int) := by omega
              have hbx : (ad.add (j * 3)).block < (w.drewN q').drew.heap.size := by rw [block_of_add]; exact hbk
              have hbx2 : (ad.add (k * 3)).block < (w.drewN q').drew.heap.size := by rw [block_of_add]; exact hbk
              have C1 := Lib.hid (cell_new c01 hbx)
              have C2 := Lib.hid (cell_new c02 hbx2)
              have hcc : bb = true ∨ (bb = false ∧ s3 = s2) ∨ (bb = false ∧ ¬ s3 = s2) := by
                cases bb
                · by_cases he : s3 = s2
                  · exact .inr (.inl ⟨rfl, he⟩)
                  · exact .inr (.inr ⟨rfl, he⟩)
                · exact .inl rfl
              rcases hcc with rfl | ⟨rfl, he⟩ | ⟨rfl, he⟩
              · have HN := Lib.hid (show true = decide (nameBad (L.take (j + 1)) s2) by
                  rw [eq_comm, decide_eq_true_eq, NS.out]
                  exact .inl (of_decide_eq_true HJ.out.symm))
                go_wp2_with fail
                refine wp_region_up New [(true, 0), (true, 1), (true, 2), (true, 3), (true, 4), (true, 5), (true, 6), (true, 7), (true, 8), (true, 9), (true, 10), (true, 11), (true, 12), (true, 13), (true, 14)]
                  New.refl New.trans (by kernel_rfl) (by kernel_rfl) (by kernel_rfl) (by kernel_rfl) ?_
                repeat (first
                  | (refine up_skip rfl rfl ?_; simp only [Act.put, List.setIfInBounds_toArray, List.set_cons_zero, List.set_cons_succ])
                  | (refine up_quiet rfl rfl (v := ?_) (fun W hW => ?_) ?_; rotate_left; (go_simp <;> with_reducible rfl); simp only [Act.put, List.setIfInBounds_toArray, List.set_cons_zero, List.set_cons_succ]))
                refine up_nil ?_
                go_wp2
                go_roundw
                case rel => exact ⟨j + 1, q' + 1, true, by go_num, by omega, rfl, rfl, HN⟩
                case measure => simp [intOf]; omega
              · have HN := Lib.hid (show true = decide (nameBad (L.take (j + 1)) s2) by
                  rw [eq_comm, decide_eq_true_eq, NS.out]
                  exact .inr he)
                rw [decide_eq_true he] at hq
                clear he
                go_wp2_with fail
                refine wp_region_up New [(true, 0), (true, 1), (true, 2), (true, 3), (true, 4), (true, 5), (true, 6), (true, 7), (true, 8), (true, 9), (true, 10), (true, 11), (true, 12), (true, 13), (true, 14)]
                  New.refl New.trans (by kernel_rfl) (by kernel_rfl) (by kernel_rfl) (by kernel_rfl) ?_
                repeat (first
                  | (refine up_quiet rfl rfl (v := ?_) (fun W hW => ?_) ?_; rotate_left; (have g1 := C1.out W hW; have g2 := C2.out W hW; go_simp <;> with_reducible rfl); simp only [Act.put, List.setIfInBounds_toArray, List.set_cons_zero, List.set_cons_succ]))
                refine up_nil ?_
                go_wp2
                go_roundw
                case rel => exact ⟨j + 1, q' + 1, true, by go_num, by omega, rfl, rfl, HN⟩
                case measure => simp [intOf]; omega
              · have HN := Lib.hid (show false = decide (nameBad (L.take (j + 1)) s2) by
                  rw [eq_comm, decide_eq_false_iff_not, NS.out]
                  rintro (hh | hh)
                  · exact of_decide_eq_false HJ.out.symm hh
                  · exact he hh)
                rw [decide_eq_false he] at hq
                clear he
                go_wp2_with fail
                refine wp_region_up New [(true, 0), (true, 1), (true, 2), (true, 3), (true, 4), (true, 5), (true, 6), (true, 7), (true, 8), (true, 9), (true, 10), (true, 11), (true, 12), (true, 13), (true, 14)]
                  New.refl New.trans (by kernel_rfl) (by kernel_rfl) (by kernel_rfl) (by kernel_rfl) ?_
                repeat (first
                  | (refine up_quiet rfl rfl (v := ?_) (fun W hW => ?_) ?_; rotate_left; (have g1 := C1.out W hW; have g2 := C2.out W hW; go_simp <;> with_reducible rfl); simp only [Act.put, List.setIfInBounds_toArray, List.set_cons_zero, List.set_cons_succ]))
                refine up_nil ?_
                go_wp2
                go_roundw
                case rel => exact ⟨j + 1, q' + 1, false, by go_num, by omega, rfl, rfl, HN⟩
                case measure => simp [intOf]; omega
            · obtain rfl : j = k := by omega
              obtain ⟨ad1, e1, hbk1, c01, c02, _⟩ := (h.drewN q').colT hlt
              injection e1 with e1
              subst e1
              rw [HT2.out] at c02
              have HJ := HJ.out
              cases bb
              · have hnb := of_decide_eq_false HJ.symm
                have hck := ck2.out hnb
                clear HJ hnb
                by_cases ht : 0 ≤ t2 ∧ t2 ≤ 3
                · rw [if_pos ht] at hck
                  have HN := Lib.hid (show O = colsGo (L.take (j + 1)) (L.drop (j + 1)) by rw [HS.out, if_pos hck])
                  have g3 : decide (t2 < 0) = false := by simp; omega
                  have g4 : decide (3 < t2) = false := by simp; omega
                  clear hck HS ck1 ck2 ht
                  go_wp2
                  go_roundw
                  case rel => exact ⟨j + 1, q', by go_num, by omega, rfl, HN⟩
                  case measure => simp [intOf]; omega
                · rw [if_neg ht] at hck
                  have HN := Lib.hid (show O = 3 by rw [HS.out, hck, if_neg (by omega)])
                  have ht2 : t2 < 0 ∨ (¬ t2 < 0 ∧ 3 < t2) := by omega
                  clear hck HS ck1 ck2 ht
                  rcases ht2 with ht2 | ⟨ht2, ht3⟩
                  · go_wp2
                    go_ret
                    exact ⟨by rw [HN.out]; rfl, new_drewN _ _⟩
                  · have g3 : decide (t2 < 0) = false := decide_eq_false ht2
                    go_wp2
                    go_ret
                    exact ⟨by rw [HN.out]; rfl, new_drewN _ _⟩
              · have hnb := of_decide_eq_true HJ.symm
                have hck := ck1.out hnb
                have HN := Lib.hid (show O = 1 by rw [HS.out, hck, if_neg (by omega)])
                clear HJ hnb hck HS ck1 ck2
                go_wp2
                go_ret
                exact ⟨by rw [HN.out]; rfl, new_drewN _ _⟩
      · obtain rfl : k = L.length := by omega
        have HS2 := Lib.hid (show O = 0 by rw [H.out, colsGo_end])
        go_wp2
        go_ret
        exact ⟨by rw [HS2.out]; rfl, new_drewN _ _⟩

end Go.Proofs.Ythmjbdpkdomofaa
/- The contract of the answer's Right (layer 19). -/

namespace Go.Hm
open Go Go.RowKit
theorem FootTo.no_rowsR {L : List ColS} {G : List GroupS} {k : Nat} {rows size r : Int} (h : FootTo L G k rows size) (hk : k < G.length) (hb : (G.getD k groupZ).1 < 1 ∨ r - rows < (G.getD k groupZ).1 ∨ (G.getD k groupZ).2.length ≠ L.length) : ¬ FootOk ⟨L, r, G⟩ := fun hF => by
  have hg := hF.2.1 (G.getD k groupZ) (mem_getDF groupZ hk)
  have h1 := sum_take_succ (fun g : GroupS => g.1) G k groupZ hk
  have h2 := sum_take_le (fun g : GroupS => g.1) G (k + 1) (fun g hg => by have := (hF.2.1 g hg).1; omega)
  have h3 := h.rows_
  have h4 := hF.2.2.1
  dsimp only at h4
  rcases hb with hb | hb | hb
  · have := hg.1; omega
  · omega
  · exact hb hg.2.1
/-- What the answer's chunk tells of a chunk of a group. -/
theorem chunk_tells {t : Int} {nu : Bool} {l : List PageS} {gr sz : Int} (hg : 1 ≤ gr ∧ gr ≤ 65536) (hs : 0 ≤ sz) :
    ((rchunkS t nu l 0 0).1 = gr → ChunkOk t nu l gr ∧ (rchunkS t nu l 0 0).2 = sizesL l) ∧ ((rchunkS t nu l 0 0).1 ≠ gr → ¬ ChunkOk t nu l gr ∨ 1073741824 < sz + sizesL l) := by
  constructor
  · intro e
    rcases rchunkS_or (t := t) (nu := nu) l 0 0 with h | ⟨h1, h2⟩
    · rw [h] at e
      dsimp only at e
      omega
    · rw [h2] at e ⊢
      dsimp only at e ⊢
      exact ⟨⟨h1, by omega⟩, by omega⟩
  · intro e
    by_cases hc : ChunkOk t nu l gr
    · refine .inr ?_
      rcases Int.lt_or_le 1073741824 (sz + sizesL l) with h | h
      · exact h
      · exfalso
        have hr := hc.2
        rw [rchunkS_yes l 0 0 hc.1 (by omega) (by omega)] at e
        dsimp only at e
        omega
    · exact .inl hc

end Go.Hm

namespace Go.Proofs.Ythmjbdpkdomofaa
open Go.RowKit Go.Hm
set_option maxHeartbeats 4000000 in
set_option maxRecDepth 100000 in
theorem rfright_any {w : World} {Ac : Option Addr} {cc : Nat} {L : List ColS} {r : Int} {Ag : Option Addr} {cg : Nat} {G : List GrD} (h : FootIn w Ac cc L Ag G) (hp : ∀ g ∈ G, ∀ x ∈ g.2.2.2, ∀ p ∈ x.2.2, statFine p.2.2) (hr8 : -9223372036854775808 ≤ r ∧ r ≤ 9223372036854775807) :
    Calls Try.prog 20 #[footA Ac cc L r Ag cg G] w (NewPost (.bool (rightF (footP L r G))) w) := by
  have CK := Lib.hid (fun (W : World) (hW : New w W) => rcols_any (c := cc) (Reads.later h.cols hW) h.fine h.few)
  have HG := Lib.hid h.groups
  have HL := Lib.hid h.cols
  have hfew := h.few
  have hfew2 := h.few2
  have HCH := Lib.hid h.chunks
  have HPG := Lib.hid h.pages
  have HP := Lib.hid hp
  have HY := Lib.hid (fun e : FootOk (footP L r G) => rightF_yes e)
  have HN := Lib.hid (fun e : ¬ FootOk (footP L r G) => rightF_no e)
  have hz : FootTo L (G.map grP) 0 0 0 := FootTo.zero _ _
  have HZ := Lib.hid hz
  have hbig : FootOk (footP L r G) → 0 ≤ r ∧ r ≤ 65536 := fun e => by
    have h1 := e.2.2.1
    have h2 := e.2.2.2.1
    have h3 := sum_nonneg (fun g : GroupS => g.1) (footP L r G).groups (fun g hg => by have := (e.2.1 g hg).1; omega)
    rw [h1] at h3
    exact ⟨h3, h2⟩
  clear h hp hz
  generalize rightF (footP L r G) = M at *
  unfold footP at HY HN hbig
  have HMap := Lib.hid (fun (k : Nat) (hk : k < G.length) => getD_mapX grP G (k := k) grZ groupZ hk)
  have HLen := Lib.hid (show (G.map grP).length = G.length from List.length_map ..)
  generalize hGP : G.map grP = GP at *
  have hck := colsCk_iff L
  clear hGP
  show Calls Try.prog 20 #[.agg #[.slice Ac L.length cc, .int .i64 r, .slice Ag G.length cg]] w (NewPost (.bool M) w)
  have B0 := Blk.new w 25 #[.slice Ac L.length cc, .int .i64 r, .slice Ag G.length cg]
  have b0 : New w (w.alloc (.cells #[.slice Ac L.length cc, .int .i64 r, .slice Ag G.length cg] 25)) := (Below.refl _ _).alloc (Nat.le_refl _) _
  obtain ⟨x0, x1, x2⟩ := ccells B0
  go_enter Try.func20, Try.ntmps20
  go_wp2_with fail
  refine (CK.out _ b0).mono ?_
  rintro e w1 ⟨rfl, b1⟩
  have B1 := B0.below b1 B0.lt
  have b01 := New.trans b0 b1
  clear CK B0 b0 b1 x0 x1 x2
  obtain ⟨x0, x1, x2⟩ := ccells B1
  by_cases hk0 : colsCk L = 0
  · have hcok := hck.1 hk0
    have HCO := Lib.hid hcok
    rw [hk0]
    clear hck hk0 hcok
    by_cases hr0 : r < 0
    · have hM := Lib.hid (HN.out (fun e => by have := hbig e; omega))
      clear HY HN hbig
      go_wp2
      go_ret
      exact ⟨by rw [hM.out]; rfl, b01⟩
    by_cases hr1 : 65536 < r
    · have hM := Lib.hid (HN.out (fun e => by have := hbig e; omega))
      clear HY HN hbig
      go_wp2
      go_ret
      exact ⟨by rw [hM.out]; rfl, b01⟩
    clear hbig
    go_wp2_with fail
    clear x0 x1 x2
    go_loopw [4, 5, 6] (fun a s i wr => ∃ (k : Nat) (rows size : Int), k ≤ G.length ∧ i = .int .i64 (k : Int) ∧ a = .int .i64 rows ∧ s = .int .i64 size ∧ Hid (FootTo L GP k rows size) ∧ (0 ≤ rows ∧ rows ≤ 65536) ∧ (0 ≤ size ∧ size ≤ 1073741824)
      ∧ Blk wr w.heap.size 25 #[.slice Ac L.length cc, .int .i64 r, .slice Ag G.length cg] ∧ New w wr) (fun _ _ i _ => G.length - (intOf i).toNat)
    case atStart => exact ⟨0, 0, 0, Nat.zero_le _, rfl, rfl, rfl, HZ, by omega, by omega, B1, b01⟩
    case round =>
      obtain ⟨k, rows, size, hk, rfl, rfl, rfl, H, hrw, hsz, B, b⟩ := hrel
      clear HZ B1 b01
      by_cases hlt : k < G.length
      · obtain ⟨ad, rfl, hb, d0, d1⟩ := (Reads.later HG.out b).gr2 hlt
        have hgm := mem_getDF grZ hlt
        have hch := HCH.out _ hgm
        have hpg := HPG.out _ hgm
        have hpp := HP.out _ hgm
        have hmap := HMap.out k hlt
        have hltP : k < GP.length := by rw [HLen.out]; exact hlt
        generalize G.getD k grZ = g at *
        obtain ⟨gr, Ach, cch, D⟩ := g
        dsimp only at d0 d1 hch hpg hpp
        unfold grP at hmap
        dsimp only at hmap
        have hl2 : (GP.getD k groupZ).2.length = D.length := by rw [hmap]; exact List.length_map ..
        have hg1 : (GP.getD k groupZ).1 = gr := by rw [hmap]
        have HM2 := Lib.hid (fun (c : Nat) (hc : c < D.length) => show (GP.getD k groupZ).2.getD c [] = (D.getD c chZ).2.2 by rw [hmap]; exact getD_mapX (fun x : ChD => x.2.2) D chZ [] hc)
        have NR := Lib.hid (fun hb => HN.out (H.out.no_rowsR (r := r) hltP hb))
        have EN := Lib.hid (fun h1 h2 h3 => H.out.enter h1 h2 h3)
        rw [hl2, hg1] at NR EN
        have HL2 := Lib.hid hl2
        have HG1 := Lib.hid hg1
        have HCHk := Lib.hid hch.1
        have hchl := hch.2
        have HPGk := Lib.hid hpg
        have HPPk := Lib.hid hpp
        have HLTP := Lib.hid hltP
        clear hmap hl2 hg1 hch hpg hpp hgm hb H hltP
        have ha : New wr (wr.alloc (.cells #[.int .i64 gr, .slice Ach D.length cch] 49)) := (Below.refl _ _).alloc (Nat.le_refl _) _
        have BG := Blk.new wr 49 #[.int .i64 gr, .slice Ach D.length cch]
        have B2 := B.below ha B.lt
        have b2 := New.trans b ha
        obtain ⟨x0, x1, x2⟩ := ccells B
        obtain ⟨y0, y1, y2⟩ := ccells B2
        obtain ⟨z0, z1⟩ := cells2 BG
        clear B b ha
        by_cases h1 : gr < 1
        · have hM := Lib.hid (NR.out (.inl h1))
          clear NR EN
          go_wp2
          go_ret
          exact ⟨by rw [hM.out]; rfl, b2⟩
        by_cases h2 : r - rows < gr
        · have hM := Lib.hid (NR.out (.inr (.inl h2)))
          clear NR EN
          go_wp2
          go_ret
          exact ⟨by rw [hM.out]; rfl, b2⟩
        by_cases h3 : D.length = L.length
        · have t3 : ((D.length : Int) != (L.length : Int)) = false := by simp; omega
          have hE := EN.out (by omega) (by omega) h3
          have HE := Lib.hid hE
          have hDL : D.length ≤ L.length := by omega
          have H3 := Lib.hid h3
          clear NR EN hE h3
          go_wp2_with fail
          clear y0 y1 y2 z0 z1 d0 d1 t3 x0 x1 x2
          generalize wr.heap.size = gB at *
          go_loopw [5, 8] (fun s i wr => ∃ (c : Nat) (sz : Int), c ≤ D.length ∧ i = .int .i64 (c : Int) ∧ s = .int .i64 sz ∧ Hid (ChunkTo L GP k c (rows + gr) sz) ∧ (0 ≤ sz ∧ sz ≤ 1073741824)
            ∧ Blk wr w.heap.size 25 #[.slice Ac L.length cc, .int .i64 r, .slice (some ad) G.length cg] ∧ Blk wr gB 49 #[.int .i64 gr, .slice Ach D.length cch] ∧ New w wr) (fun _ i _ => D.length - (intOf i).toNat)
          case atStart => exact ⟨0, size, Nat.zero_le _, rfl, rfl, HE, hsz, B2, BG, b2⟩
          case round =>
            obtain ⟨c, sz, hc, rfl, rfl, H, hsz2, B, BGq, bq⟩ := hrel
            clear HE B2 BG b2
            by_cases hlc : c < D.length
            · have hcL : c < L.length := by omega
              obtain ⟨ac, rfl, hbc, e0⟩ := (Reads.later HCHk.out bq).ch1 hlc
              obtain ⟨al, rfl, hbl, -⟩ := (Reads.later HL.out bq).colT hcL
              have hxm := mem_getDF chZ hlc
              have hpx := HPGk.out _ hxm
              have hsx := HPPk.out _ hxm
              have hm2 := HM2.out c hlc
              have NC := Lib.hid (fun hb => HN.out (H.out.no_chunk (r := r) HLTP.out (by rw [HL2.out]; exact hlc) hb))
              have NX := Lib.hid (fun h1 h2 => H.out.next (by rw [HL2.out]; exact hlc) h1 h2)
              rw [hm2, HG1.out] at NC NX
              have FC := Lib.hid (fun (W : World) (hW : New w W) => show (W.cell? (al.add (c * 3)) = some (.string (bstr (L.getD c colZ).1)) ∧ W.cell? ⟨(al.add (c * 3)).block, (al.add (c * 3)).off + 1, none⟩ = some (.int .i64 (L.getD c colZ).2.1) ∧ W.cell? ⟨(al.add (c * 3)).block, (al.add (c * 3)).off + 2, none⟩ = some (.bool (L.getD c colZ).2.2)) from by
                obtain ⟨al', e, _, f⟩ := (Reads.later HL.out hW).colT hcL
                injection e with e
                subst e
                exact f)
              have FE := Lib.hid (fun (W : World) (hW : New w W) => show W.cell? (ac.add c) = some (.slice (D.getD c chZ).1 (D.getD c chZ).2.2.length (D.getD c chZ).2.1) from by
                obtain ⟨al', e, _, f⟩ := (Reads.later HCHk.out hW).ch1 hlc
                injection e with e
                subst e
                exact f)
              generalize D.getD c chZ = x at *
              obtain ⟨Ax, cx, pl⟩ := x
              dsimp only at e0 hpx hsx NC NX FE
              have CSZ := fun (W : World) (hW : New w W) => rchunk_any (c := L.getD c colZ) (cap := cx) (Reads.later hpx.1 hW) hsx hpx.2
              have hct := chunk_tells (t := (L.getD c colZ).2.1) (nu := (L.getD c colZ).2.2) (l := pl) (gr := gr) (sz := sz) (by omega) (by omega)
              have hbd := rchunkS_bound (t := (L.getD c colZ).2.1) (nu := (L.getD c colZ).2.2) pl 0 0 (by omega) (by omega) (by omega) (by omega)
              generalize L.getD c colZ = col at *
              obtain ⟨nm, t, nu⟩ := col
              dsimp only at hct hbd NC NX CSZ
              unfold RSizePost at CSZ
              generalize rchunkS t nu pl 0 0 = S at *
              obtain ⟨sn, sm⟩ := S
              dsimp only at hct hbd CSZ
              have CSZ : Hid (∀ W, New w W → Calls Try.prog 34 #[.agg #[.string (bstr nm), .int .i64 t, .bool nu], .slice Ax pl.length cx] W (fun e w' => e = .returned (.tuple #[.int .i64 sn, .int .i64 sm]) ∧ New W w')) := Lib.hid CSZ
              have HCT := Lib.hid hct
              clear hct hpx hsx hm2 hxm hbc hbl H
              obtain ⟨y0, y1, y2⟩ := ccells B
              obtain ⟨z0, z1⟩ := cells2 BGq
              dsimp only at FC
              go_wp2_with fail
              refine wp_region_up New [(true, 0), (true, 1), (true, 2), (true, 3), (true, 4), (true, 5), (true, 6), (true, 7), (true, 8), (true, 9), (false, 10), (true, 11), (true, 12), (true, 13), (true, 14), (true, 15)]
                New.refl New.trans (by kernel_rfl) (by kernel_rfl) (by kernel_rfl) (by kernel_rfl) ?_
              have F := Lib.hid (fun (W : World) (hW : New wr W) => And.intro (B.below hW B.lt) (BGq.below hW BGq.lt))
              have hU := New.drew wr
              clear y0 y1 y2 z0 z1 e0
              repeat (first
                | (refine up_quiet rfl rfl (v := ?_) (fun W hQ => ?_) ?_; rotate_left; (obtain ⟨f0, f1, f2⟩ := FC.out W (New.trans bq (New.trans hU hQ)); have fe := FE.out W (New.trans bq (New.trans hU hQ)); obtain ⟨F1, F2⟩ := F.out W (New.trans hU hQ); obtain ⟨y0, y1, y2⟩ := ccells F1; obtain ⟨z0, z1⟩ := cells2 F2; clear F1 F2; go_simp <;> with_reducible rfl); simp only [Act.put, List.setIfInBounds_toArray, List.set_cons_zero, List.set_cons_succ]))
              refine up_call rfl rfl (fun K0 hK0 => ?_)
              go_simp
              (with_reducible refine (CSZ.out _ (New.trans bq hU)).mono ?_)
              rintro e u ⟨rfl, bu⟩
              refine hK0 _ _ bu ?_
              replace hU := New.trans hU bu
              clear hK0 bu
              repeat (first
                | (refine up_quiet rfl rfl (v := ?_) (fun W hQ => ?_) ?_; rotate_left; (go_simp <;> with_reducible rfl); simp only [Act.put, List.setIfInBounds_toArray, List.set_cons_zero, List.set_cons_succ]))
              refine up_nil ?_
              obtain ⟨B3, BG3⟩ := F.out _ hU
              have b3 := New.trans bq hU
              clear F FC FE CSZ hU B BGq bq
              obtain ⟨z0, z1⟩ := cells2 BG3
              by_cases hn : sn = gr
              · obtain ⟨hco, hsn⟩ := HCT.out.1 hn
                have t1 : (sn != gr) = false := by simpa using hn
                clear HCT
                by_cases hbig : 1073741824 < sz + sm
                · have hM := Lib.hid (NC.out (.inr (by rw [← hsn]; exact hbig)))
                  clear NC NX hco hsn hn
                  go_wp2
                  go_ret
                  exact ⟨by rw [hM.out]; rfl, b3⟩
                · have hN := Lib.hid (NX.out hco (by rw [← hsn]; omega))
                  have hsm : 0 ≤ sm := by rw [hsn]; exact (chunk_nonneg hco).1
                  rw [← hsn] at hN
                  clear NC NX hco hsn hn
                  go_wp2
                  go_roundw
                  case rel => exact ⟨c + 1, sz + sm, by omega, by go_num, rfl, hN, by omega, B3, BG3, b3⟩
                  case measure => simp [intOf]; omega
              · have hM := Lib.hid (NC.out (HCT.out.2 hn))
                have t1 : (sn != gr) = true := by simpa using hn
                clear NC NX HCT hn
                go_wp2
                go_ret
                exact ⟨by rw [hM.out]; rfl, b3⟩
            · obtain rfl : c = D.length := by omega
              have hLv := Lib.hid (H.out.leave (by rw [HL2.out]) HLTP.out)
              have hrr := H.out.most
              rw [HG1.out] at hrr
              clear H
              obtain ⟨z0, z1⟩ := cells2 BGq
              go_wp2
              go_roundw
              case rel => exact ⟨k + 1, rows + gr, sz, by omega, by go_num, rfl, rfl, hLv, by omega, hsz2, B, bq⟩
              case measure => simp [intOf]; omega
        · have t3 : ((D.length : Int) != (L.length : Int)) = true := by simp; omega
          have hM := Lib.hid (NR.out (.inr (.inr h3)))
          clear NR EN h3
          go_wp2
          go_ret
          exact ⟨by rw [hM.out]; rfl, b2⟩
      · obtain rfl : k = G.length := by omega
        have hY := H.out
        rw [← HLen.out] at hY
        have hY := hY.yes (r := r) HCO.out
        obtain ⟨x0, x1, x2⟩ := ccells B
        by_cases he : rows = r
        · have hM := Lib.hid (HY.out (hY.2 he))
          have t1 : (rows == r) = true := by simpa using he
          clear hY HY HN H he
          go_wp2
          go_ret
          exact ⟨by rw [hM.out]; rfl, b⟩
        · have hM := Lib.hid (HN.out (fun hF => he (hY.1 hF)))
          have t1 : (rows == r) = false := by simpa using he
          clear hY HY HN H he
          go_wp2
          go_ret
          exact ⟨by rw [hM.out]; rfl, b⟩
  · have hM := Lib.hid (HN.out (fun hF => hk0 (hck.2 hF.1)))
    have t1 : (colsCk L != 0) = true := by simpa using hk0
    clear HY HN hck hk0
    generalize colsCk L = ck at *
    go_wp2
    go_ret
    exact ⟨by rw [hM.out]; rfl, b01⟩

end Go.Proofs.Ythmjbdpkdomofaa
/- varint.Get and varint.Len over a cursor. -/

namespace Go.Hm

theorem vp_app_lt {N b : Nat} {r s : List Nat} (h : b :: s = vp N ++ r) (hb : b < 128) : N = b ∧ r = s := by
  by_cases hN : N < 128
  · rw [vp_lt hN] at h
    simp only [List.cons_append, List.nil_append, List.cons.injEq] at h
    exact ⟨h.1.symm, h.2.symm⟩
  · rw [vp_ge hN] at h
    simp only [List.cons_append, List.cons.injEq] at h
    omega
theorem vp_app_ge {N b : Nat} {r s : List Nat} (h : b :: s = vp N ++ r) (hb : 128 ≤ b) : N % 128 + 128 = b ∧ 0 < N / 128 ∧ s = vp (N / 128) ++ r := by
  by_cases hN : N < 128
  · rw [vp_lt hN] at h
    simp only [List.cons_append, List.nil_append, List.cons.injEq] at h
    omega
  · rw [vp_ge hN] at h
    simp only [List.cons_append, List.cons.injEq] at h
    exact ⟨h.1.symm, by omega, h.2⟩
theorem vp_cons {b N : Nat} (hb : 128 ≤ b) (h8 : b < 256) (hN : 0 < N) : b :: vp N = vp (b - 128 + 128 * N) := by
  rw [vp_ge (n := b - 128 + 128 * N) (by omega)]
  congr 1
  · omega
  · congr 1; omega
theorem vp_app_inj : ∀ (k M N : Nat) (r s : List Nat), M ≤ k → vp M ++ r = vp N ++ s → M = N ∧ r = s := by
  intro k
  induction k using Nat.strongRecOn with
  | ind k ih =>
    intro M N r s hk h
    by_cases hM : M < 128
    · rw [vp_lt hM] at h
      have := vp_app_lt h hM
      exact ⟨this.1.symm, this.2.symm⟩
    · rw [vp_ge hM] at h
      have h1 := vp_app_ge h (by omega)
      have h2 := ih (M / 128) (by omega) _ _ _ _ (Nat.le_refl _) h1.2.2
      exact ⟨by omega, h2.2⟩

/-- After k bytes with the number v in them, what is left of l reads on as the rest of a number. -/
def VIn (l : List Nat) (k v : Nat) (rl : List Nat) : Prop :=
  v < 128 ^ k ∧ (∀ N r, l = vp N ++ r → ∃ N', N = v + 128 ^ k * N' ∧ (k = 0 ∨ 0 < N') ∧ rl = vp N' ++ r) ∧
  (∀ N r, (k = 0 ∨ 0 < N) → rl = vp N ++ r → l = vp (v + 128 ^ k * N) ++ r)
theorem VIn.zero (l : List Nat) : VIn l 0 0 l := ⟨by simp, fun N r h => ⟨N, by simp, .inl rfl, h⟩, fun N r _ h => by simpa using h⟩
theorem VIn.step {l rl : List Nat} {k v b : Nat} (h : VIn l k v (b :: rl)) (hb : 128 ≤ b) (h8 : b < 256) : VIn l (k + 1) (v + 128 ^ k * (b - 128)) rl := by
  obtain ⟨h1, h2, h3⟩ := h
  have hp : 128 ^ (k + 1) = 128 ^ k * 128 := Nat.pow_succ ..
  have hm : 128 ^ k * (b - 128) ≤ 128 ^ k * 127 := Nat.mul_le_mul_left _ (by omega)
  refine ⟨by omega, fun N r e => ?_, fun N r hN e => ?_⟩
  · obtain ⟨N', e1, e2, e3⟩ := h2 N r e
    obtain ⟨f1, f2, f3⟩ := vp_app_ge e3 hb
    refine ⟨N' / 128, ?_, .inr f2, f3⟩
    rw [e1, hp, Nat.mul_assoc, Nat.add_assoc, ← Nat.mul_add]
    congr 2
    omega
  · have hN' : 0 < N := by rcases hN with hN | hN <;> omega
    have := h3 (b - 128 + 128 * N) r (.inr (by omega)) (by rw [e, ← vp_cons hb h8 hN', List.cons_append])
    rw [this, Nat.mul_add, hp, Nat.mul_assoc, Nat.add_assoc]
theorem VIn.done {l rl : List Nat} {k v b : Nat} (h : VIn l k v (b :: rl)) (hb : b < 128) (hk : k = 0 ∨ 0 < b) : l = vp (v + 128 ^ k * b) ++ rl :=
  h.2.2 b rl hk (by rw [vp_lt hb]; rfl)
theorem VIn.not_zero {l rl : List Nat} {k v : Nat} (h : VIn l k v (0 :: rl)) (hk : 0 < k) : ∀ N r, l = vp N ++ r → 18446744073709551616 ≤ N := by
  intro N r e
  obtain ⟨N', _, e2, e3⟩ := h.2.1 N r e
  have := vp_app_lt e3 (by omega)
  omega
theorem VIn.not_nil {l : List Nat} {k v : Nat} (h : VIn l k v []) : ∀ N r, l = vp N ++ r → 18446744073709551616 ≤ N := by
  intro N r e
  obtain ⟨N', _, _, e3⟩ := h.2.1 N r e
  have := vp_pos N'
  have := congrArg List.length e3
  simp at this
  omega
theorem VIn.not_big {l rl : List Nat} {v b : Nat} (h : VIn l 9 v (b :: rl)) (hb : 1 < b) : ∀ N r, l = vp N ++ r → 18446744073709551616 ≤ N := by
  intro N r e
  obtain ⟨N', e1, e2, e3⟩ := h.2.1 N r e
  by_cases hlt : b < 128
  · have := (vp_app_lt e3 hlt).1
    omega
  · have := vp_app_ge e3 (by omega)
    omega
theorem pow128 (k : Nat) : (128 : Nat) ^ k = 2 ^ (7 * k) := by rw [Nat.pow_mul]
theorem VIn.fits {k v b : Nat} (hv : v < 128 ^ k) (hb : b < 128) (hk : k ≤ 8 ∨ (k ≤ 9 ∧ b ≤ 1)) : v + 128 ^ k * b < 18446744073709551616 := by
  rcases hk with hk | ⟨hk, hb1⟩
  · have h1 : (128 : Nat) ^ k ≤ 128 ^ 8 := Nat.pow_le_pow_right (by omega) hk
    have h2 : 128 ^ k * b ≤ 128 ^ 8 * b := Nat.mul_le_mul_right _ h1
    omega
  · have h1 : (128 : Nat) ^ k ≤ 128 ^ 9 := Nat.pow_le_pow_right (by omega) hk
    have h2 : 128 ^ k * b ≤ 128 ^ 9 * b := Nat.mul_le_mul_right _ h1
    omega
theorem andNot128 (b : Nat) (h : b < 256) : bits .andNot .u8 (b : Int) 128 = ((b % 128 : Nat) : Int) := by
  have := u8_andNot_nat b 128 h (by omega)
  rw [show 255 - 128 = 127 from rfl, nat_mask7] at this
  simpa using this
theorem or_step {k v b : Nat} (hv : v < 128 ^ k) (hb : b < 128) (hk : k ≤ 8 ∨ (k ≤ 9 ∧ b ≤ 1)) :
    bits .or .u64 (v : Int) ((b : Int) * 2 ^ (7 * k) % 18446744073709551616) = ((v + 128 ^ k * b : Nat) : Int) := by
  have hf := VIn.fits hv hb hk
  have e2 : (b : Int) * 2 ^ (7 * k) = ((b * 2 ^ (7 * k) : Nat) : Int) := by simp
  have e0 : 128 ^ k * b = b * 2 ^ (7 * k) := by rw [pow128, Nat.mul_comm]
  rw [e2, show (((b * 2 ^ (7 * k) : Nat) : Int) % 18446744073709551616) = ((b * 2 ^ (7 * k) : Nat) : Int) from Int.emod_eq_of_lt (by omega) (by omega),
    u64_or_nat v (b * 2 ^ (7 * k)) (by omega) (by omega), Nat.or_comm, or_shl b v (7 * k) (by rw [← pow128]; exact hv), e0, Nat.add_comm]
theorem or_step2 {k v b : Nat} (hv : v < 128 ^ k) (h8 : b < 256) (hk : k ≤ 8 ∨ (k ≤ 9 ∧ b % 128 ≤ 1)) :
    bits .or .u64 (v : Int) (IntKind.u64.wrap (IntKind.u64.wrap (bits .andNot .u8 (b : Int) 128) * 2 ^ (7 * k))) = ((v + 128 ^ k * (b % 128) : Nat) : Int) := by
  rw [andNot128 b h8, IntKind.wrap_u64, IntKind.wrap_u64, show (((b % 128 : Nat) : Int) % 18446744073709551616) = ((b % 128 : Nat) : Int) from by omega]
  exact or_step hv (by omega) hk

end Go.Hm

namespace Go.Proofs.Ythmjbdpkdomofaa
open Go.RowKit Go.Hm

end Go.Proofs.Ythmjbdpkdomofaa
/- What is read off bytes, step by step, as plain functions: the state is what is left, or none if bad. No program is named here. -/

namespace Go.Hm
theorem vq_lt {N b : Nat} {r s : List Nat} (h : b :: s = vp N ++ r) (hb : b < 128) : N = b ∧ r = s := by
  by_cases hN : N < 128
  · rw [vp_lt hN] at h; simp at h; exact ⟨h.1.symm, h.2.symm⟩
  · rw [vp_ge hN] at h; simp at h; omega
theorem vq_ge {N b : Nat} {r s : List Nat} (h : b :: s = vp N ++ r) (hb : 128 ≤ b) : N % 128 + 128 = b ∧ 0 < N / 128 ∧ s = vp (N / 128) ++ r := by
  by_cases hN : N < 128
  · rw [vp_lt hN] at h; simp at h; omega
  · rw [vp_ge hN] at h; simp at h; exact ⟨h.1.symm, by omega, h.2⟩
/-- A number of at most f bytes. -/
def pv : Nat → List Nat → Option (Nat × List Nat)
  | 0, _ => none
  | _ + 1, [] => none
  | f + 1, b :: r => if b < 128 then some (b, r) else
      match pv f r with
      | some (0, _) => none
      | some (N + 1, r') => some (b - 128 + 128 * (N + 1), r')
      | none => none
theorem pv_app : ∀ (f N : Nat) (r : List Nat), (vp N).length ≤ f → pv f (vp N ++ r) = some (N, r) := by
  intro f
  induction f with
  | zero => intro N r h; have := vp_pos N; omega
  | succ f ih =>
    intro N r h
    by_cases hN : N < 128
    · rw [vp_lt hN]; simp [pv, hN]
    · rw [vp_ge hN] at h ⊢
      simp only [List.cons_append, pv]
      rw [if_neg (by omega), ih (N / 128) r (by simpa using h)]
      obtain ⟨m, hm⟩ : ∃ m, N / 128 = m + 1 := ⟨N / 128 - 1, by omega⟩
      simp only [hm]
      congr 2
      omega
theorem pv_some : ∀ (f N : Nat) (l r : List Nat), (∀ x ∈ l, x < 256) → pv f l = some (N, r) → l = vp N ++ r ∧ (vp N).length ≤ f := by
  intro f
  induction f with
  | zero => intro N l r _ h; simp [pv] at h
  | succ f ih =>
    intro N l r h8 h
    cases l with
    | nil => simp [pv] at h
    | cons b s =>
      simp only [pv] at h
      by_cases hb : b < 128
      · rw [if_pos hb] at h
        simp only [Option.some.injEq, Prod.mk.injEq] at h
        obtain ⟨rfl, rfl⟩ := h
        rw [vp_lt hb]; simp
      · rw [if_neg hb] at h
        split at h
        · simp at h
        · rename_i M r' hM
          simp only [Option.some.injEq, Prod.mk.injEq] at h
          obtain ⟨rfl, rfl⟩ := h
          obtain ⟨h1, h2⟩ := ih _ _ _ (fun x hx => h8 x (by simp [hx])) hM
          have hb2 := h8 b (by simp)
          rw [vp_ge (by omega), show (b - 128 + 128 * (M + 1)) / 128 = M + 1 by omega, show (b - 128 + 128 * (M + 1)) % 128 + 128 = b by omega, List.cons_append, ← h1]
          refine ⟨rfl, by simp; exact h2⟩
        · simp at h
/-- The number that l begins with, and what is behind it. -/
def gv (l : List Nat) : Option (Nat × List Nat) :=
  match pv 10 l with
  | some (N, r) => if N < 18446744073709551616 then some (N, r) else none
  | none => none
theorem gv_app (N : Nat) (r : List Nat) (hN : N < 18446744073709551616) : gv (vp N ++ r) = some (N, r) := by
  unfold gv
  rw [pv_app 10 N r (vp_len10 hN)]
  simp [hN]
theorem gv_some {l r : List Nat} {N : Nat} (h8 : ∀ x ∈ l, x < 256) (h : gv l = some (N, r)) : l = vp N ++ r ∧ N < 18446744073709551616 := by
  unfold gv at h
  split at h
  · rename_i M s hM
    split at h
    · simp only [Option.some.injEq, Prod.mk.injEq] at h
      obtain ⟨rfl, rfl⟩ := h
      exact ⟨(pv_some _ _ _ _ h8 hM).1, ‹_›⟩
    · cases h
  · cases h
theorem gv_none {l : List Nat} (h : gv l = none) : ∀ N r, l = vp N ++ r → 18446744073709551616 ≤ N := by
  intro N r hl
  rcases Nat.lt_or_ge N 18446744073709551616 with hN | hN
  · rw [hl, gv_app N r hN] at h
    cases h
  · exact hN

/-- The states: what is left; none: bad. -/
abbrev St := Option (List Nat)
def getS : St → Nat × St
  | none => (0, none)
  | some l => match gv l with
    | some (N, r) => (N, some r)
    | none => (0, none)
def lenS (m : Int) (S : St) : Nat × St :=
  match getS S with
  | (N, some r) => if (N : Int) ≤ m then (N, some r) else (0, none)
  | (_, none) => (0, none)
def byteS : St → Nat × St
  | some (b :: r) => (b, some r)
  | _ => (0, none)
def takeS (n : Int) : St → List Nat × St
  | some l => if 0 ≤ n ∧ n ≤ (l.length : Int) then (l.take n.toNat, some (l.drop n.toNat)) else ([], none)
  | none => ([], none)
def endS (S : St) : Bool := decide (S = some [])
/-- All that is left are bytes. -/
def St.ok (S : St) : Prop := ∀ l, S = some l → ∀ x ∈ l, x < 256
theorem St.ok_none : St.ok none := fun _ h => by cases h
theorem St.ok_some {l : List Nat} (h : ∀ x ∈ l, x < 256) : St.ok (some l) := fun _ e => by injection e with e; subst e; exact h

theorem getS_app (N : Nat) (r : List Nat) (hN : N < 18446744073709551616) : getS (some (vp N ++ r)) = (N, some r) := by simp [getS, gv_app N r hN]
theorem lenS_app (N : Nat) (r : List Nat) {m : Int} (hN : (N : Int) ≤ m) (hm : m ≤ 9223372036854775807) : lenS m (some (vp N ++ r)) = (N, some r) := by
  simp only [lenS, getS_app N r (by omega), if_pos hN]
theorem lenS_none (m : Int) : lenS m none = (0, none) := rfl
theorem getS_none : getS none = (0, none) := rfl
theorem byteS_none : byteS none = (0, none) := rfl
theorem takeS_none (n : Int) : takeS n none = ([], none) := rfl
theorem lenS_cases (m : Int) (S : St) (hS : S.ok) : lenS m S = (0, none) ∨ ∃ N r, S = some (vp N ++ r) ∧ (N : Int) ≤ m ∧ N < 18446744073709551616 ∧ lenS m S = (N, some r) := by
  unfold lenS getS
  cases S with
  | none => exact .inl rfl
  | some l =>
    simp only
    cases hg : gv l with
    | none => exact .inl rfl
    | some p =>
      obtain ⟨N, r⟩ := p
      obtain ⟨h1, h2⟩ := gv_some (hS l rfl) hg
      simp only
      split
      · exact .inr ⟨N, r, by rw [h1], ‹_›, h2, rfl⟩
      · exact .inl rfl
theorem getS_cases (S : St) (hS : S.ok) : getS S = (0, none) ∨ ∃ N r, S = some (vp N ++ r) ∧ N < 18446744073709551616 ∧ getS S = (N, some r) := by
  unfold getS
  cases S with
  | none => exact .inl rfl
  | some l =>
    simp only
    cases hg : gv l with
    | none => exact .inl rfl
    | some p =>
      obtain ⟨N, r⟩ := p
      obtain ⟨h1, h2⟩ := gv_some (hS l rfl) hg
      exact .inr ⟨N, r, by rw [h1], h2, rfl⟩
theorem takeS_cases (n : Int) (S : St) : takeS n S = ([], none) ∨ ∃ l, S = some l ∧ 0 ≤ n ∧ n ≤ (l.length : Int) ∧ takeS n S = (l.take n.toNat, some (l.drop n.toNat)) := by
  unfold takeS
  cases S with
  | none => exact .inl rfl
  | some l =>
    simp only
    split
    · rename_i h; exact .inr ⟨l, rfl, h.1, h.2, rfl⟩
    · exact .inl rfl
theorem takeS_app (a b : List Nat) : takeS (a.length : Int) (some (a ++ b)) = (a, some b) := by
  simp only [takeS]
  rw [if_pos ⟨by omega, by rw [List.length_append]; omega⟩]
  simp
theorem lenS_le {m : Int} (S : St) (hm : 0 ≤ m) (hS : S.ok) : ((lenS m S).1 : Int) ≤ m := by
  rcases lenS_cases m S hS with h | ⟨N, r, _, h1, _, h⟩
  · rw [h]; exact hm
  · rw [h]; exact h1
theorem lenS_ok {m : Int} {S : St} (hS : S.ok) : (lenS m S).2.ok := by
  rcases lenS_cases m S hS with h | ⟨N, r, h0, _, _, h⟩
  · rw [h]; exact St.ok_none
  · rw [h]; exact St.ok_some fun x hx => hS _ h0 x (by simp [hx])
theorem getS_ok {S : St} (hS : S.ok) : (getS S).2.ok := by
  rcases getS_cases S hS with h | ⟨N, r, h0, _, h⟩
  · rw [h]; exact St.ok_none
  · rw [h]; exact St.ok_some fun x hx => hS _ h0 x (by simp [hx])
theorem getS_lt {S : St} (hS : S.ok) : (getS S).1 < 18446744073709551616 := by
  rcases getS_cases S hS with h | ⟨N, r, h0, h1, h⟩
  · rw [h]; decide
  · rw [h]; exact h1
theorem byteS_ok {S : St} (hS : S.ok) : (byteS S).2.ok := by
  unfold byteS
  split
  · exact St.ok_some fun x hx => hS _ rfl x (by simp [hx])
  · exact St.ok_none
theorem byteS_lt {S : St} (hS : S.ok) : (byteS S).1 < 256 := by
  unfold byteS
  split
  · exact hS _ rfl _ (by simp)
  · decide
theorem takeS_ok {n : Int} {S : St} (hS : S.ok) : (takeS n S).2.ok ∧ ∀ x ∈ (takeS n S).1, x < 256 := by
  rcases takeS_cases n S with h | ⟨l, h0, _, _, h⟩
  · rw [h]; exact ⟨St.ok_none, by simp⟩
  · rw [h]; exact ⟨St.ok_some fun x hx => hS _ h0 x (List.mem_of_mem_drop hx), fun x hx => hS _ h0 x (List.mem_of_mem_take hx)⟩
theorem takeS_len {n : Int} {S : St} (hn : 0 ≤ n) : ((takeS n S).1.length : Int) ≤ n := by
  rcases takeS_cases n S with h | ⟨l, _, h1, h2, h⟩
  · rw [h]; simpa using hn
  · rw [h, List.length_take]; omega
theorem lenS_sub {m : Int} {S : St} (hS : S.ok) : ((lenS m S).2.getD []).length ≤ (S.getD []).length := by
  rcases lenS_cases m S hS with h | ⟨N, r, rfl, _, _, h⟩
  · rw [h]; simp
  · rw [h]; simp
theorem byteS_sub {S : St} : ((byteS S).2.getD []).length ≤ (S.getD []).length := by
  unfold byteS
  split <;> simp

end Go.Hm
/- The cursors' contracts by states. -/

namespace Go.Proofs.Ythmjbdpkdomofaa
open Go.RowKit Go.Hm

end Go.Proofs.Ythmjbdpkdomofaa
/- Queries as plain data. No program is named here. -/
open Go

namespace Go.Hm
/-- Columns that may be asked for: there, and once. -/
def okCols (l : List Int) : Prop := (∀ c ∈ l, 0 ≤ c ∧ c < 64) ∧ l.Nodup
instance (l : List Int) : Decidable (okCols l) := by unfold okCols; exact inferInstance
def qmay (l : List Int) (f t : Int) : Bool := decide ((0 ≤ f ∧ f ≤ t ∧ t ≤ 65536) ∧ okCols l)
/-- Which of 64 columns are among these. -/
def seenB (l : List Int) : List Value := (List.range 64).map fun i : Nat => Value.bool (decide ((i : Int) ∈ l))
theorem seenB_length (l : List Int) : (seenB l).length = 64 := by simp [seenB]
theorem seenB_nil : seenB [] = List.replicate 64 (.bool false) := by simp [seenB, List.map_const']
theorem seenB_at (l : List Int) (i : Nat) (h : i < 64) : (seenB l)[i]? = some (.bool (decide ((i : Int) ∈ l))) := by simp [seenB, h]
theorem seenB_set (l : List Int) (i : Nat) (h : i < 64) : (seenB l).set i (.bool true) = seenB (l ++ [(i : Int)]) := by
  refine List.ext_getElem? fun j => ?_
  rw [List.getElem?_set]
  by_cases hj : j < 64
  · rw [seenB_at _ j hj, seenB_at _ j hj, seenB_length]
    by_cases e : i = j
    · subst e; simp [h]
    · rw [if_neg e]
      congr 3
      simp only [List.mem_append, List.mem_singleton, eq_iff_iff]
      constructor
      · exact .inl
      · rintro (h1 | h1)
        · exact h1
        · omega
  · have h1 : (seenB l)[j]? = none := List.getElem?_eq_none (by rw [seenB_length]; omega)
    have h2 : (seenB (l ++ [(i : Int)]))[j]? = none := List.getElem?_eq_none (by rw [seenB_length]; omega)
    rw [h1, h2, seenB_length]
    split
    · omega
    · rfl
theorem okCols_take {l : List Int} (h : okCols l) (k : Nat) : okCols (l.take k) := ⟨fun c hc => h.1 c (List.mem_of_mem_take hc), h.2.sublist (List.take_sublist _ _)⟩
theorem okCols_snoc (l : List Int) (c : Int) : okCols (l ++ [c]) ↔ okCols l ∧ (0 ≤ c ∧ c < 64) ∧ c ∉ l := by
  unfold okCols
  rw [List.nodup_append]
  constructor
  · rintro ⟨h1, h2, _, h3⟩
    exact ⟨⟨fun x hx => h1 x (by simp [hx]), h2⟩, h1 c (by simp), fun hm => h3 c hm c (by simp) rfl⟩
  · rintro ⟨⟨h1, h2⟩, h3, h4⟩
    refine ⟨fun x hx => ?_, h2, by simp, fun a ha b hb => ?_⟩
    · rcases List.mem_append.1 hx with hx | hx
      · exact h1 x hx
      · rw [List.mem_singleton] at hx; subst hx; exact h3
    · rw [List.mem_singleton] at hb; subst hb
      rintro rfl; exact h4 ha
theorem filter_both {α : Type} (p : α → Bool) (l : List α) : l.length = (l.filter p).length + (l.filter fun c => !p c).length := by
  induction l with
  | nil => rfl
  | cons x l ih =>
    rw [List.filter_cons, List.filter_cons, List.length_cons, ih]
    cases p x <;> simp <;> omega
theorem okCols_len {l : List Int} (h : okCols l) : l.length ≤ 64 := by
  have key : ∀ (m : Nat) (l : List Int), (∀ c ∈ l, 0 ≤ c ∧ c < (m : Int)) → l.Nodup → l.length ≤ m := by
    intro m
    induction m with
    | zero =>
      intro l h1 _
      cases l with
      | nil => simp
      | cons c l => have := h1 c (by simp); omega
    | succ m ih =>
      intro l h1 h2
      have h3 := ih (l.filter fun c => decide (c ≠ (m : Int))) (fun c hc => by
        simp only [List.mem_filter, decide_eq_true_eq] at hc
        have := h1 c hc.1
        omega) (h2.sublist List.filter_sublist)
      have h4 : l.length ≤ (l.filter fun c => decide (c ≠ (m : Int))).length + 1 := by
        have h5 := filter_both (fun c => decide (c ≠ (m : Int))) l
        have h6 : (l.filter fun c => !decide (c ≠ (m : Int))).length ≤ 1 := by
          have e : (l.filter fun c => !decide (c ≠ (m : Int))) = l.filter (· == (m : Int)) := by
            refine List.filter_congr fun c _ => ?_
            rw [Bool.eq_iff_iff]; simp
          rw [e, ← List.count_eq_length_filter]
          exact List.nodup_iff_count.1 h2 _
        omega
      omega
  exact key 64 l h.1 h.2
theorem Blk.new1 (w : World) (o : Obj) (t : TypeId) (cs : Array Value) : Blk ((w.alloc o).alloc (.cells cs t)) (w.heap.size + 1) t cs := by
  have := Blk.new (w.alloc o) t cs
  have e : (w.alloc o).heap.size = w.heap.size + 1 := by simp
  rwa [e] at this
/-- The bytes of columns. -/
def catI (l : List Int) : List Nat := l.flatMap fun c => vp c.toNat
theorem catI_nil : catI [] = [] := rfl
theorem catI_cons (c : Int) (l : List Int) : catI (c :: l) = vp c.toNat ++ catI l := rfl
theorem catI_snoc (l : List Int) (c : Int) : catI (l ++ [c]) = catI l ++ vp c.toNat := by simp [catI]
theorem catI_len (l : List Int) (h : ∀ c ∈ l, 0 ≤ c ∧ c < 64) : (catI l).length = l.length := by
  induction l with
  | nil => rfl
  | cons c l ih =>
    have h1 := h c (by simp)
    rw [catI_cons, List.length_append, ih (fun x hx => h x (by simp [hx])), vp_lt (by omega)]; simp; omega
def qenc (l : List Int) (f t : Int) : List Nat := vp l.length ++ catI l ++ vp f.toNat ++ vp t.toNat
def encQ (l : List Int) (f t : Int) : Option (List Nat) := if qmay l f t then some (qenc l f t) else none
/-- Columns read. -/
def qcols : Nat → St → List Int × St
  | 0, S => ([], S)
  | n + 1, S => (((lenS 63 S).1 : Int) :: (qcols n (lenS 63 S).2).1, (qcols n (lenS 63 S).2).2)
theorem qcols_none (n : Nat) : (qcols n none).2 = none := by
  induction n with
  | zero => rfl
  | succ n ih => simp only [qcols, lenS_none, ih]
theorem qcols_ok {n : Nat} {S : St} (hS : S.ok) : (qcols n S).2.ok := by
  induction n generalizing S with
  | zero => exact hS
  | succ n ih => exact ih (lenS_ok hS)
theorem qcols_len (n : Nat) (S : St) : (qcols n S).1.length = n := by
  induction n generalizing S with
  | zero => rfl
  | succ n ih => simp only [qcols, List.length_cons, ih]
theorem qcols_bd {n : Nat} {S : St} (hS : S.ok) : ∀ c ∈ (qcols n S).1, 0 ≤ c ∧ c < 64 := by
  induction n generalizing S with
  | zero => simp [qcols]
  | succ n ih =>
    intro c hc
    simp only [qcols, List.mem_cons] at hc
    rcases hc with rfl | hc
    · have := lenS_le (m := 63) S (by omega) hS; omega
    · exact ih (lenS_ok hS) c hc
theorem qcols_app : ∀ (l : List Int) (r : List Nat), (∀ c ∈ l, 0 ≤ c ∧ c < 64) → qcols l.length (some (catI l ++ r)) = (l, some r) := by
  intro l
  induction l with
  | nil => intro r _; rfl
  | cons c l ih =>
    intro r h
    have h1 := h c (by simp)
    have e : lenS 63 (some (catI (c :: l) ++ r)) = (c.toNat, some (catI l ++ r)) := by
      rw [catI_cons, List.append_assoc]
      exact lenS_app _ _ (by omega) (by omega)
    simp only [List.length_cons, qcols, e, ih r (fun x hx => h x (by simp [hx]))]
    rw [Int.toNat_of_nonneg h1.1]
theorem qcols_spec : ∀ (n : Nat) (S : St) (r : List Nat), S.ok → (qcols n S).2 = some r → S = some (catI (qcols n S).1 ++ r) := by
  intro n
  induction n with
  | zero => intro S r _ h; simpa [qcols, catI] using h
  | succ n ih =>
    intro S r hS h
    simp only [qcols] at h ⊢
    rcases lenS_cases 63 S hS with e | ⟨N, r1, rfl, _, _, e⟩
    · rw [e, qcols_none] at h; cases h
    · rw [e] at h ⊢
      simp only at h ⊢
      have hr1 : St.ok (some r1) := St.ok_some fun x hx => hS _ rfl x (by simp [hx])
      have := ih (some r1) r hr1 h
      injection this with this
      rw [catI_cons, Int.toNat_natCast, List.append_assoc, ← this]
def decQ (b : List Nat) : Option (List Int × Int × Int) :=
  let x := lenS 64 (some b)
  let y := qcols x.1 x.2
  let f := lenS 65536 y.2
  let t := lenS 65536 f.2
  if endS t.2 = true ∧ qmay y.1 (f.1 : Int) (t.1 : Int) = true then some (y.1, (f.1 : Int), (t.1 : Int)) else none
theorem qmay_iff (l : List Int) (f t : Int) : qmay l f t = true ↔ (0 ≤ f ∧ f ≤ t ∧ t ≤ 65536) ∧ okCols l := by simp [qmay]
theorem decQ_iff {b : List Nat} {l : List Int} {f t : Int} (h8 : ∀ x ∈ b, x < 256) : decQ b = some (l, f, t) ↔ encQ l f t = some b := by
  constructor
  · intro h
    unfold decQ at h
    simp only at h
    split at h
    · rename_i hc
      simp only [Option.some.injEq, Prod.mk.injEq] at h
      obtain ⟨h1, h2, h3⟩ := h
      obtain ⟨c1, c2⟩ := hc
      rw [h1, h2, h3] at c2
      unfold encQ
      rw [if_pos c2]
      simp only [endS, decide_eq_true_eq] at c1
      have hS0 := St.ok_some h8
      rcases lenS_cases 64 (some b) hS0 with e | ⟨N, r1, e0, _, _, e⟩
      · rw [e] at c1; simp only [qcols_none, lenS_none] at c1; cases c1
      · rw [e] at c1 h1 h2 h3
        simp only at c1 h1 h2 h3
        have hr1 : St.ok (some r1) := by have := lenS_ok (m := 64) hS0; rwa [e] at this
        have hS1 := qcols_ok (n := N) hr1
        rcases lenS_cases 65536 (qcols N (some r1)).2 hS1 with e2 | ⟨F, r2, e20, _, _, e2⟩
        · rw [e2] at c1; simp only [lenS_none] at c1; cases c1
        · rw [e2] at c1 h2 h3
          simp only at c1 h2 h3
          have hr2 : St.ok (some r2) := by have := lenS_ok (m := 65536) hS1; rwa [e2] at this
          rcases lenS_cases 65536 (some r2) hr2 with e3 | ⟨T, r3, e30, _, _, e3⟩
          · rw [e3] at c1; cases c1
          · rw [e3] at c1 h3
            simp only at c1 h3
            injection c1 with c1
            subst c1
            have q := qcols_spec N (some r1) _ hr1 e20
            have ql := qcols_len N (some r1)
            rw [h1] at q ql
            injection q with q
            injection e30 with e30
            injection e0 with e0
            subst h2 h3
            unfold qenc
            rw [e0, q, e30, ql]
            simp [List.append_assoc]
    · cases h
  · intro h
    unfold encQ at h
    split at h
    · rename_i hm
      injection h with h
      obtain ⟨⟨h1, h2, h3⟩, h4⟩ := (qmay_iff l f t).1 hm
      have hl := okCols_len h4
      have e1 : lenS 64 (some b) = (l.length, some (catI l ++ (vp f.toNat ++ vp t.toNat))) := by
        rw [← h, qenc, List.append_assoc, List.append_assoc]
        exact lenS_app _ _ (by omega) (by omega)
      have e2 := qcols_app l (vp f.toNat ++ vp t.toNat) h4.1
      have e3 : lenS 65536 (some (vp f.toNat ++ vp t.toNat)) = (f.toNat, some (vp t.toNat)) := lenS_app _ _ (by omega) (by omega)
      have e4 : lenS 65536 (some (vp t.toNat)) = (t.toNat, some []) := by
        have := lenS_app (m := 65536) t.toNat [] (by omega) (by omega)
        rwa [List.append_nil] at this
      unfold decQ
      simp only [e1, e2, e3, e4, Int.toNat_of_nonneg h1, Int.toNat_of_nonneg (show 0 ≤ t by omega)]
      rw [if_pos ⟨by simp [endS], hm⟩]
    · cases h
theorem ints_snoc (k : IntKind) (l : List Int) (x : Int) : ints k (l ++ [x]) = ints k l ++ [.int k x] := by simp [ints]
theorem ints_take (k : IntKind) (l : List Int) (i : Nat) : (ints k l).take i = ints k (l.take i) := by simp [ints]
theorem getD_memI {L : List Int} {k : Nat} {Q : Int → Prop} (h : ∀ x ∈ L, Q x) (hk : k < L.length) : Q (L.getD k 0) := by
  rw [List.getD_eq_getElem?_getD, List.getElem?_eq_getElem hk]
  exact h _ (List.getElem_mem hk)

end Go.Hm
/- Contracts of package query: which queries may be. -/

namespace Go.Proofs.Ythmjbdpkdomofaa
open Go.RowKit Go.Hm
/-- A query. -/
abbrev Qv (A : Option Addr) (n c : Nat) (f t : Int) : Value := .agg #[.slice A n c, .int .i64 f, .int .i64 t]

set_option maxHeartbeats 2000000 in
set_option maxRecDepth 100000 in
theorem may_any {w : World} {A : Option Addr} {n c : Nat} {L : List Int} {f t : Int} (h : Reads w w.heap.size 1 A n (ints .i64 L)) (hn : n ≤ 9223372036854775806) (hL : ∀ x ∈ L, -9223372036854775808 ≤ x ∧ x ≤ 9223372036854775807) :
    Calls Try.prog 54 #[Qv A n c f t] w (NewPost (.bool (qmay L f t)) w) := by
  obtain rfl := h.lenI
  by_cases hg : 0 ≤ f ∧ f ≤ t ∧ t ≤ 65536
  · have d1 : decide (f < 0) = false := by simp; omega
    have d2 : decide (t < f) = false := by simp; omega
    have d3 : decide (65536 < t) = false := by simp; omega
    have HG := Lib.hid hg
    clear hg
    go_enter Try.func54, Try.ntmps54
    go_wp2
    go_loopw [24] (fun i wr => ∃ k : Nat, k ≤ L.length ∧ i = .int .i64 (k : Int) ∧ Hid (okCols (L.take k)) ∧ Blk wr (w.heap.size + 1) 90 (seenB (L.take k)).toArray ∧ New w wr) (fun i _ => L.length - (intOf i).toNat)
    case atStart => exact ⟨0, by omega, rfl, Lib.hid ⟨by simp, by simp⟩, by rw [List.take_zero, seenB_nil]; exact Blk.new1 _ _ _ _, ((Below.refl _ _).alloc (Nat.le_refl _) _).alloc (by simp) _⟩
    case round =>
      obtain ⟨k, hk, rfl, HO, HB, hb⟩ := hrel
      by_cases hlt : k < L.length
      · obtain ⟨ad, rfl, hbk, hcell⟩ := (h.below hb).int hlt
        have T := take_snoc L k 0 hlt
        have hx := getD_memI hL hlt
        have ON := okCols_snoc (L.take k) (L.getD k 0)
        rw [← T] at ON
        have HT := Lib.hid T
        have no : ¬ okCols (L.take (k + 1)) → qmay L f t = false := fun hno => decide_eq_false fun hh => hno (okCols_take hh.2 _)
        clear T
        generalize L.getD k 0 = y at *
        have HN := Lib.hid no
        have HON := Lib.hid ON
        clear ON no
        by_cases h1 : 0 ≤ y ∧ y < 64
        · obtain ⟨y, rfl⟩ := Int.eq_ofNat_of_zero_le h1.1
          have hc := HB.cell y
          rw [List.getElem?_toArray, seenB_at _ y (by omega)] at hc
          have hf := HB.frozen y
          have e1 : decide ((y : Int) < 0) = false := by simp
          have e2 : decide ((64 : Int) ≤ (y : Int)) = false := by simp; omega
          have e3 : (y : Int) < 64 := h1.2
          have e4 : (0 : Int) ≤ (y : Int) := by omega
          have HB2 := Lib.hid HB
          by_cases hm : (y : Int) ∈ L.take k
          · rw [decide_eq_true hm] at hc
            have F := Lib.hid (HN.out fun hh => (HON.out.1 hh).2.2 hm)
            clear hm h1 HB
            go_wp2
            go_ret
            exact ⟨by rw [F.out]; rfl, hb⟩
          · rw [decide_eq_false hm] at hc
            have HO2 := Lib.hid (HON.out.2 ⟨HO.out, h1, hm⟩)
            clear hm h1 HB
            go_wp2
            go_roundw
            case rel => exact ⟨k + 1, by omega, by go_num, HO2, by
              have := HB2.out.set_ y (.bool true)
              rw [List.setIfInBounds_toArray, seenB_set _ y (by omega), ← HT.out] at this
              exact this, hb.setCell (show w.heap.size ≤ w.heap.size + 1 by omega) _⟩
            case measure => simp [intOf]; omega
        · have F := Lib.hid (HN.out fun hh => h1 (HON.out.1 hh).2.1)
          have h2 : y < 0 ∨ 64 ≤ y := by omega
          clear HB HN HON
          by_cases h3 : y < 0
          all_goals first
            | (have e1 : decide (y < 0) = true := by simpa using h3)
            | (have e1 : decide (y < 0) = false := by simpa using h3
               have e2 : decide (64 ≤ y) = true := by simp; omega)
          all_goals
            clear h1 h2
            go_wp2
            go_ret
            exact ⟨by rw [F.out]; rfl, hb⟩
      · obtain rfl : k = L.length := by omega
        have F := Lib.hid (show qmay L f t = true from decide_eq_true ⟨HG.out, by have := HO.out; rwa [List.take_length] at this⟩)
        clear HB
        go_wp2
        go_ret
        exact ⟨by rw [F.out]; rfl, hb⟩
  · have F := Lib.hid (show qmay L f t = false from decide_eq_false fun hh => hg hh.1)
    have b1 : New w (w.alloc (.cells #[.slice A L.length c, .int .i64 f, .int .i64 t] 28)) := (Below.refl _ _).alloc (Nat.le_refl _) _
    by_cases h1 : f < 0
    all_goals try (by_cases h2 : t < f)
    all_goals try (have h3 : 65536 < t := by omega)
    all_goals
      clear hg
      go_enter Try.func54, Try.ntmps54
      go_wp2
      go_ret
      exact ⟨by rw [F.out]; rfl, b1⟩

end Go.Proofs.Ythmjbdpkdomofaa
/- Contracts of package query: queries as bytes. -/

namespace Go.Proofs.Ythmjbdpkdomofaa
open Go.RowKit Go.Hm

end Go.Proofs.Ythmjbdpkdomofaa
/- Queries that fit: package query and its answer. -/

namespace Go.Hm
/-- Places below many, each once. -/
def okM (l : List Int) (many : Int) : Prop := (∀ c ∈ l, 0 ≤ c ∧ c < many) ∧ l.Nodup
instance (l : List Int) (m : Int) : Decidable (okM l m) := by unfold okM; exact inferInstance
def fitsB (l : List Int) (f t many rows : Int) : Bool := decide (okM l many ∧ 0 ≤ f ∧ f ≤ t ∧ t ≤ rows)
theorem okM_take {l : List Int} {m : Int} (h : okM l m) (k : Nat) : okM (l.take k) m := ⟨fun c hc => h.1 c (List.mem_of_mem_take hc), h.2.sublist (List.take_sublist _ _)⟩
theorem okM_snoc (l : List Int) (c m : Int) : okM (l ++ [c]) m ↔ okM l m ∧ (0 ≤ c ∧ c < m) ∧ c ∉ l := by
  unfold okM
  rw [List.nodup_append]
  constructor
  · rintro ⟨h1, h2, _, h3⟩
    exact ⟨⟨fun x hx => h1 x (by simp [hx]), h2⟩, h1 c (by simp), fun hm => h3 c hm c (by simp) rfl⟩
  · rintro ⟨⟨h1, h2⟩, h3, h4⟩
    refine ⟨fun x hx => ?_, h2, by simp, fun a ha b hb => ?_⟩
    · rcases List.mem_append.1 hx with hx | hx
      · exact h1 x hx
      · rw [List.mem_singleton] at hx; subst hx; exact h3
    · rw [List.mem_singleton] at hb; subst hb
      rintro rfl; exact h4 ha
theorem qmay_fits (l : List Int) (f t : Int) : qmay l f t = fitsB l f t 64 65536 := by
  rw [Bool.eq_iff_iff, qmay_iff]
  simp only [fitsB, decide_eq_true_eq]
  exact ⟨fun h => ⟨h.2, h.1⟩, fun h => ⟨h.2, h.1⟩⟩
theorem qmay_few (l : List Int) (f t : Int) (h : 64 < l.length) : qmay l f t = false := by
  rw [Bool.eq_false_iff, Ne, qmay_iff]
  intro hh
  have := okCols_len hh.2
  omega
/-- A query of the file of so many columns and rows. -/
def qfits (l : List Int) (f t many rows : Int) : Bool := qmay l f t && fitsB l f t many rows
theorem qfits_iff (l : List Int) (f t many rows : Int) : qfits l f t many rows = true ↔ qmay l f t = true ∧ t ≤ rows ∧ ∀ c ∈ l, c < many := by
  simp only [qfits, Bool.and_eq_true, fitsB, decide_eq_true_eq, qmay_iff]
  unfold okM okCols
  constructor
  · rintro ⟨h1, ⟨h2, _⟩, _, _, h3⟩
    exact ⟨h1, h3, fun c hc => (h2 c hc).2⟩
  · rintro ⟨⟨⟨h1, h2, h3⟩, h4, h5⟩, h6, h7⟩
    exact ⟨⟨⟨h1, h2, h3⟩, h4, h5⟩, ⟨fun c hc => ⟨(h4 c hc).1, h7 c hc⟩, h5⟩, h1, h2, h6⟩

end Go.Hm

namespace Go.Proofs.Ythmjbdpkdomofaa
open Go.RowKit Go.Hm

set_option maxHeartbeats 2000000 in
set_option maxRecDepth 100000 in
theorem fits7_any {w : World} {A : Option Addr} {n c : Nat} {L : List Int} {f t many rows : Int} (h : Reads w w.heap.size 1 A n (ints .i64 L)) (hn : n ≤ 9223372036854775806) :
    Calls Try.prog 36 #[.slice A n c, .int .i64 f, .int .i64 t, .int .i64 many, .int .i64 rows] w (NewPost (.bool (fitsB L f t many rows)) w) := by
  obtain rfl := h.lenI
  generalize hO : fitsB L f t many rows = O
  have HO := Lib.hid hO
  clear hO
  go_enter Try.func36, Try.ntmps36
  go_wp2
  go_loopw [11] (fun i wr => ∃ k : Nat, k ≤ L.length ∧ i = .int .i64 (k : Int) ∧ Hid (okM (L.take k) many) ∧ New w wr) (fun i _ => L.length - (intOf i).toNat)
  case atStart => exact ⟨0, by omega, rfl, Lib.hid ⟨by simp, by simp⟩, Below.refl _ _⟩
  case round =>
    obtain ⟨k, hk, rfl, HK, hb⟩ := hrel
    by_cases hlt : k < L.length
    · obtain ⟨ad, hA, hbk, hcell⟩ := (h.below hb).int hlt
      subst hA
      have T := take_snoc L k 0 hlt
      have ON := okM_snoc (L.take k) (L.getD k 0) many
      rw [← T] at ON
      have no : ¬ okM (L.take (k + 1)) many → O = false := fun hno => by rw [← HO.out]; exact decide_eq_false fun hh => hno (okM_take hh.1 _)
      have HY := Lib.hid (show L.getD k 0 = L.getD k 0 from rfl)
      clear T
      generalize hy : L.getD k 0 = y at *
      have HN := Lib.hid no
      have HON := Lib.hid ON
      have HYY := Lib.hid hy
      clear ON no hy HY
      by_cases h1 : 0 ≤ y ∧ y < many
      · have e1 : decide (y < 0) = false := by simp; omega
        have e2 : decide (many ≤ y) = false := by simp; omega
        have H1 := Lib.hid h1
        clear h1
        go_wp2
        obtain ⟨wo, rfl⟩ : ∃ wo : World, wo = wr := ⟨_, rfl⟩
        go_loopw [12] (fun i wr => ∃ j : Nat, j ≤ k ∧ i = .int .i64 (j : Int) ∧ Hid (y ∉ L.take j) ∧ New w wr) (fun i _ => k - (intOf i).toNat)
        case atStart => exact ⟨0, by omega, rfl, Lib.hid (by simp), hb⟩
        case round =>
          obtain ⟨j, hj, rfl, HJ, hb⟩ := hrel
          by_cases hlj : j < k
          · obtain ⟨ad1, e1', _, hc1⟩ := (h.below hb).int (i := j) (by omega)
            injection e1' with e1'
            subst e1'
            obtain ⟨ad2, e2', _, hc2⟩ := (h.below hb).int hlt
            injection e2' with e2'
            subst e2'
            rw [HYY.out] at hc2
            have T := take_snoc L j 0 (by omega)
            have g1 : (0 : Int) ≤ (j : Int) := by omega
            have g2 : (j : Int) < (L.length : Int) := by omega
            have g3 : (0 : Int) ≤ (k : Int) := by omega
            have g4 : (k : Int) < (L.length : Int) := by omega
            by_cases he : L.getD j 0 = y
            · have F := HN.out fun hh => (HON.out.1 hh).2.2 (by
                rw [← he, List.getD_eq_getElem?_getD, List.getElem?_eq_getElem (by omega), Option.getD_some]
                rw [List.mem_take_iff_getElem]
                exact ⟨j, by omega, rfl⟩)
              subst F
              rw [he] at hc1
              have e3 : (y == y) = true := by simp
              clear T he
              go_wp2
              go_quiet (fail)
              go_wp2
              go_ret
              exact ⟨rfl, New.trans hb (new_drewN _ _)⟩
            · have HT := Lib.hid (show y ∉ L.take (j + 1) by
                rw [T, List.mem_append, List.mem_singleton]
                rintro (hh | hh)
                · exact HJ.out hh
                · exact he hh.symm)
              have e3 : (L.getD j 0 == y) = false := by rw [beq_eq_false_iff_ne]; exact he
              clear T he
              generalize L.getD j 0 = x at *
              go_wp2
              go_quiet (fail)
              go_wp2
              go_roundw
              case rel => exact ⟨j + 1, by omega, by go_num, HT, New.trans hb (new_drewN _ _)⟩
              case measure => simp [intOf]; omega
          · obtain rfl : j = k := by omega
            have HK2 := Lib.hid (HON.out.2 ⟨HK.out, H1.out, HJ.out⟩)
            go_wp2
            go_roundw
            case rel => exact ⟨j + 1, by omega, by go_num, HK2, hb⟩
            case measure => simp [intOf]; omega
      · have F := HN.out fun hh => h1 (HON.out.1 hh).2.1
        subst F
        have h2 : y < 0 ∨ many ≤ y := by omega
        clear HN HON HO
        by_cases h3 : y < 0
        all_goals first
          | (have e1 : decide (y < 0) = true := by simpa using h3)
          | (have e1 : decide (y < 0) = false := by simpa using h3
             have e2 : decide (many ≤ y) = true := by simp; omega)
        all_goals
          clear h1 h2
          go_wp2
          go_ret
          exact ⟨rfl, hb⟩
    · obtain rfl : k = L.length := by omega
      have hM := HK.out
      rw [List.take_length] at hM
      have hO := HO.out
      unfold fitsB at hO
      by_cases hg : 0 ≤ f ∧ f ≤ t ∧ t ≤ rows
      · rw [decide_eq_true ⟨hM, hg⟩] at hO
        subst hO
        have d1 : decide (0 ≤ f) = true := by simp; omega
        have d2 : decide (f ≤ t) = true := by simp; omega
        have d3 : decide (t ≤ rows) = true := by simp; omega
        clear hg hM HK HO
        go_wp2
        go_ret
        exact ⟨rfl, hb⟩
      · rw [decide_eq_false fun hh => hg hh.2] at hO
        subst hO
        clear hM HK HO
        by_cases h1 : 0 ≤ f
        all_goals try (by_cases h2 : f ≤ t)
        all_goals try (have h3 : ¬ t ≤ rows := by omega)
        all_goals
          clear hg
          try (have d1 : decide (0 ≤ f) = true := by simpa using h1)
          try (have d1 : decide (0 ≤ f) = false := by simpa using h1)
          try (have d2 : decide (f ≤ t) = true := by simpa using h2)
          try (have d2 : decide (f ≤ t) = false := by simpa using h2)
          try (have d3 : decide (t ≤ rows) = false := by simpa using h3)
          go_wp2
          go_ret
          exact ⟨rfl, hb⟩

set_option maxHeartbeats 1000000 in
theorem rmay_any {w : World} {A : Option Addr} {n c : Nat} {L : List Int} {f t : Int} (h : Reads w w.heap.size 1 A n (ints .i64 L)) (hn : n ≤ 9223372036854775806) :
    Calls Try.prog 35 #[Qv A n c f t] w (NewPost (.bool (qmay L f t)) w) := by
  obtain rfl := h.lenI
  have b1 : New w (w.alloc (.cells #[.slice A L.length c, .int .i64 f, .int .i64 t] 28)) := (Below.refl _ _).alloc (Nat.le_refl _) _
  by_cases h1 : L.length ≤ 64
  · have d1 : decide ((L.length : Int) ≤ 64) = true := by simp; omega
    have F := Lib.hid (fits7_any (c := c) (f := f) (t := t) (many := 64) (rows := 65536) (Reads.later h b1) hn)
    rw [← qmay_fits] at F
    go_enter Try.func35, Try.ntmps35
    go_wp2_with (go_at_call 36; refine F.out.mono ?_; rintro e w2 ⟨rfl, b2⟩)
    go_ret
    exact ⟨rfl, New.trans b1 b2⟩
  · have d1 : decide ((L.length : Int) ≤ 64) = false := by simp; omega
    rw [qmay_few L f t (by omega)]
    go_enter Try.func35, Try.ntmps35
    go_wp2
    go_ret
    exact ⟨rfl, b1⟩

/-- A footer's head: so many columns and rows. -/
abbrev Fv (A : Option Addr) (n c : Nat) (rows : Int) (A2 : Option Addr) (n2 c2 : Nat) : Value := .agg #[.slice A n c, .int .i64 rows, .slice A2 n2 c2]

set_option maxHeartbeats 1000000 in
theorem rqfits_any {w : World} {A A1 A2 : Option Addr} {n c n1 c1 n2 c2 : Nat} {L : List Int} {f t rows : Int} (h : Reads w w.heap.size 1 A n (ints .i64 L)) (hn : n ≤ 9223372036854775806) :
    Calls Try.prog 21 #[Qv A n c f t, Fv A1 n1 c1 rows A2 n2 c2] w (NewPost (.bool (qfits L f t n1 rows)) w) := by
  have b1 : New w ((w.alloc (.cells #[.slice A n c, .int .i64 f, .int .i64 t] 28)).alloc (.cells #[.slice A1 n1 c1, .int .i64 rows, .slice A2 n2 c2] 25)) := ((Below.refl _ _).alloc (Nat.le_refl _) _).alloc (by simp) _
  have M1 := Lib.hid (rmay_any (c := c) (f := f) (t := t) (Reads.later h b1) hn)
  have F1 := Lib.hid (fun W (hW : New w W) => fits7_any (c := c) (f := f) (t := t) (many := n1) (rows := rows) (Reads.later h hW) hn)
  have Bq := Blk.alloc (Blk.new w 28 #[.slice A n c, .int .i64 f, .int .i64 t]) (.cells #[.slice A1 n1 c1, .int .i64 rows, .slice A2 n2 c2] 25)
  have Bf := Blk.new1 w (.cells #[.slice A n c, .int .i64 f, .int .i64 t] 28) 25 #[.slice A1 n1 c1, .int .i64 rows, .slice A2 n2 c2]
  have HQ := Lib.hid Bq
  have HF := Lib.hid Bf
  clear Bq Bf
  unfold qfits
  cases hm : qmay L f t
  all_goals
    rw [hm] at M1
    clear hm
    go_enter Try.func21, Try.ntmps21
    go_wp2_with (first
      | (go_at_call 35; refine M1.out.mono ?_; rintro e w2 ⟨rfl, b2⟩
         have b02 := New.trans b1 b2
         have Q2 := HQ.out.below b2 HQ.out.lt
         have F2 := HF.out.below b2 HF.out.lt
         have x0 : w2.cell? ⟨w.heap.size, 0, none⟩ = some (.slice A n c) := by rw [Q2.cell 0]; rfl
         have x1 : w2.cell? ⟨w.heap.size, 1, none⟩ = some (.int .i64 f) := by rw [Q2.cell 1]; rfl
         have x2 : w2.cell? ⟨w.heap.size, 2, none⟩ = some (.int .i64 t) := by rw [Q2.cell 2]; rfl
         have y0 : w2.cell? ⟨w.heap.size + 1, 0, none⟩ = some (.slice A1 n1 c1) := by rw [F2.cell 0]; rfl
         have y1 : w2.cell? ⟨w.heap.size + 1, 1, none⟩ = some (.int .i64 rows) := by rw [F2.cell 1]; rfl
         have G := Lib.hid (F1.out w2 b02)
         clear Q2 F2)
      | (go_at_call 36; refine G.out.mono ?_; rintro e w3 ⟨rfl, b3⟩))
    go_ret
    first
      | exact ⟨rfl, b02⟩
      | exact ⟨by simp, New.trans b02 b3⟩

set_option maxHeartbeats 2000000 in
set_option maxRecDepth 100000 in
theorem qfits_any {w : World} {A A1 A2 : Option Addr} {n c n1 c1 n2 c2 : Nat} {L : List Int} {f t rows : Int} (h : Reads w w.heap.size 1 A n (ints .i64 L)) (hn : n ≤ 9223372036854775806) (hL : ∀ x ∈ L, -9223372036854775808 ≤ x ∧ x ≤ 9223372036854775807) :
    Calls Try.prog 40 #[Qv A n c f t, Fv A1 n1 c1 rows A2 n2 c2] w (NewPost (.bool (qfits L f t n1 rows)) w) := by
  obtain rfl := h.lenI
  have b1 : New w ((w.alloc (.cells #[.slice A L.length c, .int .i64 f, .int .i64 t] 28)).alloc (.cells #[.slice A1 n1 c1, .int .i64 rows, .slice A2 n2 c2] 25)) := ((Below.refl _ _).alloc (Nat.le_refl _) _).alloc (by simp) _
  have M1 := Lib.hid (may_any (c := c) (f := f) (t := t) (Reads.later h b1) hn hL)
  have Bq := Blk.alloc (Blk.new w 28 #[.slice A L.length c, .int .i64 f, .int .i64 t]) (.cells #[.slice A1 n1 c1, .int .i64 rows, .slice A2 n2 c2] 25)
  have Bf := Blk.new1 w (.cells #[.slice A L.length c, .int .i64 f, .int .i64 t] 28) 25 #[.slice A1 n1 c1, .int .i64 rows, .slice A2 n2 c2]
  have HQ := Lib.hid Bq
  have HF := Lib.hid Bf
  clear Bq Bf
  have hcase : (qmay L f t = false ∧ qfits L f t n1 rows = false) ∨ (qmay L f t = true ∧ rows < t ∧ qfits L f t n1 rows = false) ∨ (qmay L f t = true ∧ t ≤ rows) := by
    cases hm : qmay L f t
    · exact .inl ⟨rfl, by unfold qfits; rw [hm]; rfl⟩
    · by_cases hr : t ≤ rows
      · exact .inr (.inr ⟨rfl, hr⟩)
      · refine .inr (.inl ⟨rfl, by omega, ?_⟩)
        rw [Bool.eq_false_iff, Ne, qfits_iff]
        intro hh; exact hr hh.2.1
  generalize hO : qfits L f t n1 rows = O at *
  have HO := Lib.hid hO
  clear hO
  rcases hcase with ⟨e1, rfl⟩ | ⟨e1, e2, rfl⟩ | ⟨e1, e2⟩
  all_goals
    rw [e1] at M1
    have HM := Lib.hid e1
    clear e1
    try (have d2 : decide (rows < t) = true := by simpa using e2)
    try (have d2 : decide (rows < t) = false := by simpa using e2)
    go_enter Try.func40, Try.ntmps40
    go_wp2_with (first
      | (go_at_call 54; refine M1.out.mono ?_; rintro e w2 ⟨rfl, b2⟩
         have b02 := New.trans b1 b2
         have Q2 := HQ.out.below b2 HQ.out.lt
         have F2 := HF.out.below b2 HF.out.lt
         have x0 : w2.cell? ⟨w.heap.size, 0, none⟩ = some (.slice A L.length c) := by rw [Q2.cell 0]; rfl
         have x2 : w2.cell? ⟨w.heap.size, 2, none⟩ = some (.int .i64 t) := by rw [Q2.cell 2]; rfl
         have y0 : w2.cell? ⟨w.heap.size + 1, 0, none⟩ = some (.slice A1 n1 c1) := by rw [F2.cell 0]; rfl
         have y1 : w2.cell? ⟨w.heap.size + 1, 1, none⟩ = some (.int .i64 rows) := by rw [F2.cell 1]; rfl
         clear Q2 F2))
    try (go_ret; exact ⟨rfl, b02⟩)
  go_loop [20] (fun i => ∃ k : Nat, k ≤ L.length ∧ i = .int .i64 (k : Int) ∧ Hid (∀ x ∈ L.take k, x < (n1 : Int))) (fun i => L.length - (intOf i).toNat)
  case atStart => exact ⟨0, by omega, rfl, Lib.hid (by simp)⟩
  case round =>
    obtain ⟨k, hk, rfl, HK⟩ := hrel
    by_cases hlt : k < L.length
    · obtain ⟨ad, rfl, hbk, hcell⟩ := (h.below b02).int hlt
      have T := take_snoc L k 0 hlt
      have no : ¬ L.getD k 0 < (n1 : Int) → O = false := fun hno => by
        rw [← HO.out, Bool.eq_false_iff, Ne, qfits_iff]
        intro hh
        refine hno (hh.2.2 _ ?_)
        rw [List.getD_eq_getElem?_getD, List.getElem?_eq_getElem hlt]
        exact List.getElem_mem hlt
      have HT := Lib.hid (show L.getD k 0 < (n1 : Int) → ∀ x ∈ L.take (k + 1), x < (n1 : Int) by
        intro hh x hx
        rw [T, List.mem_append, List.mem_singleton] at hx
        rcases hx with hx | rfl
        · exact HK.out x hx
        · exact hh)
      have HN := Lib.hid no
      clear T no
      generalize L.getD k 0 = y at *
      by_cases h1 : y < (n1 : Int)
      · have e3 : decide ((n1 : Int) ≤ y) = false := by simp; omega
        have HT2 := Lib.hid (HT.out h1)
        clear HT HN
        go_wp2
        go_round
        case rel => exact ⟨k + 1, by omega, by go_num, HT2⟩
        case measure => simp [intOf]; omega
      · have F := HN.out h1
        subst F
        have e3 : decide ((n1 : Int) ≤ y) = true := by simp; omega
        clear HN HT HO
        go_wp2
        go_ret
        exact ⟨rfl, b02⟩
    · obtain rfl : k = L.length := by omega
      have F : O = true := by
        rw [← HO.out, qfits_iff]
        have := HK.out
        rw [List.take_length] at this
        exact ⟨HM.out, e2, this⟩
      subst F
      clear HO HK
      go_wp2
      go_ret
      exact ⟨rfl, b02⟩

end Go.Proofs.Ythmjbdpkdomofaa
/- Contracts of pick.fits and the answer's fits; of the groups' spans. -/

namespace Go.Proofs.Ythmjbdpkdomofaa
open Go Go.RowKit Go.Hm
/-- A footer and a query lie in the world. -/
structure FQ (w : World) (Ac : Option Addr) (cc : Nat) (L : List ColS) (r : Int) (Ag : Option Addr) (cg : Nat) (G : List GrD) (Aq : Option Addr) (cq : Nat) (Q : List Int) : Prop where
  foot : FootIn w Ac cc L Ag G
  cap : G.length ≤ cg
  fewG : G.length ≤ 4398046511104
  row8 : -9223372036854775808 ≤ r ∧ r ≤ 9223372036854775807
  gr8 : ∀ g ∈ G, -9223372036854775808 ≤ g.1 ∧ g.1 ≤ 9223372036854775807
  fine : ∀ g ∈ G, ∀ x ∈ g.2.2.2, ∀ p ∈ x.2.2, PageFine p
  caps : ∀ g ∈ G, g.2.2.2.length ≤ g.2.2.1 ∧ ∀ x ∈ g.2.2.2, x.2.2.length ≤ x.2.1
  cols : Reads w w.heap.size 1 Aq Q.length (ints .i64 Q)
  capq : Q.length ≤ cq
  fewq : Q.length ≤ 17592186044416
  q8 : ∀ x ∈ Q, -9223372036854775808 ≤ x ∧ x ≤ 9223372036854775807
theorem FQ.later {w w' : World} {Ac : Option Addr} {cc : Nat} {L : List ColS} {r : Int} {Ag : Option Addr} {cg : Nat} {G : List GrD} {Aq : Option Addr} {cq : Nat} {Q : List Int} (h : FQ w Ac cc L r Ag cg G Aq cq Q) (b : New w w') : FQ w' Ac cc L r Ag cg G Aq cq Q :=
  ⟨h.foot.later b, h.cap, h.fewG, h.row8, h.gr8, h.fine, h.caps, Reads.later h.cols b, h.capq, h.fewq, h.q8⟩
theorem FQ.stat {w : World} {Ac : Option Addr} {cc : Nat} {L : List ColS} {r : Int} {Ag : Option Addr} {cg : Nat} {G : List GrD} {Aq : Option Addr} {cq : Nat} {Q : List Int} (h : FQ w Ac cc L r Ag cg G Aq cq Q) : ∀ g ∈ G, ∀ x ∈ g.2.2.2, ∀ p ∈ x.2.2, statFine p.2.2 := fun g hg x hx p hp => (h.fine g hg x hx p hp).stat
/-- Whether a footer is right, and a query fits it. -/
noncomputable def okQ (F : FootS) (Q : List Int) (f t : Int) : Bool := rightF F && qfits Q f t F.cols.length F.rows
theorem okQ_foot {F : FootS} {Q : List Int} {f t : Int} (h : okQ F Q f t = true) : FootOk F := by
  unfold okQ at h
  rw [Bool.and_eq_true] at h
  have := h.1
  unfold rightF at this
  simpa using this
theorem okQ_cols {F : FootS} {Q : List Int} {f t : Int} (h : okQ F Q f t = true) : (∀ c ∈ Q, 0 ≤ c ∧ c < (F.cols.length : Int)) ∧ Q.Nodup ∧ 0 ≤ f ∧ f ≤ t ∧ t ≤ F.rows ∧ Q.length ≤ 64 := by
  unfold okQ at h
  rw [Bool.and_eq_true] at h
  obtain ⟨h1, h2, h3⟩ := (qfits_iff _ _ _ _ _).1 h.2
  obtain ⟨⟨a, b, _⟩, ⟨c, d⟩⟩ := (qmay_iff _ _ _).1 h1
  exact ⟨fun x hx => ⟨(c x hx).1, h3 x hx⟩, d, a, b, h2, okCols_len ⟨c, d⟩⟩
abbrev qV (Aq : Option Addr) (cq : Nat) (Q : List Int) (f t : Int) : Value := .agg #[.slice Aq Q.length cq, .int .i64 f, .int .i64 t]

section
variable {w : World} {Ac : Option Addr} {cc : Nat} {L : List ColS} {r : Int} {Ag : Option Addr} {cg : Nat} {G : List GrD} {Aq : Option Addr} {cq : Nat} {Q : List Int} {f t : Int}
set_option maxHeartbeats 1000000 in
set_option maxRecDepth 100000 in
theorem pfits_any (h : FQ w Ac cc L r Ag cg G Aq cq Q) :
    Calls Try.prog 24 #[.agg #[.slice Ac L.length cc, .int .i64 r, .slice Ag G.length cg], qV Aq cq Q f t] w (NewPost (.bool (okQ (footP L r G) Q f t)) w) := by
  have R1 := Lib.hid (fun (W : World) (hW : New w W) => show Calls Try.prog 37 #[.agg #[.slice Ac L.length cc, .int .i64 r, .slice Ag G.length cg]] W (NewPost (.bool (rightF (footP L r G))) W) from fright_any (r := r) (cc := cc) (cg := cg) (h.foot.later hW) h.stat)
  have Q1 := Lib.hid (fun (W : World) (hW : New w W) => qfits_any (A1 := Ac) (n1 := L.length) (c1 := cc) (rows := r) (A2 := Ag) (n2 := G.length) (c2 := cg) (c := cq) (f := f) (t := t) (Reads.later h.cols hW) (by have := h.fewq; omega) h.q8)
  have hO : okQ (footP L r G) Q f t = (rightF (footP L r G) && qfits Q f t L.length r) := rfl
  rw [hO]
  clear hO h
  generalize rightF (footP L r G) = M at *
  generalize qfits Q f t L.length r = N at *
  have B0 := (Blk.new w 25 #[.slice Ac L.length cc, .int .i64 r, .slice Ag G.length cg]).alloc (.cells #[.slice Aq Q.length cq, .int .i64 f, .int .i64 t] 28)
  have B1 := Blk.new (w.alloc (.cells #[.slice Ac L.length cc, .int .i64 r, .slice Ag G.length cg] 25)) 28 #[.slice Aq Q.length cq, .int .i64 f, .int .i64 t]
  have b0 := new2 w (.cells #[.slice Ac L.length cc, .int .i64 r, .slice Ag G.length cg] 25) (.cells #[.slice Aq Q.length cq, .int .i64 f, .int .i64 t] 28)
  simp only [World.size_alloc] at B1
  obtain ⟨x0, x1, x2⟩ := ccells B0
  go_enter Try.func24, Try.ntmps24
  go_wp2_with fail
  refine (R1.out _ b0).mono ?_
  rintro e w1 ⟨rfl, b1⟩
  have B0 := B0.below b1 B0.lt
  have B1 := B1.below b1 B1.lt
  have b01 := New.trans b0 b1
  clear x0 x1 x2 b0 b1 R1
  cases M with
  | false =>
    go_wp2
    go_ret
    exact ⟨rfl, b01⟩
  | true =>
    obtain ⟨x0, x1, x2⟩ := ccells B0
    obtain ⟨y0, y1, y2⟩ := ccells B1
    go_wp2_with fail
    refine (Q1.out _ b01).mono ?_
    rintro e w2 ⟨rfl, b2⟩
    go_wp2
    go_ret
    exact ⟨rfl, New.trans b01 b2⟩
set_option maxHeartbeats 1000000 in
set_option maxRecDepth 100000 in
theorem rpfits_any (h : FQ w Ac cc L r Ag cg G Aq cq Q) :
    Calls Try.prog 27 #[.agg #[.slice Ac L.length cc, .int .i64 r, .slice Ag G.length cg], qV Aq cq Q f t] w (NewPost (.bool (okQ (footP L r G) Q f t)) w) := by
  have R1 := Lib.hid (fun (W : World) (hW : New w W) => show Calls Try.prog 20 #[.agg #[.slice Ac L.length cc, .int .i64 r, .slice Ag G.length cg]] W (NewPost (.bool (rightF (footP L r G))) W) from rfright_any (r := r) (cc := cc) (cg := cg) (h.foot.later hW) h.stat h.row8)
  have Q1 := Lib.hid (fun (W : World) (hW : New w W) => rqfits_any (A1 := Ac) (n1 := L.length) (c1 := cc) (rows := r) (A2 := Ag) (n2 := G.length) (c2 := cg) (c := cq) (f := f) (t := t) (Reads.later h.cols hW) (by have := h.fewq; omega))
  have hO : okQ (footP L r G) Q f t = (rightF (footP L r G) && qfits Q f t L.length r) := rfl
  rw [hO]
  clear hO h
  generalize rightF (footP L r G) = M at *
  generalize qfits Q f t L.length r = N at *
  have B0 := (Blk.new w 25 #[.slice Ac L.length cc, .int .i64 r, .slice Ag G.length cg]).alloc (.cells #[.slice Aq Q.length cq, .int .i64 f, .int .i64 t] 28)
  have B1 := Blk.new (w.alloc (.cells #[.slice Ac L.length cc, .int .i64 r, .slice Ag G.length cg] 25)) 28 #[.slice Aq Q.length cq, .int .i64 f, .int .i64 t]
  have b0 := new2 w (.cells #[.slice Ac L.length cc, .int .i64 r, .slice Ag G.length cg] 25) (.cells #[.slice Aq Q.length cq, .int .i64 f, .int .i64 t] 28)
  simp only [World.size_alloc] at B1
  obtain ⟨x0, x1, x2⟩ := ccells B0
  go_enter Try.func27, Try.ntmps27
  go_wp2_with fail
  refine (R1.out _ b0).mono ?_
  rintro e w1 ⟨rfl, b1⟩
  have B0 := B0.below b1 B0.lt
  have B1 := B1.below b1 B1.lt
  have b01 := New.trans b0 b1
  clear x0 x1 x2 b0 b1 R1
  obtain ⟨x0, x1, x2⟩ := ccells B0
  obtain ⟨y0, y1, y2⟩ := ccells B1
  go_wp2_with fail
  refine (Q1.out _ b01).mono ?_
  rintro e w2 ⟨rfl, b2⟩
  cases M
  all_goals
    go_wp2
    go_ret
    exact ⟨rfl, New.trans b01 b2⟩
end

end Go.Proofs.Ythmjbdpkdomofaa
