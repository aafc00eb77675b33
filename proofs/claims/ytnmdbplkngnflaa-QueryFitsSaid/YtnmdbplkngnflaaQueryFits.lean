/- QueryFits returns true whatever comes in, and leaves all that was there as it was. -/
import Derived.Test.YtnmdbplkngnflaaLaw24
import Derived.Test.YtnmdbplkngnflaaOpenQ
import Derived.Test.YtnmdbplkngnflaaFew07
import Derived.Test.YtnmdbplkngnflaaPlc

namespace Go.Hm
open Go Go.RowKit Go.Proofs.Ytnmdbplkngnflaa
theorem qfits_proj {L : List ColS} {r : Int} {D : List ColD} {l : List Int} {f t : Int} (h : tabCk L r D = 0) : qfits l f t L.length r = (projEr L r D l f t == 0) := by
  obtain ⟨h1, h2, h3, h4, h5⟩ := tab_shape h
  rw [Bool.eq_iff_iff, beq_iff_eq, projEr_ok, qfits_iff, qmay_iff]
  unfold okCols
  constructor
  · rintro ⟨⟨⟨a, b, c⟩, d, e⟩, g, i⟩
    exact ⟨h, places_iff e (fun x hx => ⟨(d x hx).1, i x hx⟩), a, b, g⟩
  · rintro ⟨_, p, a, b, c⟩
    exact ⟨⟨⟨a, b, by omega⟩, fun x hx => ⟨(places_mem p hx).1, by have := (places_mem p hx).2; omega⟩, places_nodup p⟩, c, fun x hx => (places_mem p hx).2⟩

end Go.Hm

namespace Go.Proofs.Ytnmdbplkngnflaa
open Go.RowKit Go.Hm Go.WideShapes Go.ChangeShapes

section
variable {H : Type} {enc : TypeId × Value → H} {W : World} {base : Nat} {v : Value} {d : DataW H} {ps : List MemPlace}
theorem open_Qb (hval : Value.okWide Try.prog W .any base 24 v) (h : DataW.Trod enc Try.prog W 0 (fun _ => true) true 24 v d ps) (hlt : ∀ p ∈ ps, p.block < W.heap.size) (hw : ∀ n ∈ d.weights Try.prog 24, n ≤ reachBytes) :
    ∃ A c, ∃ l : List Int, ∃ f t : Int, v = Qv A l.length c f t ∧ l.length ≤ c ∧ c * 8 ≤ 140737488351232 ∧ Reads W W.heap.size 1 A l.length (ints .i64 l) ∧ (∀ x ∈ l, -9223372036854775808 ≤ x ∧ x ≤ 9223372036854775807) ∧ (f ≤ 9223372036854775807 ∧ -9223372036854775808 ≤ f ∧ t ≤ 9223372036854775807 ∧ -9223372036854775808 ≤ t) := by
  have ht : Try.prog.underlying 24 = some (.struct (fieldsOf Try.prog 24)) := by kernel_rfl
  obtain ⟨⟨cs⟩, rfl, hsz⟩ := okWide_struct ht hval
  have hh := Held.of h hlt hw
  simp only [Value.cells] at hh
  obtain ⟨x0, x1, x2, rfl⟩ := list3 (hh.partLen ht (n := 3) (by kernel_rfl))
  have p0 := hh.part ht 0 0 1 (ft := 22) (by kernel_rfl) (by kernel_rfl)
  have p1 := hh.part ht 1 1 1 (ft := 3) (by kernel_rfl) (by kernel_rfl)
  have p2 := hh.part ht 2 2 1 (ft := 3) (by kernel_rfl) (by kernel_rfl)
  obtain ⟨A, c, l, h1, h2, h4, h5, h6⟩ := p0.ints_ (te := 3) (by kernel_rfl) (by kernel_rfl) (by kernel_rfl) (by kernel_rfl)
  obtain ⟨f, h7, f1, f2⟩ := p1.i64 (by kernel_rfl)
  obtain ⟨g, h8, g1, g2⟩ := p2.i64 (by kernel_rfl)
  simp only [List.drop_succ_cons, List.drop_zero, List.take_succ_cons, List.take_zero, List.cons.injEq, and_true] at h1 h7 h8
  subst h1 h7 h8
  exact ⟨A, c, l, f, g, rfl, h2, h4, h5, h6, f2, f1, g2, g1⟩
end
set_option maxHeartbeats 4000000 in
set_option maxRecDepth 100000 in
theorem queryFits_walk {w : World} {A : Option Addr} {n c : Nat} {l : List Int} {f t : Int} {Ac : Option Addr} {cc : Nat} {L : List ColS} {r : Int} {Ad : Option Addr} {cd : Nat} {D : List ColD}
    (hq : Reads w w.heap.size 1 A n (ints .i64 l)) (hc : n ≤ c) (hn : n ≤ 9223372036854775806) (hL : ∀ x ∈ l, -9223372036854775808 ≤ x ∧ x ≤ 9223372036854775807)
    (hb : f ≤ 9223372036854775807 ∧ -9223372036854775808 ≤ f ∧ t ≤ 9223372036854775807 ∧ -9223372036854775808 ≤ t) (h : TabIn w Ac cc L Ad D) :
    Calls Try.prog 3 #[Qv A n c f t, .agg #[.slice Ac L.length cc, .int .i64 r, .slice Ad D.length cd]] w (SmallPost w) := by
  obtain ⟨W0, hW0⟩ : ∃ W, W = (w.alloc (.cells #[.slice A n c, .int .i64 f, .int .i64 t] 24)).alloc (.cells #[.slice Ac L.length cc, .int .i64 r, .slice Ad D.length cd] 28) := ⟨_, rfl⟩
  have b0 : New w W0 := by rw [hW0]; exact ((Below.refl _ _).alloc (Nat.le_refl _) _).alloc (by simp) _
  have Q0 : Blk W0 w.heap.size 24 #[.slice A n c, .int .i64 f, .int .i64 t] := by rw [hW0]; exact (Blk.new _ _ _).alloc _
  have F0 : Blk W0 (w.heap.size + 1) 28 #[.slice Ac L.length cc, .int .i64 r, .slice Ad D.length cd] := by
    rw [hW0]
    have := Blk.new (w.alloc (.cells #[.slice A n c, .int .i64 f, .int .i64 t] 24)) 28 #[.slice Ac L.length cc, .int .i64 r, .slice Ad D.length cd]
    simpa using this
  have T := Lib.hid (fun (W : World) (hW : New W0 W) => h.later (New.trans b0 hW))
  have rq := Lib.hid (fun (W : World) (hW : New W0 W) => Reads.later hq (New.trans b0 hW))
  have HF := Lib.hid (fun (W : World) (hW : New W0 W) => qfits_any (A1 := Ac) (A2 := none) (n1 := L.length) (c1 := cc) (n2 := 0) (c2 := 0) (c := c) (f := f) (t := t) (rows := r) (rq.out W hW) hn hL)
  have PJ := Lib.hid (fun (W : World) (hW : New W0 W) (hn2 : n ≤ 100000) => Calls.mono (project_any (r := r) (cd := cd) (fr := f) (to_ := t) (T.out W hW).cols (T.out W hW).fine (T.out W hW).cap (T.out W hW).few (T.out W hW).data (T.out W hW).few2 (T.out W hW).within (rq.out W hW) hc hn2 hb) (fun e w' hh => hh.u))
  have CK := Lib.hid (fun (W : World) (hW : New W0 W) => check_any (r := r) (cd := cd) (T.out W hW).cols (T.out W hW).fine (T.out W hW).cap (T.out W hW).few (T.out W hW).data (T.out W hW).few2 (T.out W hW).within)
  have FW := Lib.hid (fun (W : World) (hW : New W0 W) => few07_any (r := r) (cd := cd) (T.out W hW))
  have EQ := Lib.hid (fun (hh : tabCk L r D = 0) => qfits_proj (l := l) (f := f) (t := t) hh)
  generalize hE : tabCk L r D = E at *
  generalize hP : projEr L r D l f t = er at *
  generalize hQ : qfits l f t L.length r = qb at *
  have FQ := Lib.hid (fun (W : World) (hW : New W0 W) => Q0.below hW Q0.lt)
  have FT := Lib.hid (fun (W : World) (hW : New W0 W) => F0.below hW F0.lt)
  have SM := Lib.hid (small24_any W0)
  have HW := Lib.hid hW0
  have hg1 : w.heap.size = w.heap.size := rfl
  clear h Q0 F0 hW0 hq hL hE hP hQ hc hn hg1 T rq
  go_enter Try.func3, Try.ntmps3
  go_wp2_with fail
  rw [← HW.out]
  refine SM.out.mono ?_
  rintro e w1 ⟨rfl, b1⟩
  obtain ⟨gT, hgT⟩ : ∃ g, g = w.heap.size + 1 := ⟨_, rfl⟩
  obtain ⟨gQ, hgQ⟩ : ∃ g, g = w.heap.size := ⟨_, rfl⟩
  rw [← hgT] at FT ⊢
  rw [← hgQ] at FQ ⊢
  clear SM HW hgT hgQ
  obtain ⟨x0, x1, x2⟩ := qcells (FQ.out w1 b1)
  obtain ⟨y0, y1, y2⟩ := qcells (FT.out w1 b1)
  have P := Lib.hid (FW.out w1 b1)
  go_wp2_with fail
  refine P.out.mono ?_
  rintro e w2 ⟨bb, rfl, b2⟩
  have b2 := New.trans b1 b2
  clear x0 x1 x2 y0 y1 y2 P b1 FW
  obtain ⟨x0, x1, x2⟩ := qcells (FQ.out w2 b2)
  obtain ⟨y0, y1, y2⟩ := qcells (FT.out w2 b2)
  cases bb with
  | false =>
    go_wp2
    go_ret
    exact ⟨rfl, New.trans b0 b2⟩
  | true =>
    by_cases h1 : 100 < n
    · have t1 : decide (100 < (n : Int)) = true := by simp; omega
      go_wp2
      go_ret
      exact ⟨rfl, New.trans b0 b2⟩
    · have t1 : decide (100 < (n : Int)) = false := by simp; omega
      have P := Lib.hid (CK.out w2 b2)
      have PJ := Lib.hid (fun (W : World) (hW : New W0 W) => PJ.out W hW (by omega))
      clear CK h1
      go_wp2_with fail
      refine P.out.mono ?_
      rintro e w3 ⟨rfl, b3⟩
      have b3 := New.trans b2 b3
      clear x0 x1 x2 y0 y1 y2 P b2 t1
      obtain ⟨x0, x1, x2⟩ := qcells (FQ.out w3 b3)
      obtain ⟨y0, y1, y2⟩ := qcells (FT.out w3 b3)
      by_cases hE : E = 0
      · have EQ2 := Lib.hid (EQ.out hE)
        clear EQ
        subst hE
        have P := Lib.hid (PJ.out w3 b3)
        go_wp2_with fail
        refine P.out.mono ?_
        rintro e w4 ⟨Ax, Bx, cx, kx, Dx, rfl, _, _, _, _, b4⟩
        have b4 := New.trans b3 b4
        clear x0 x1 x2 y0 y1 y2 P b3 PJ
        generalize projL er L l = LX
        generalize projR er f t = rX
        obtain ⟨w6, hw6⟩ : ∃ W, W = w4.alloc (.cells #[.slice Ax LX.length cx, .int .i64 rX, .slice Bx Dx.length kx] 28) := ⟨_, rfl⟩
        have b46 : New w4 w6 := by rw [hw6]; exact (Below.refl _ _).alloc (Nat.le_refl _) _
        have b6 := New.trans b4 b46
        obtain ⟨x0, x1, x2⟩ := qcells (FQ.out w6 b6)
        obtain ⟨y0, y1, y2⟩ := qcells (FT.out w6 b6)
        have P := Lib.hid (HF.out w6 b6)
        rw [EQ2.out] at P
        rw [hw6] at x0 x1 x2 y0 y1 y2
        have H6 := Lib.hid hw6
        clear hw6 b4 b46
        go_wp2_with fail
        rw [← H6.out]
        refine P.out.mono ?_
        rintro e w7 ⟨rfl, b7⟩
        have b7 := New.trans b6 b7
        clear x0 x1 x2 y0 y1 y2 P b6 H6 HF
        go_wp2
        go_ret
        exact ⟨by simp, New.trans b0 b7⟩
      · have e1 : (E != 0) = true := by simpa using hE
        clear hE EQ HF PJ
        go_wp2
        go_ret
        exact ⟨rfl, New.trans b0 b3⟩

set_option maxRecDepth 100000 in
open Go.WideShapes Go.ChangeShapes in
theorem queryFits_contract {H : Type} {enc : TypeId × Value → H} (W : World) (base : Nat) (args : Array Value) (ds : List (DataW H)) (ps : List MemPlace)
    (hval : ∀ (j : Nat) t v, Try.f3.params[j]? = some t → args[j]? = some v → Value.okWide Try.prog W .any base t v)
    (hA : DataW.TrodAll enc Try.prog W 0 (fun _ => true) true Try.f3.params.toList args.toList ds ps) (hlt : ∀ p ∈ ps, p.block < W.heap.size)
    (hsz : (DataW.weightsEach Try.prog Try.f3.params.toList ds).all (· ≤ reachBytes) = true) :
    Calls Try.prog 3 args W fun e W' => e = .returned (.bool true) ∧ Below W.heap.size W W' := by
  rw [Try.params3] at hA hval hsz
  obtain ⟨v0, v1, d0, d1, p0, p1, rfl, rfl, rfl, h0, h1⟩ := trodAll_two hA
  -- q: v0 d0 p0 h0, hval 0
  -- t: v1 d1 p1 h1, hval 1
  obtain ⟨A, c, l, f, t, rfl, hc, hm, hr, hl, hb⟩ := open_Qb (hval 0 _ _ rfl rfl) h0 (fun p hp => hlt p (by simp [hp])) (sized_at hsz (j := 0) rfl rfl)
  obtain ⟨Ac, cc, L, r, Ad, cd, D, rfl, hT, _, _⟩ := open_Tb (hval 1 _ _ rfl rfl) h1 (fun p hp => hlt p (by simp [hp])) (sized_at hsz (j := 1) rfl rfl)
  exact queryFits_walk hr hc (by omega) hl hb hT

end Go.Proofs.Ytnmdbplkngnflaa
