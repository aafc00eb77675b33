/- LayoutChecks returns true whatever comes in, and leaves all that was there as it was. -/
import Derived.Test.YtpbfohgmhjadpaaLaw18
import Derived.Test.YtpbfohgmhjadpaaLayCr
import Derived.Test.YtpbfohgmhjadpaaRec

namespace Go.Proofs.Ytpbfohgmhjadpaa
open Go.RowKit Go.Hm Go.WideShapes Go.ChangeShapes
set_option maxRecDepth 100000

section
variable {H : Type} {enc : TypeId × Value → H} {W : World} {base : Nat} {v : Value} {d : DataW H} {ps : List MemPlace}
theorem open_Cf (hval : Value.okWide Try.prog W .any base 32 v) (h : DataW.Trod enc Try.prog W 0 (fun _ => true) true 32 v d ps) (hlt : ∀ p ∈ ps, p.block < W.heap.size) (hw : ∀ n ∈ d.weights Try.prog 32, n ≤ reachBytes) :
    ∃ g p A c, ∃ l : List Int, v = Cv g p A l.length c ∧ l.length ≤ c ∧ c * 8 ≤ 140737488351232 ∧ Reads W W.heap.size 1 A l.length (ints .i64 l) := by
  have ht : Try.prog.underlying 32 = some (.struct (fieldsOf Try.prog 32)) := by kernel_rfl
  obtain ⟨⟨cs⟩, rfl, hsz⟩ := okWide_struct ht hval
  have hh := Held.of h hlt hw
  simp only [Value.cells] at hh
  obtain ⟨x0, x1, x2, rfl⟩ := list3 (hh.partLen ht (n := 3) (by kernel_rfl))
  have p0 := hh.part ht 0 0 1 (ft := 3) (by kernel_rfl) (by kernel_rfl)
  have p1 := hh.part ht 1 1 1 (ft := 3) (by kernel_rfl) (by kernel_rfl)
  have p2 := hh.part ht 2 2 1 (ft := 30) (by kernel_rfl) (by kernel_rfl)
  obtain ⟨A, c, l, h1, h2, h4, h5, _⟩ := p2.ints_ (te := 3) (by kernel_rfl) (by kernel_rfl) (by kernel_rfl) (by kernel_rfl)
  obtain ⟨f, h7, _⟩ := p0.i64 (by kernel_rfl)
  obtain ⟨g, h8, _⟩ := p1.i64 (by kernel_rfl)
  simp only [List.drop_succ_cons, List.drop_zero, List.take_succ_cons, List.take_zero, List.cons.injEq, and_true] at h1 h7 h8
  subst h1 h7 h8
  exact ⟨f, g, A, c, l, rfl, h2, h4, h5⟩

theorem open_Cols (hval : Value.okWide Try.prog W .any base 33 v) (h : DataW.Trod enc Try.prog W 0 (fun _ => true) true 33 v d ps) (hlt : ∀ p ∈ ps, p.block < W.heap.size) (hw : ∀ n ∈ d.weights Try.prog 33, n ≤ reachBytes) :
    ∃ A c, ∃ l : List ColS, v = .slice A l.length c ∧ l.length ≤ c ∧ c * 32 ≤ 140737488351232 ∧ Reads W W.heap.size 3 A l.length (recs colV l) ∧ ∀ x ∈ l, (∀ z ∈ x.1, z < 256) ∧ x.1.length ≤ 140737488351232 ∧ -9223372036854775808 ≤ x.2.1 ∧ x.2.1 ≤ 9223372036854775807 := by
  have ht : Try.prog.underlying 33 = some (.slice 41) := by kernel_rfl
  obtain ⟨a0, len, cap, rfl⟩ := okWide_slice ht hval
  have he : Try.prog.underlying 41 = some (.struct (fieldsOf Try.prog 41)) := by kernel_rfl
  obtain ⟨A, c, l, h1, h2, _, h4, h5, h6⟩ := (Held.of h hlt hw).recs (f := colV) (sz := 3) (by_ := 32) (Q := fun x => (∀ z ∈ x.1, z < 256) ∧ x.1.length ≤ 140737488351232 ∧ -9223372036854775808 ≤ x.2.1 ∧ x.2.1 ≤ 9223372036854775807) ([], 0, false) ht (by kernel_rfl) (by kernel_rfl) (fun _ => rfl) (by omega) (fun cs hh => by
    obtain ⟨x0, x1, x2, rfl⟩ := list3 (hh.partLen he (n := 3) (by kernel_rfl))
    have p0 := hh.part he 0 0 1 (ft := 9) (by kernel_rfl) (by kernel_rfl)
    have p1 := hh.part he 1 1 1 (ft := 3) (by kernel_rfl) (by kernel_rfl)
    have p2 := hh.part he 2 2 1 (ft := 4) (by kernel_rfl) (by kernel_rfl)
    obtain ⟨nm, e1, e2, e3⟩ := p0.string (by kernel_rfl)
    obtain ⟨ty, e4, e5, e6⟩ := p1.i64 (by kernel_rfl)
    obtain ⟨nu, e7⟩ := p2.bool (by kernel_rfl)
    simp only [List.drop_succ_cons, List.drop_zero, List.take_succ_cons, List.take_zero, List.cons.injEq, and_true] at e1 e4 e7
    subst e1 e4 e7
    exact ⟨(nm, ty, nu), rfl, e2, e3, e5, e6⟩)
  refine ⟨A, c, l, ?_, h2, by unfold reachBytes at h4; omega, h5, h6⟩
  simpa [Value.cells] using h1
end

set_option maxHeartbeats 1000000 in
theorem layoutChecks_walk {w : World} {A A2 : Option Addr} {n c n2 c2 : Nat} {g p : Int} {E : List Int} {L : List ColS} (h : Reads w w.heap.size 1 A n (ints .i64 E)) (h2 : Reads w w.heap.size 3 A2 n2 (recs colV L)) (hn : n ≤ 4611686018427387903) (hn2 : n2 ≤ 4611686018427387903) :
    Calls Try.prog 4 #[Cv g p A n c, .slice A2 n2 c2] w (SmallPost w) := by
  have HE := Lib.hid (fun (W : World) (hW : New w W) => lcheck_any (g := g) (p := p) (c := c) (c2 := c2) (Reads.later h hW) (Reads.later h2 hW) hn)
  have HR := Lib.hid (fun (W : World) (hW : New w W) => rlcheck_any (g := g) (p := p) (c := c) (c2 := c2) (Reads.later h hW) (Reads.later h2 hW) hn)
  generalize confCk g p E L = O at *
  clear h h2
  obtain ⟨W0, hW0⟩ : ∃ W, W = w.alloc (.cells #[.int .i64 g, .int .i64 p, .slice A n c] 32) := ⟨_, rfl⟩
  have b0 : New w W0 := by rw [hW0]; exact (Below.refl _ _).alloc (Nat.le_refl _) _
  have B0 : Blk W0 w.heap.size 32 #[.int .i64 g, .int .i64 p, .slice A n c] := by rw [hW0]; exact Blk.new _ _ _
  have hc : 200 < n2 ∨ (n2 ≤ 200 ∧ 200 < n) ∨ (n2 ≤ 200 ∧ n ≤ 200) := by omega
  rcases hc with j1 | ⟨j1, j2⟩ | ⟨j1, j2⟩
  all_goals
    try (have d1 : decide (200 < (n2 : Int)) = false := by simp; omega)
    try (have d1 : decide (200 < (n2 : Int)) = true := by simp; omega)
    try (have d2 : decide (200 < (n : Int)) = false := by simp; omega)
    try (have d2 : decide (200 < (n : Int)) = true := by simp; omega)
    go_enter Try.func4, Try.ntmps4
    go_wp2_with fail
    refine (small18_any _).mono ?_
    rintro e w1 ⟨rfl, b1⟩
    rw [← hW0] at b1
    have b01 := New.trans b0 b1
    have B1 := B0.below b1 B0.lt
    obtain ⟨gQ, hgQ⟩ : ∃ g, g = w.heap.size := ⟨_, rfl⟩
    rw [← hgQ] at B1 ⊢
    have HB1 := Lib.hid B1
    clear B0 b1 b0 hW0 hgQ B1
    go_wp2_with fail
    refine wp_region_up New [(true, 0), (true, 1), (true, 2), (true, 3), (true, 4), (true, 5), (true, 6), (true, 7), (true, 8), (true, 9), (true, 10), (true, 11), (true, 12), (true, 13), (true, 15), (true, 16), (false, 14), (false, 17), (true, 18), (true, 19), (true, 20), (true, 21)]
      New.refl New.trans (by kernel_rfl) (by kernel_rfl) (by kernel_rfl) (by kernel_rfl) ?_
    have hU := New.drew w1
    repeat (first
      | (refine up_call rfl rfl (fun K hK => ?_); go_simp
         first
         | ((with_reducible refine (HE.out _ (New.trans b01 hU)).mono ?_))
         | ((with_reducible refine (HR.out _ (New.trans b01 hU)).mono ?_))
         rintro e w9 ⟨rfl, b9⟩
         refine hK _ _ b9 ?_
         clear hK
         replace hU := New.trans hU b9)
      | (refine up_skip rfl rfl ?_; simp only [Act.put, List.setIfInBounds_toArray, List.set_cons_zero, List.set_cons_succ])
      | (refine up_quiet rfl rfl (v := ?_) (fun W hW => ?_) ?_; rotate_left; (obtain ⟨x0, x1, x2⟩ := ccells (HB1.out.below (New.trans hU hW) HB1.out.lt); go_simp <;> with_reducible rfl); simp only [Act.put, List.setIfInBounds_toArray, List.set_cons_zero, List.set_cons_succ]))
    refine up_nil ?_
    go_wp2
    go_ret
    exact ⟨by simp, New.trans b01 hU⟩

set_option maxRecDepth 100000 in
open Go.WideShapes Go.ChangeShapes in
theorem layoutChecks_contract {H : Type} {enc : TypeId × Value → H} (W : World) (base : Nat) (args : Array Value) (ds : List (DataW H)) (ps : List MemPlace)
    (hval : ∀ (j : Nat) t v, Try.f4.params[j]? = some t → args[j]? = some v → Value.okWide Try.prog W .any base t v)
    (hA : DataW.TrodAll enc Try.prog W 0 (fun _ => true) true Try.f4.params.toList args.toList ds ps) (hlt : ∀ p ∈ ps, p.block < W.heap.size)
    (hsz : (DataW.weightsEach Try.prog Try.f4.params.toList ds).all (· ≤ reachBytes) = true) :
    Calls Try.prog 4 args W fun e W' => e = .returned (.bool true) ∧ Below W.heap.size W W' := by
  rw [Try.params4] at hA hval hsz
  obtain ⟨v0, v1, d0, d1, p0, p1, rfl, rfl, rfl, h0, h1⟩ := trodAll_two hA
  -- q: v0 d0 p0 h0, hval 0
  -- p: v1 d1 p1 h1, hval 1
  obtain ⟨g, p, A, c, l, rfl, hc, hm, hr⟩ := open_Cf (hval 0 _ _ rfl rfl) h0 (fun p hp => hlt p (by simp [hp])) (sized_at hsz (j := 0) rfl rfl)
  obtain ⟨A1, c1, l1, rfl, hc1, hm1, hr1, hl1⟩ := open_Cols (hval 1 _ _ rfl rfl) h1 (fun p hp => hlt p (by simp [hp])) (sized_at hsz (j := 1) rfl rfl)
  exact layoutChecks_walk hr hr1 (by omega) (by omega)

end Go.Proofs.Ytpbfohgmhjadpaa
