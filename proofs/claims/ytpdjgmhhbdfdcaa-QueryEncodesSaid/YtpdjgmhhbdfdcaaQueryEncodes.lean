/- QueryEncodes returns true whatever comes in, and leaves all that was there as it was. -/
import Derived.Test.YtpdjgmhhbdfdcaaLaw24
import Derived.Test.YtpdjgmhhbdfdcaaOpenQ

namespace Go.Proofs.Ytpdjgmhhbdfdcaa
open Go.RowKit Go.Hm

set_option maxHeartbeats 2000000 in
set_option maxRecDepth 100000 in
theorem queryEncodes_walk {w : World} {A A1 A2 : Option Addr} {n c n1 c1 n2 c2 : Nat} {L : List Int} {f t rows : Int} (h : Reads w w.heap.size 1 A n (ints .i64 L)) (hn : n ≤ 100) (hn1 : n1 ≤ 100) (hL : ∀ x ∈ L, -9223372036854775808 ≤ x ∧ x ≤ 9223372036854775807) :
    Calls Try.prog 3 #[Qv A n c f t, Fv A1 n1 c1 rows A2 n2 c2] w (SmallPost w) := by
  have HE := Lib.hid (fun (W : World) (hW : New w W) => qenc_any (c := c) (f := f) (t := t) (Reads.later h hW) (by omega) hL)
  have HR := Lib.hid (fun (W : World) (hW : New w W) => rqenc_any (c := c) (f := f) (t := t) (Reads.later h hW) (by omega))
  have HF := Lib.hid (fun (W : World) (hW : New w W) => qfits_any (A1 := A1) (A2 := A2) (n1 := n1) (c1 := c1) (n2 := n2) (c2 := c2) (c := c) (f := f) (t := t) (rows := rows) (Reads.later h hW) (by omega) hL)
  have HG := Lib.hid (fun (W : World) (hW : New w W) => rqfits_any (A1 := A1) (A2 := A2) (n1 := n1) (c1 := c1) (n2 := n2) (c2 := c2) (c := c) (f := f) (t := t) (rows := rows) (Reads.later h hW) (by omega))
  have t1 : decide (100 < (n : Int)) = false := by simp; omega
  have t2 : decide (100 < (n1 : Int)) = false := by simp; omega
  clear h hL
  generalize encQ L f t = o at *
  generalize qfits L f t n1 rows = bf at *
  generalize hoi : o.isSome = oi
  generalize hog : o.getD [] = V
  have HO := Lib.hid (And.intro hoi hog)
  clear hoi hog
  obtain ⟨W0, hW0⟩ : ∃ W, W = (w.alloc (.cells #[.slice A n c, .int .i64 f, .int .i64 t] 24)).alloc (.cells #[.slice A1 n1 c1, .int .i64 rows, .slice A2 n2 c2] 28) := ⟨_, rfl⟩
  have b0 : New w W0 := by rw [hW0]; exact ((Below.refl _ _).alloc (Nat.le_refl _) _).alloc (by simp) _
  have Q0 : Blk W0 w.heap.size 24 #[.slice A n c, .int .i64 f, .int .i64 t] := by rw [hW0]; exact (Blk.new _ _ _).alloc _
  have F0 : Blk W0 (w.heap.size + 1) 28 #[.slice A1 n1 c1, .int .i64 rows, .slice A2 n2 c2] := by
    rw [hW0]
    have := Blk.new (w.alloc (.cells #[.slice A n c, .int .i64 f, .int .i64 t] 24)) 28 #[.slice A1 n1 c1, .int .i64 rows, .slice A2 n2 c2]
    simpa using this
  go_enter Try.func3, Try.ntmps3
  go_wp2_with fail
  refine (small24_any _).mono ?_
  rintro e w1 ⟨rfl, b1⟩
  rw [← hW0] at b1
  have b01 := New.trans b0 b1
  have Q1 := Q0.below b1 Q0.lt
  have F1 := F0.below b1 F0.lt
  obtain ⟨gF, hgF⟩ : ∃ g, g = w.heap.size + 1 := ⟨_, rfl⟩
  obtain ⟨gQ, hgQ⟩ : ∃ g, g = w.heap.size := ⟨_, rfl⟩
  rw [← hgF] at F1 ⊢
  rw [← hgQ] at Q1 ⊢
  clear Q0 F0 b1 b0 hW0 hgF hgQ
  obtain ⟨x0, x1, x2⟩ := qcells Q1
  obtain ⟨y0, y1, y2⟩ := qcells F1
  have HQ1 := Lib.hid Q1
  have HF1 := Lib.hid F1
  have P1 := Lib.hid (HE.out w1 b01)
  clear Q1 F1
  go_wp2_with fail
  refine P1.out.mono ?_
  intro e w2 hh
  obtain ⟨A3, n3, c3, rfl, k3, b2⟩ := hh.u
  rw [HO.out.1]
  rw [HO.out.2] at k3
  have b02 := New.trans b01 b2
  have Q2 := HQ1.out.below b2 HQ1.out.lt
  have F2 := HF1.out.below b2 HF1.out.lt
  have r3 := k3.reads
  obtain ⟨x0, x1, x2⟩ := qcells Q2
  obtain ⟨y0, y1, y2⟩ := qcells F2
  have HQ2 := Lib.hid Q2
  have HF2 := Lib.hid F2
  have P2 := Lib.hid (HR.out w2 b02)
  clear Q2 F2 hh P1 b2 k3 b01 HQ1 HF1
  go_wp2_with fail
  refine P2.out.mono ?_
  intro e w3 hh
  obtain ⟨A4, n4, c4, rfl, k4, b3⟩ := hh.u
  rw [HO.out.1]
  rw [HO.out.2] at k4
  have b03 := New.trans b02 b3
  have Q2 := HQ2.out.below b3 HQ2.out.lt
  have F2 := HF2.out.below b3 HF2.out.lt
  have r3 := Reads.later r3 b3
  have r4 := k4.reads
  obtain ⟨x0, x1, x2⟩ := qcells Q2
  obtain ⟨y0, y1, y2⟩ := qcells F2
  have HQ2 := Lib.hid Q2
  have HF2 := Lib.hid F2
  clear Q2 F2 hh P2 b3 k4 b02
  go_wp2_with fail
  refine wp_region_up New [(true, 0), (true, 1), (true, 2), (true, 3), (true, 4), (true, 5), (true, 6), (true, 7), (true, 8), (true, 9), (true, 10), (true, 11), (true, 12), (true, 13), (true, 14), (true, 15), (true, 17), (true, 18), (false, 16), (false, 19), (true, 20), (true, 21), (true, 22)]
    New.refl New.trans (by kernel_rfl) (by kernel_rfl) (by kernel_rfl) (by kernel_rfl) ?_
  have hU := New.drew w3
  repeat (first
    | (refine up_call rfl rfl (fun K hK => ?_); go_simp
       first
       | ((with_reducible refine (HF.out _ (New.trans b03 hU)).mono ?_))
       | ((with_reducible refine (HG.out _ (New.trans b03 hU)).mono ?_))
       rintro e w9 ⟨rfl, b9⟩
       refine hK _ _ b9 ?_
       clear hK
       replace hU := New.trans hU b9)
    | (refine up_str elB.ht (by kernel_rfl) (by kernel_rfl) rfl rfl rfl r3 hU ?_; simp only [Act.put, List.setIfInBounds_toArray, List.set_cons_zero, List.set_cons_succ])
    | (refine up_str elB.ht (by kernel_rfl) (by kernel_rfl) rfl rfl rfl r4 hU ?_; simp only [Act.put, List.setIfInBounds_toArray, List.set_cons_zero, List.set_cons_succ])
    | (refine up_quiet rfl rfl (v := ?_) (fun W hW => ?_) ?_; rotate_left; (obtain ⟨x0, x1, x2⟩ := qcells (HQ2.out.below (New.trans hU hW) HQ2.out.lt); obtain ⟨y0, y1, y2⟩ := qcells (HF2.out.below (New.trans hU hW) HF2.out.lt); go_simp <;> with_reducible rfl); simp only [Act.put, List.setIfInBounds_toArray, List.set_cons_zero, List.set_cons_succ]))
  refine up_nil ?_
  go_wp2
  go_ret
  exact ⟨by simp, New.trans b03 hU⟩

set_option maxHeartbeats 400000 in
theorem queryEncodes_big {w : World} {A A1 A2 : Option Addr} {n c n1 c1 n2 c2 : Nat} {f t rows : Int} (hn : n ≤ 9223372036854775807) (hn1 : n1 ≤ 9223372036854775807) (hb : 100 < n ∨ 100 < n1) :
    Calls Try.prog 3 #[Qv A n c f t, Fv A1 n1 c1 rows A2 n2 c2] w (SmallPost w) := by
  obtain ⟨W0, hW0⟩ : ∃ W, W = (w.alloc (.cells #[.slice A n c, .int .i64 f, .int .i64 t] 24)).alloc (.cells #[.slice A1 n1 c1, .int .i64 rows, .slice A2 n2 c2] 28) := ⟨_, rfl⟩
  have b0 : New w W0 := by rw [hW0]; exact ((Below.refl _ _).alloc (Nat.le_refl _) _).alloc (by simp) _
  have Q0 : Blk W0 w.heap.size 24 #[.slice A n c, .int .i64 f, .int .i64 t] := by rw [hW0]; exact (Blk.new _ _ _).alloc _
  have F0 : Blk W0 (w.heap.size + 1) 28 #[.slice A1 n1 c1, .int .i64 rows, .slice A2 n2 c2] := by
    rw [hW0]
    have := Blk.new (w.alloc (.cells #[.slice A n c, .int .i64 f, .int .i64 t] 24)) 28 #[.slice A1 n1 c1, .int .i64 rows, .slice A2 n2 c2]
    simpa using this
  by_cases h1 : 100 < n
  all_goals try (have t1 : decide (100 < (n : Int)) = false := by simp; omega)
  all_goals try (have h3 : 100 < n1 := by omega)
  all_goals
    clear hb
    go_enter Try.func3, Try.ntmps3
    go_wp2_with fail
    refine (small24_any _).mono ?_
    rintro e w1 ⟨rfl, b1⟩
    rw [← hW0] at b1
    have b01 := New.trans b0 b1
    have Q1 := Q0.below b1 Q0.lt
    have F1 := F0.below b1 F0.lt
    obtain ⟨x0, x1, x2⟩ := qcells Q1
    obtain ⟨y0, y1, y2⟩ := qcells F1
    clear Q0 F0 b1 b0 hW0 Q1 F1
    go_wp2
    go_ret
    exact ⟨rfl, b01⟩

set_option maxRecDepth 100000 in
open Go.WideShapes Go.ChangeShapes in
theorem queryEncodes_contract {H : Type} {enc : TypeId × Value → H} (W : World) (base : Nat) (args : Array Value) (ds : List (DataW H)) (ps : List MemPlace)
    (hval : ∀ (j : Nat) t v, Try.f3.params[j]? = some t → args[j]? = some v → Value.okWide Try.prog W .any base t v)
    (hA : DataW.TrodAll enc Try.prog W 0 (fun _ => true) true Try.f3.params.toList args.toList ds ps) (hlt : ∀ p ∈ ps, p.block < W.heap.size)
    (hsz : (DataW.weightsEach Try.prog Try.f3.params.toList ds).all (· ≤ reachBytes) = true) :
    Calls Try.prog 3 args W fun e W' => e = .returned (.bool true) ∧ Below W.heap.size W W' := by
  rw [Try.params3] at hA hval hsz
  obtain ⟨v0, v1, d0, d1, p0, p1, rfl, rfl, rfl, h0, h1⟩ := trodAll_two hA
  -- q: v0 d0 p0 h0, hval 0
  -- f: v1 d1 p1 h1, hval 1
  obtain ⟨A, c, l, f, t, rfl, hc, hm, hr, hl⟩ := open_Q (hval 0 _ _ rfl rfl) h0 (fun p hp => hlt p (by simp [hp])) (sized_at hsz (j := 0) rfl rfl)
  obtain ⟨A1, n1, c1, rows, A2, n2, c2, rfl, hc1, hm1⟩ := open_F (hval 1 _ _ rfl rfl) h1 (fun p hp => hlt p (by simp [hp])) (sized_at hsz (j := 1) rfl rfl)
  simp only [maxLen] at hm1
  by_cases hb : 100 < l.length ∨ 100 < n1
  · exact queryEncodes_big (by omega) (by omega) hb
  · exact queryEncodes_walk hr (by omega) (by omega) hl

end Go.Proofs.Ytpdjgmhhbdfdcaa
