/- PointReckons returns true whatever comes in, and leaves all that was there as it was. -/
import Derived.Test.YtbphmcinbckgbaaOpenPt

namespace Go.Proofs.Ytbphmcinbckgbaa
open Go.RowKit Go.Hm
set_option maxHeartbeats 8000000 in
set_option maxRecDepth 100000 in
theorem pointReckons_walk {w : World} {x y u v n : Int} :
    Calls Try.prog 3 #[.agg #[.int .i64 x, .int .i64 y], .agg #[.int .i64 u, .int .i64 v], .int .i64 n] w (SmallPost w) := by
  obtain ⟨W1, hW1⟩ : ∃ W, W = w.alloc (.cells #[.int .i64 x, .int .i64 y] 23) := ⟨_, rfl⟩
  obtain ⟨W0, hW0⟩ : ∃ W, W = W1.alloc (.cells #[.int .i64 u, .int .i64 v] 23) := ⟨_, rfl⟩
  have b1 : New w W1 := by rw [hW1]; exact (Below.refl _ _).alloc (Nat.le_refl _) _
  have b2 : New W1 W0 := by rw [hW0]; exact (Below.refl _ _).alloc (Nat.le_refl _) _
  have b0 := New.trans b1 b2
  have s1 : W1.heap.size = w.heap.size + 1 := by rw [hW1]; simp
  have A0 : Blk W0 w.heap.size 23 #[.int .i64 x, .int .i64 y] := by rw [hW0, hW1]; exact (Blk.new _ _ _).alloc _
  have B0 : Blk W0 (w.heap.size + 1) 23 #[.int .i64 u, .int .i64 v] := by rw [hW0, ← s1]; exact Blk.new _ _ _
  rw [hW1] at hW0
  have F := Lib.hid (fun (W : World) (hW : New W0 W) => And.intro (cells2 (A0.below hW A0.lt)) (cells2 (B0.below hW B0.lt)))
  have SM := Lib.hid (small06_any W0)
  have N1 := Lib.hid (fun W : World => near_any (w := W) x y)
  have N2 := Lib.hid (fun W : World => near_any (w := W) u v)
  have R1 := Lib.hid (fun W : World => pright_any (w := W) x y)
  have R2 := Lib.hid (fun W : World => rpright6_any (w := W) x y)
  have HP1 := Lib.hid (@nearB_iff x y)
  have HP2 := Lib.hid (@nearB_iff u v)
  generalize nearB x y = NB1 at *
  generalize nearB u v = NB2 at *
  generalize inBox x y = IB at *
  have HW := Lib.hid hW0
  have HB := Lib.hid b0
  clear hW0 hW1 b0 b1 b2 A0 B0 s1
  go_enter Try.func3, Try.ntmps3
  go_wp2_with fail
  rw [← HW.out]
  refine SM.out.mono ?_
  rintro e w1 ⟨rfl, b1⟩
  clear SM HW
  obtain ⟨⟨x0, x1⟩, y0, y1⟩ := F.out w1 b1
  go_wp2_with fail
  refine (N1.out _).mono ?_
  rintro e w2 ⟨rfl, b2⟩
  have b2 := New.trans b1 b2
  clear x0 x1 y0 y1 N1 b1
  obtain ⟨⟨x0, x1⟩, y0, y1⟩ := F.out w2 b2
  go_wp2_with fail
  refine (N2.out _).mono ?_
  rintro e w3 ⟨rfl, b3⟩
  have b3 := New.trans b2 b3
  clear x0 x1 y0 y1 N2 b2
  go_wp2_with fail
  refine wp_region_up New [(true, 0), (true, 2), (false, 1), (false, 3), (true, 4)]
    New.refl New.trans (by kernel_rfl) (by kernel_rfl) (by kernel_rfl) (by kernel_rfl) ?_
  have hU := New.trans b3 (New.drew w3)
  repeat (first
    | (refine up_quiet rfl rfl (v := ?_) (fun W hW => ?_) ?_; rotate_left; ((obtain ⟨⟨x0, x1⟩, y0, y1⟩ := F.out W (New.trans hU hW)); go_simp <;> with_reducible rfl); simp only [Act.put, List.setIfInBounds_toArray, List.set_cons_zero, List.set_cons_succ])
    | (refine up_skip rfl rfl ?_; simp only [Act.put, List.setIfInBounds_toArray, List.set_cons_zero, List.set_cons_succ])
    | (refine up_call rfl rfl (fun K hK => ?_); go_simp
       first
         | (with_reducible refine (R1.out _).mono ?_)
         | (with_reducible refine (R2.out _).mono ?_)
       rintro e w9 ⟨rfl, c⟩
       refine hK _ _ c ?_
       clear hK
       replace hU := New.trans hU c))
  refine up_nil ?_
  clear R1 R2 b3
  cases NB1 with
  | false =>
    go_wp2
    go_ret
    exact ⟨rfl, New.trans HB.out hU⟩
  | true =>
  cases NB2 with
  | false =>
    go_wp2
    go_ret
    exact ⟨rfl, New.trans HB.out hU⟩
  | true =>
  obtain ⟨hx, hy⟩ := HP1.out.1 rfl
  obtain ⟨hu, hv⟩ := HP2.out.1 rfl
  have A1 := fun W : World => padd_any (w := W) hx hy hu hv
  have A2 := fun W : World => rpadd_any (w := W) hx hy hu hv
  have S1 := fun W : World => psub_any (w := W) hx hy hu hv
  have S2 := fun W : World => rpsub_any (w := W) hx hy hu hv
  have M1 := fun W : World => pmul_any (w := W) hx hy hu hv
  have M2 := fun W : World => rpmul_any (w := W) hx hy hu hv
  have T1 := fun W : World => pturn_any (w := W) (n := n) hx hy
  have T2 := fun W : World => rpturn_any (w := W) (n := n) hx hy
  have K1 := fun W : World => norm_any (w := W) hx hy
  have K2 := fun W : World => rnorm_any (w := W) hx hy
  have C1 := fun W : World => pcompare_any (w := W) hx hy hu hv
  have C2 := fun W : World => rpcompare_any (w := W) hx hy hu hv
  generalize x + u = r1 at *
  generalize y + v = r2 at *
  generalize x - u = r3 at *
  generalize y - v = r4 at *
  generalize x * u - y * v = r5 at *
  generalize x * v + y * u = r6 at *
  generalize (turnI (n % 4).toNat (x, y)).1 = r7 at *
  generalize (turnI (n % 4).toNat (x, y)).2 = r8 at *
  generalize x * x + y * y = r9 at *
  generalize cmpP x y u v = r10 at *
  replace A1 := Lib.hid A1
  replace A2 := Lib.hid A2
  replace S1 := Lib.hid S1
  replace S2 := Lib.hid S2
  replace M1 := Lib.hid M1
  replace M2 := Lib.hid M2
  replace T1 := Lib.hid T1
  replace T2 := Lib.hid T2
  replace K1 := Lib.hid K1
  replace K2 := Lib.hid K2
  replace C1 := Lib.hid C1
  replace C2 := Lib.hid C2
  clear hx hy hu hv HP1 HP2
  have hU0 := hU
  clear hU
  go_wp2_with fail
  refine wp_region_up New [(true, 0), (true, 1), (true, 2), (true, 3), (true, 5), (true, 6), (false, 4), (false, 7), (true, 8), (true, 9), (true, 10), (true, 11), (true, 12), (true, 14), (true, 15), (false, 13), (false, 16), (true, 17), (true, 18), (true, 19), (true, 20), (true, 21), (true, 23), (true, 24), (false, 22), (false, 25), (true, 26), (true, 27), (true, 28), (true, 29), (true, 30), (true, 32), (true, 33), (false, 31), (false, 34), (true, 35), (true, 36), (true, 37), (true, 38), (true, 40), (false, 39), (false, 41), (true, 42), (true, 43), (true, 44), (true, 45), (true, 46), (true, 48), (true, 49), (false, 47), (false, 50), (true, 51), (true, 52), (true, 53)]
    New.refl New.trans (by kernel_rfl) (by kernel_rfl) (by kernel_rfl) (by kernel_rfl) ?_
  have hU := New.trans hU0 (New.drew _)
  repeat (first
    | (refine up_quiet rfl rfl (v := ?_) (fun W hW => ?_) ?_; rotate_left; ((obtain ⟨⟨x0, x1⟩, y0, y1⟩ := F.out W (New.trans hU hW)); go_simp <;> with_reducible rfl); simp only [Act.put, List.setIfInBounds_toArray, List.set_cons_zero, List.set_cons_succ])
    | (refine up_skip rfl rfl ?_; simp only [Act.put, List.setIfInBounds_toArray, List.set_cons_zero, List.set_cons_succ])
    | (refine up_call rfl rfl (fun K hK => ?_); go_simp
       first
         | (with_reducible refine (A1.out _).mono ?_)
         | (with_reducible refine (A2.out _).mono ?_)
         | (with_reducible refine (S1.out _).mono ?_)
         | (with_reducible refine (S2.out _).mono ?_)
         | (with_reducible refine (M1.out _).mono ?_)
         | (with_reducible refine (M2.out _).mono ?_)
         | (with_reducible refine (T1.out _).mono ?_)
         | (with_reducible refine (T2.out _).mono ?_)
         | (with_reducible refine (K1.out _).mono ?_)
         | (with_reducible refine (K2.out _).mono ?_)
         | (with_reducible refine (C1.out _).mono ?_)
         | (with_reducible refine (C2.out _).mono ?_)
       rintro e w9 ⟨rfl, c⟩
       refine hK _ _ c ?_
       clear hK
       replace hU := New.trans hU c))
  refine up_nil ?_
  go_wp2
  go_ret
  exact ⟨by simp, New.trans HB.out hU⟩

set_option maxRecDepth 100000 in
open Go.WideShapes Go.ChangeShapes in
theorem pointReckons_contract {H : Type} {enc : TypeId × Value → H} (W : World) (base : Nat) (args : Array Value) (ds : List (DataW H)) (ps : List MemPlace)
    (hval : ∀ (j : Nat) t v, Try.f3.params[j]? = some t → args[j]? = some v → Value.okWide Try.prog W .any base t v)
    (hA : DataW.TrodAll enc Try.prog W 0 (fun _ => true) true Try.f3.params.toList args.toList ds ps) (hlt : ∀ p ∈ ps, p.block < W.heap.size)
    (hsz : (DataW.weightsEach Try.prog Try.f3.params.toList ds).all (· ≤ reachBytes) = true) :
    Calls Try.prog 3 args W fun e W' => e = .returned (.bool true) ∧ Below W.heap.size W W' := by
  rw [Try.params3] at hA hval hsz
  obtain ⟨v0, v1, v2, d0, d1, d2, p0, p1, p2, rfl, rfl, rfl, h0, h1, h2⟩ := trodAll_three hA
  -- a: v0 d0 p0 h0, hval 0
  -- b: v1 d1 p1 h1, hval 1
  obtain ⟨n, rfl, wn, wn'⟩ := open_i64 (hval 2 _ _ rfl rfl) h2
  obtain ⟨x, y, rfl⟩ := open_Pt (hval 0 _ _ rfl rfl) h0 (fun p hp => hlt p (by simp [hp])) (sized_at hsz (j := 0) rfl rfl)
  obtain ⟨u, v, rfl⟩ := open_Pt (hval 1 _ _ rfl rfl) h1 (fun p hp => hlt p (by simp [hp])) (sized_at hsz (j := 1) rfl rfl)
  exact pointReckons_walk

end Go.Proofs.Ytbphmcinbckgbaa
