/- PointOrder returns true whatever comes in, and leaves all that was there as it was. -/
import Derived.Test.YtbphmcinbckgbaaOpenPt

namespace Go.Proofs.Ytbphmcinbckgbaa
open Go.RowKit Go.Hm
theorem eqlPt {x y u v : Int} (W : World) : (binOp .eql 23 (.agg #[.int .i64 x, .int .i64 y]) (.agg #[.int .i64 u, .int .i64 v])).run Try.prog W = .ok (.bool (x == u && y == v)) W := by
  by_cases h1 : x = u <;> by_cases h2 : y = v
  all_goals go_simp
theorem ptEq (x y u v : Int) : (x == u && y == v) = (cmpP x y u v == 0) := by
  rw [Bool.eq_iff_iff]
  simp only [Bool.and_eq_true, beq_iff_eq, cmpP_zero]
set_option maxHeartbeats 2000000 in
set_option maxRecDepth 100000 in
theorem pointOrder_walk {w : World} {x y u v r s : Int} :
    Calls Try.prog 5 #[.agg #[.int .i64 x, .int .i64 y], .agg #[.int .i64 u, .int .i64 v], .agg #[.int .i64 r, .int .i64 s]] w (SmallPost w) := by
  obtain ⟨W1, hW1⟩ : ∃ W, W = w.alloc (.cells #[.int .i64 x, .int .i64 y] 23) := ⟨_, rfl⟩
  obtain ⟨W2, hW2⟩ : ∃ W, W = W1.alloc (.cells #[.int .i64 u, .int .i64 v] 23) := ⟨_, rfl⟩
  obtain ⟨W0, hW0⟩ : ∃ W, W = W2.alloc (.cells #[.int .i64 r, .int .i64 s] 23) := ⟨_, rfl⟩
  have b1 : New w W1 := by rw [hW1]; exact (Below.refl _ _).alloc (Nat.le_refl _) _
  have b2 : New W1 W2 := by rw [hW2]; exact (Below.refl _ _).alloc (Nat.le_refl _) _
  have b3 : New W2 W0 := by rw [hW0]; exact (Below.refl _ _).alloc (Nat.le_refl _) _
  have b0 := New.trans b1 (New.trans b2 b3)
  have s1 : W1.heap.size = w.heap.size + 1 := by rw [hW1]; simp
  have s2 : W2.heap.size = w.heap.size + 1 + 1 := by rw [hW2]; simp [s1]
  have A0 : Blk W0 w.heap.size 23 #[.int .i64 x, .int .i64 y] := by rw [hW0, hW2, hW1]; exact ((Blk.new _ _ _).alloc _).alloc _
  have B0 : Blk W0 (w.heap.size + 1) 23 #[.int .i64 u, .int .i64 v] := by rw [hW0, hW2, ← s1]; exact (Blk.new _ _ _).alloc _
  have C0 : Blk W0 (w.heap.size + 1 + 1) 23 #[.int .i64 r, .int .i64 s] := by rw [hW0, ← s2]; exact Blk.new _ _ _
  rw [hW2, hW1] at hW0
  have F := Lib.hid (fun (W : World) (hW : New W0 W) => And.intro (cells2 (A0.below hW A0.lt)) (And.intro (cells2 (B0.below hW B0.lt)) (cells2 (C0.below hW C0.lt))))
  have SM := Lib.hid (small06_any W0)
  have N1 := Lib.hid (fun W : World => near_any (w := W) x y)
  have N2 := Lib.hid (fun W : World => near_any (w := W) u v)
  have N3 := Lib.hid (fun W : World => near_any (w := W) r s)
  have HP1 := Lib.hid (@nearB_iff x y)
  have HP2 := Lib.hid (@nearB_iff u v)
  have HP3 := Lib.hid (@nearB_iff r s)
  generalize nearB x y = NB1 at *
  generalize nearB u v = NB2 at *
  generalize nearB r s = NB3 at *
  have HW := Lib.hid hW0
  have HB := Lib.hid b0
  clear hW0 hW1 hW2 b0 b1 b2 b3 A0 B0 C0 s1 s2
  go_enter Try.func5, Try.ntmps5
  go_wp2_with fail
  rw [← HW.out]
  refine SM.out.mono ?_
  rintro e w1 ⟨rfl, b1⟩
  clear SM HW
  obtain ⟨⟨x0, x1⟩, ⟨y0, y1⟩, z0, z1⟩ := F.out w1 b1
  go_wp2_with fail
  refine (N1.out _).mono ?_
  rintro e w2 ⟨rfl, b2⟩
  have b2 := New.trans b1 b2
  clear x0 x1 y0 y1 z0 z1 N1 b1
  obtain ⟨⟨x0, x1⟩, ⟨y0, y1⟩, z0, z1⟩ := F.out w2 b2
  go_wp2_with fail
  refine (N2.out _).mono ?_
  rintro e w3 ⟨rfl, b3⟩
  have b3 := New.trans b2 b3
  clear x0 x1 y0 y1 z0 z1 N2 b2
  obtain ⟨⟨x0, x1⟩, ⟨y0, y1⟩, z0, z1⟩ := F.out w3 b3
  go_wp2_with fail
  refine (N3.out _).mono ?_
  rintro e w4 ⟨rfl, b4⟩
  have b4 := New.trans b3 b4
  clear x0 x1 y0 y1 z0 z1 N3 b3
  obtain ⟨⟨x0, x1⟩, ⟨y0, y1⟩, z0, z1⟩ := F.out w4 b4
  by_cases hn : NB1 = true ∧ NB2 = true ∧ NB3 = true
  · obtain ⟨rfl, rfl, rfl⟩ := hn
    obtain ⟨hx, hy⟩ := HP1.out.1 rfl
    obtain ⟨hu, hv⟩ := HP2.out.1 rfl
    obtain ⟨hr, hs⟩ := HP3.out.1 rfl
    have C1 := fun W : World => pcompare_any (w := W) hx hy hu hv
    have C2 := fun W : World => pcompare_any (w := W) hu hv hr hs
    have C3 := fun W : World => pcompare_any (w := W) hu hv hx hy
    have C4 := fun W : World => pcompare_any (w := W) hx hy hr hs
    have C5 := fun W : World => pcompare_any (w := W) (x := 0) (y := 0) (by omega) (by omega) hx hy
    have TR := Lib.hid (@cmpP_trans x y u v r s)
    have LE := cmpP_least x y
    have ON := Lib.hid (cmpP_one x y u v)
    have EQ := fun W : World => eqlPt (x := x) (y := y) (u := u) (v := v) W
    rw [cmpP_neg] at C3
    rw [ptEq] at EQ
    generalize cmpP x y u v = X at *
    generalize cmpP u v r s = Z at *
    generalize cmpP x y r s = V at *
    generalize cmpP 0 0 x y = L at *
    have d0 : decide (L ≤ 0) = true := by simpa using LE
    replace C1 := Lib.hid C1
    replace C2 := Lib.hid C2
    replace C3 := Lib.hid C3
    replace C4 := Lib.hid C4
    replace C5 := Lib.hid C5
    have HEQ := Lib.hid EQ
    clear hx hy hu hv hr hs HP1 HP2 HP3 LE EQ
    go_wp2_with fail
    (with_reducible refine (C1.out _).mono ?_)
    rintro e w5 ⟨rfl, b5⟩
    have b5 := New.trans b4 b5
    clear x0 x1 y0 y1 z0 z1 C1 b4
    obtain ⟨⟨x0, x1⟩, ⟨y0, y1⟩, z0, z1⟩ := F.out w5 b5
    go_wp2_with fail
    (with_reducible refine (C2.out _).mono ?_)
    rintro e w6 ⟨rfl, b6⟩
    have b6 := New.trans b5 b6
    clear x0 x1 y0 y1 z0 z1 C2 b5
    obtain ⟨⟨x0, x1⟩, ⟨y0, y1⟩, z0, z1⟩ := F.out w6 b6
    go_wp2_with fail
    have hX := ON.out
    have EQ := HEQ.out
    clear ON HEQ
    by_cases hz : 0 < Z
    all_goals rcases hX with hX | hX | hX
    all_goals
      subst hX
      (with_reducible refine (C3.out _).mono ?_)
      rintro e w7 ⟨rfl, b7⟩
      have b7 := New.trans b6 b7
      clear x0 x1 y0 y1 z0 z1
      obtain ⟨⟨x0, x1⟩, ⟨y0, y1⟩, z0, z1⟩ := F.out w7 b7
      try (have hv : V ≤ 0 := TR.out (by decide) (by omega))
      try (have d2 : decide (V ≤ 0) = true := by simpa using hv)
      try (have d1 : decide (0 < Z) = true := by simpa using hz)
      try (have d1 : decide (0 < Z) = false := by simpa using hz)
      try clear hv
      clear hz
      go_wp2_with fail
      first
        | ((with_reducible refine (C5.out _).mono ?_)
           rintro e w8 ⟨rfl, b8⟩
           have b8 := New.trans b7 b8
           go_wp2
           go_ret
           exact ⟨by simp, New.trans HB.out b8⟩)
        | ((with_reducible refine (C4.out _).mono ?_)
           rintro e w8 ⟨rfl, b8⟩
           have b8 := New.trans b7 b8
           clear x0 x1 y0 y1 z0 z1
           obtain ⟨⟨x0, x1⟩, ⟨y0, y1⟩, z0, z1⟩ := F.out w8 b8
           go_wp2_with fail
           (with_reducible refine (C5.out _).mono ?_)
           rintro e w9 ⟨rfl, b9⟩
           have b9 := New.trans b8 b9
           go_wp2
           go_ret
           exact ⟨by simp, New.trans HB.out b9⟩)
  · have hc : NB1 = false ∨ (NB1 = true ∧ NB2 = false) ∨ (NB1 = true ∧ NB2 = true ∧ NB3 = false) := by
      revert hn
      cases NB1 <;> cases NB2 <;> cases NB3 <;> simp
    clear hn HP1 HP2 HP3
    rcases hc with rfl | ⟨rfl, rfl⟩ | ⟨rfl, rfl, rfl⟩
    all_goals
      go_wp2
      go_ret
      exact ⟨rfl, New.trans HB.out b4⟩

set_option maxRecDepth 100000 in
open Go.WideShapes Go.ChangeShapes in
theorem pointOrder_contract {H : Type} {enc : TypeId × Value → H} (W : World) (base : Nat) (args : Array Value) (ds : List (DataW H)) (ps : List MemPlace)
    (hval : ∀ (j : Nat) t v, Try.f5.params[j]? = some t → args[j]? = some v → Value.okWide Try.prog W .any base t v)
    (hA : DataW.TrodAll enc Try.prog W 0 (fun _ => true) true Try.f5.params.toList args.toList ds ps) (hlt : ∀ p ∈ ps, p.block < W.heap.size)
    (hsz : (DataW.weightsEach Try.prog Try.f5.params.toList ds).all (· ≤ reachBytes) = true) :
    Calls Try.prog 5 args W fun e W' => e = .returned (.bool true) ∧ Below W.heap.size W W' := by
  rw [Try.params5] at hA hval hsz
  obtain ⟨v0, v1, v2, d0, d1, d2, p0, p1, p2, rfl, rfl, rfl, h0, h1, h2⟩ := trodAll_three hA
  -- a: v0 d0 p0 h0, hval 0
  -- b: v1 d1 p1 h1, hval 1
  -- c: v2 d2 p2 h2, hval 2
  obtain ⟨x, y, rfl⟩ := open_Pt (hval 0 _ _ rfl rfl) h0 (fun p hp => hlt p (by simp [hp])) (sized_at hsz (j := 0) rfl rfl)
  obtain ⟨u, v, rfl⟩ := open_Pt (hval 1 _ _ rfl rfl) h1 (fun p hp => hlt p (by simp [hp])) (sized_at hsz (j := 1) rfl rfl)
  obtain ⟨r, s, rfl⟩ := open_Pt (hval 2 _ _ rfl rfl) h2 (fun p hp => hlt p (by simp [hp])) (sized_at hsz (j := 2) rfl rfl)
  exact pointOrder_walk

end Go.Proofs.Ytbphmcinbckgbaa
