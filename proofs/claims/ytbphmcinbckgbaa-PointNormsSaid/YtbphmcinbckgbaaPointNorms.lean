/- PointNorms returns true whatever comes in, and leaves all that was there as it was. -/
import Derived.Test.YtbphmcinbckgbaaOpenPt

namespace Go.Proofs.Ytbphmcinbckgbaa
open Go.RowKit Go.Hm
theorem norm_mul (x y u v : Int) : (x * u - y * v) * (x * u - y * v) + (x * v + y * u) * (x * v + y * u) = (x * x + y * y) * (u * u + v * v) := by grind
theorem turn_norm (k : Nat) (p : Int × Int) : (turnI k p).1 * (turnI k p).1 + (turnI k p).2 * (turnI k p).2 = p.1 * p.1 + p.2 * p.2 := by
  induction k with
  | zero => rfl
  | succ k ih =>
    rw [← ih]
    simp only [turnI, Int.neg_mul_neg]
    omega
theorem turn_add (k m : Nat) (p : Int × Int) : turnI k (turnI m p) = turnI (k + m) p := by
  induction k with
  | zero => simp [turnI]
  | succ k ih => rw [show k + 1 + m = (k + m) + 1 by omega, turnI, turnI, ih]
theorem turn_four (p : Int × Int) : turnI 4 p = p := by
  simp [turnI]
theorem turn_back (n : Int) (p : Int × Int) : turnI ((-n) % 4).toNat (turnI (n % 4).toNat p) = p := by
  rw [turn_add]
  have h : ((-n) % 4).toNat + (n % 4).toNat = 0 ∨ ((-n) % 4).toNat + (n % 4).toNat = 4 := by omega
  rcases h with h | h
  · rw [h]; rfl
  · rw [h, turn_four]
theorem nearM {x a : Int} (hx : -2097152 ≤ x ∧ x ≤ 2097152) (ha : -128 ≤ a ∧ a ≤ 127) : -268435456 ≤ x * a ∧ x * a ≤ 268435456 := by
  have h1 : (x * a).natAbs ≤ 2097152 * 128 := by
    rw [Int.natAbs_mul]
    exact Nat.mul_le_mul (by omega) (by omega)
  omega
theorem sqM {s : Int} (h : -536870912 ≤ s ∧ s ≤ 536870912) : 0 ≤ s * s ∧ s * s ≤ 288230376151711744 := by
  have h1 : (s * s).natAbs ≤ 536870912 * 536870912 := by
    rw [Int.natAbs_mul]
    exact Nat.mul_le_mul (by omega) (by omega)
  have h2 : 0 ≤ s * s := by
    rcases Int.le_total 0 s with h | h
    · exact Int.mul_nonneg h h
    · exact Int.mul_nonneg_of_nonpos_of_nonpos h h
  omega
set_option maxHeartbeats 2000000 in
set_option maxRecDepth 100000 in
theorem pointNorms_walk {w : World} {x y a b n : Int} (ha : -128 ≤ a ∧ a ≤ 127) (hb : -128 ≤ b ∧ b ≤ 127) :
    Calls Try.prog 4 #[.agg #[.int .i64 x, .int .i64 y], .int .i8 a, .int .i8 b, .int .i64 n] w (SmallPost w) := by
  obtain ⟨W0, hW0⟩ : ∃ W, W = w.alloc (.cells #[.int .i64 x, .int .i64 y] 23) := ⟨_, rfl⟩
  have b0 : New w W0 := by rw [hW0]; exact (Below.refl _ _).alloc (Nat.le_refl _) _
  have A0 : Blk W0 w.heap.size 23 #[.int .i64 x, .int .i64 y] := by rw [hW0]; exact Blk.new _ _ _
  have F := Lib.hid (fun (W : World) (hW : New W0 W) => cells2 (A0.below hW A0.lt))
  have SM := Lib.hid (small06_any W0)
  have N1 := Lib.hid (fun W : World => near_any (w := W) x y)
  have HP1 := Lib.hid (@nearB_iff x y)
  generalize nearB x y = NB1 at *
  have HW := Lib.hid hW0
  have HB := Lib.hid b0
  have HA := Lib.hid ha
  have HBb := Lib.hid hb
  have ha1 := ha.1
  have ha2 := ha.2
  have hb1 := hb.1
  have hb2 := hb.2
  clear hW0 b0 A0 ha hb
  go_enter Try.func4, Try.ntmps4
  go_wp2_with fail
  rw [← HW.out]
  refine SM.out.mono ?_
  rintro e w1 ⟨rfl, b1⟩
  clear SM HW
  obtain ⟨x0, x1⟩ := F.out w1 b1
  go_wp2_with fail
  refine (N1.out _).mono ?_
  rintro e w2 ⟨rfl, b2⟩
  have b2 := New.trans b1 b2
  clear x0 x1 N1 b1
  obtain ⟨x0, x1⟩ := F.out w2 b2
  have HD := Lib.hid (New.trans b2 ((Below.refl w2.heap.size w2).alloc (Nat.le_refl _) (.cells #[.int .i64 a, .int .i64 b] 23)))
  cases NB1 with
  | false =>
    go_wp2
    go_ret
    exact ⟨rfl, New.trans HB.out HD.out⟩
  | true =>
  by_cases h1 : 1099511627776 < n
  · have t1 : decide (1099511627776 < n) = true := by simpa using h1
    go_wp2
    go_ret
    exact ⟨rfl, New.trans HB.out HD.out⟩
  have t1 : decide (1099511627776 < n) = false := by simpa using h1
  by_cases h2 : n < -1099511627776
  · have t2 : decide (n < -1099511627776) = true := by simpa using h2
    go_wp2
    go_ret
    exact ⟨rfl, New.trans HB.out HD.out⟩
  have t2 : decide (n < -1099511627776) = false := by simpa using h2
  obtain ⟨hx, hy⟩ := HP1.out.1 rfl
  have ha := HA.out
  have hb := HBb.out
  obtain ⟨W3, hW3⟩ : ∃ W, W = w2.alloc (.cells #[.int .i64 a, .int .i64 b] 23) := ⟨_, rfl⟩
  have b23 : New w2 W3 := by rw [hW3]; exact (Below.refl _ _).alloc (Nat.le_refl _) _
  have b3 := New.trans b2 b23
  have Q3 : Blk W3 w2.heap.size 23 #[.int .i64 a, .int .i64 b] := by rw [hW3]; exact Blk.new _ _ _
  have MM := fun W : World => pmul_any (w := W) (x := x) (y := y) (u := a) (v := b) hx hy (by omega) (by omega)
  have MN := fun W : World => pmul_any (w := W) (x := a) (y := b) (u := x) (v := y) (by omega) (by omega) hx hy
  have TT := fun W : World => pturn_any (w := W) (n := n) hx hy
  obtain ⟨tn1, tn2⟩ := turn_near (n % 4).toNat (x, y) hx hy
  have TB := fun W : World => pturn_any (w := W) (x := (turnI (n % 4).toNat (x, y)).1) (y := (turnI (n % 4).toNat (x, y)).2) (n := -n) tn1 tn2
  have TF := fun W : World => pturn_any (w := W) (x := x) (y := y) (n := n + 4) hx hy
  have NP := fun W : World => norm_any (w := W) hx hy
  have NQ := fun W : World => norm_any (w := W) (x := a) (y := b) (by omega) (by omega)
  have NT := fun W : World => norm_any (w := W) tn1 tn2
  rw [turn_norm] at NT
  have tb := turn_back n (x, y)
  rw [show ((turnI (n % 4).toNat (x, y)).1, (turnI (n % 4).toNat (x, y)).2) = turnI (n % 4).toNat (x, y) from rfl, tb] at TB
  rw [show (n + 4) % 4 = n % 4 by omega] at TF
  have c1 : a * x - b * y = x * a - y * b := by rw [Int.mul_comm a x, Int.mul_comm b y]
  have c2 : a * y + b * x = x * b + y * a := by rw [Int.mul_comm a y, Int.mul_comm b x, Int.add_comm]
  rw [c1, c2] at MN
  have nm := norm_mul x y a b
  have q1 := nearM hx ha
  have q2 := nearM hy hb
  have q3 := nearM hx hb
  have q4 := nearM hy ha
  have q5 := sqM (s := x * a - y * b) (by omega)
  have q6 := sqM (s := x * b + y * a) (by omega)
  clear tb c1 c2 tn1 tn2 q1 q2 q3 q4 HA HBb HP1 HD
  simp only at NT TB
  generalize x * a - y * b = zx at *
  generalize x * b + y * a = zy at *
  generalize (turnI (n % 4).toNat (x, y)).1 = tx at *
  generalize (turnI (n % 4).toNat (x, y)).2 = ty at *
  generalize x * x + y * y = np at *
  generalize a * a + b * b = nq at *
  have w1' : IntKind.i64.wrap (zx * zx) = zx * zx := by rw [IntKind.wrap_i64]; omega
  have w2' : IntKind.i64.wrap (zy * zy) = zy * zy := by rw [IntKind.wrap_i64]; omega
  have w3' : IntKind.i64.wrap (zx * zx + zy * zy) = zx * zx + zy * zy := by rw [IntKind.wrap_i64]; omega
  have w4' : IntKind.i64.wrap (np * nq) = zx * zx + zy * zy := by rw [← nm, IntKind.wrap_i64]; omega
  have w5' : IntKind.i64.wrap (-n) = -n := by rw [IntKind.wrap_i64]; omega
  have w6' : IntKind.i64.wrap (n + 4) = n + 4 := by rw [IntKind.wrap_i64]; omega
  have WR := Lib.hid (And.intro w1' (And.intro w2' (And.intro w3' (And.intro w4' (And.intro w5' w6')))))
  replace MM := Lib.hid MM
  replace MN := Lib.hid MN
  replace TT := Lib.hid TT
  replace TB := Lib.hid TB
  replace TF := Lib.hid TF
  replace NP := Lib.hid NP
  replace NQ := Lib.hid NQ
  replace NT := Lib.hid NT
  have HW3 := Lib.hid hW3
  have F3 := Lib.hid (fun (W : World) (hW : New W3 W) => And.intro (F.out W (New.trans b3 hW)) (cells2 (Q3.below hW Q3.lt)))
  have HB3 := Lib.hid (New.trans HB.out b3)
  obtain ⟨⟨y0, y1⟩, y2, y3⟩ := F3.out W3 (New.refl _)
  rw [hW3] at y0 y1 y2 y3
  clear x0 x1 hx hy ha hb nm q5 q6 w1' w2' w3' w4' w5' w6' h1 h2 hW3 Q3 b23 b3 b2 F HB
  go_wp2_with fail
  rw [← HW3.out]
  (with_reducible refine (MM.out _).mono ?_)
  rintro e w4 ⟨rfl, b4⟩
  obtain ⟨W5, hW5⟩ : ∃ W, W = w4.alloc (.cells #[.int .i64 zx, .int .i64 zy] 23) := ⟨_, rfl⟩
  have b5 : New W3 W5 := by rw [hW5]; exact New.trans b4 ((Below.refl _ _).alloc (Nat.le_refl _) _)
  have Z5 : Blk W5 w4.heap.size 23 #[.int .i64 zx, .int .i64 zy] := by rw [hW5]; exact Blk.new _ _ _
  clear y0 y1 y2 y3 b4 HW3
  obtain ⟨⟨y0, y1⟩, y2, y3⟩ := F3.out W5 b5
  rw [hW5] at y0 y1 y2 y3
  have HW5 := Lib.hid hW5
  clear hW5
  go_wp2_with fail
  rw [← HW5.out]
  (with_reducible refine (TT.out _).mono ?_)
  rintro e w6 ⟨rfl, b6⟩
  obtain ⟨W7, hW7⟩ : ∃ W, W = w6.alloc (.cells #[.int .i64 tx, .int .i64 ty] 23) := ⟨_, rfl⟩
  have b57 : New W5 W7 := by rw [hW7]; exact New.trans b6 ((Below.refl _ _).alloc (Nat.le_refl _) _)
  have T7 : Blk W7 w6.heap.size 23 #[.int .i64 tx, .int .i64 ty] := by rw [hW7]; exact Blk.new _ _ _
  have F7 := Lib.hid (fun (W : World) (hW : New W7 W) => And.intro (F3.out W (New.trans b5 (New.trans b57 hW))) (And.intro (cells2 (Z5.below (New.trans b57 hW) Z5.lt)) (cells2 (T7.below hW T7.lt))))
  have HB7 := Lib.hid (New.trans HB3.out (New.trans b5 b57))
  have HW7 := Lib.hid hW7
  clear y0 y1 y2 y3 b6 HW5 hW7 T7 Z5 b57 b5 F3 HB3 TT
  go_wp2_with fail
  rw [← HW7.out]
  obtain ⟨v1, v2, v3, v4, v5, v6⟩ := WR.out
  refine wp_region_up New [(true, 0), (true, 1), (true, 2), (true, 3), (true, 4), (true, 5), (true, 6), (true, 7), (true, 8), (true, 9), (true, 10), (true, 11), (true, 12), (true, 13), (true, 15), (false, 14), (false, 16), (true, 17), (true, 18), (true, 19), (true, 20), (true, 21), (true, 23), (false, 22), (false, 24), (true, 25), (true, 26), (true, 27), (true, 28), (true, 29), (true, 30), (true, 32), (false, 31), (true, 33), (true, 34), (true, 35), (true, 36), (true, 37), (true, 38), (true, 40), (false, 39), (true, 41), (true, 42), (true, 43), (true, 44), (true, 45), (true, 47), (true, 48), (false, 46), (false, 49), (true, 50), (true, 51), (true, 52)]
    New.refl New.trans (by kernel_rfl) (by kernel_rfl) (by kernel_rfl) (by kernel_rfl) ?_
  have hU := New.drew W7
  repeat (first
    | (refine up_quiet rfl rfl (v := ?_) (fun W hW => ?_) ?_; rotate_left; ((obtain ⟨⟨⟨x0, x1⟩, y0, y1⟩, ⟨z0, z1⟩, t0, t1⟩ := F7.out W (New.trans hU hW)); go_simp <;> with_reducible rfl); simp only [Act.put, List.setIfInBounds_toArray, List.set_cons_zero, List.set_cons_succ])
    | (refine up_skip rfl rfl ?_; simp only [Act.put, List.setIfInBounds_toArray, List.set_cons_zero, List.set_cons_succ])
    | (refine up_call rfl rfl (fun K hK => ?_); go_simp
       first
         | (with_reducible refine (MM.out _).mono ?_)
         | (with_reducible refine (MN.out _).mono ?_)
         | (with_reducible refine (TB.out _).mono ?_)
         | (with_reducible refine (TF.out _).mono ?_)
         | (with_reducible refine (NP.out _).mono ?_)
         | (with_reducible refine (NQ.out _).mono ?_)
         | (with_reducible refine (NT.out _).mono ?_)
       rintro e w9 ⟨rfl, c⟩
       refine hK _ _ c ?_
       clear hK
       replace hU := New.trans hU c))
  refine up_nil ?_
  clear v1 v2 v3 v4 v5 v6
  go_wp2
  go_ret
  exact ⟨by simp, New.trans HB7.out hU⟩
open Go.WideShapes Go.ChangeShapes in
theorem open_i8 {H : Type} {enc : TypeId × Value → H} {W : World} {base : Nat} {v : Value} {d : DataW H} {ps : List MemPlace} (hval : Value.okWide Try.prog W .any base 31 v) (h : DataW.Trod enc Try.prog W 0 (fun _ => true) true 31 v d ps) : ∃ x : Int, v = .int .i8 x ∧ -128 ≤ x ∧ x ≤ 127 := by
  obtain ⟨y, rfl, _, _, wy⟩ := open_int (k := .i8) (by kernel_rfl) hval h
  simp [Lit.wf, IntKind.min, IntKind.max, IntKind.signed, IntKind.bits] at wy
  exact ⟨y, rfl, by omega⟩

set_option maxRecDepth 100000 in
open Go.WideShapes Go.ChangeShapes in
theorem pointNorms_contract {H : Type} {enc : TypeId × Value → H} (W : World) (base : Nat) (args : Array Value) (ds : List (DataW H)) (ps : List MemPlace)
    (hval : ∀ (j : Nat) t v, Try.f4.params[j]? = some t → args[j]? = some v → Value.okWide Try.prog W .any base t v)
    (hA : DataW.TrodAll enc Try.prog W 0 (fun _ => true) true Try.f4.params.toList args.toList ds ps) (hlt : ∀ p ∈ ps, p.block < W.heap.size)
    (hsz : (DataW.weightsEach Try.prog Try.f4.params.toList ds).all (· ≤ reachBytes) = true) :
    Calls Try.prog 4 args W fun e W' => e = .returned (.bool true) ∧ Below W.heap.size W W' := by
  rw [Try.params4] at hA hval hsz
  obtain ⟨v0, v1, v2, v3, d0, d1, d2, d3, p0, p1, p2, p3, rfl, rfl, rfl, h0, h1, h2, h3⟩ := trodAll_four hA
  -- a: v0 d0 p0 h0, hval 0
  -- b: v1 d1 p1 h1, hval 1
  -- c: v2 d2 p2 h2, hval 2
  obtain ⟨n, rfl, wn, wn'⟩ := open_i64 (hval 3 _ _ rfl rfl) h3
  obtain ⟨x, y, rfl⟩ := open_Pt (hval 0 _ _ rfl rfl) h0 (fun p hp => hlt p (by simp [hp])) (sized_at hsz (j := 0) rfl rfl)
  obtain ⟨a, rfl, ha⟩ := open_i8 (hval 1 _ _ rfl rfl) h1
  obtain ⟨b, rfl, hb⟩ := open_i8 (hval 2 _ _ rfl rfl) h2
  exact pointNorms_walk ha hb

end Go.Proofs.Ytbphmcinbckgbaa
