/- Contracts on the document's points: ref06.Add, Sub, Mul, Turn; law06.Near. -/
import Derived.Test.YtbphmcinbckgbaaPtM
import Derived.Test.YtbphmcinbckgbaaOrdP

namespace Go.Hm
def nearB (x y : Int) : Bool := decide (-2097152 ≤ x) && decide (x ≤ 2097152) && decide (-2097152 ≤ y) && decide (y ≤ 2097152)
theorem nearB_iff {x y : Int} : nearB x y = true ↔ (-2097152 ≤ x ∧ x ≤ 2097152) ∧ (-2097152 ≤ y ∧ y ≤ 2097152) := by
  simp [nearB]
  omega

end Go.Hm

namespace Go.Proofs.Ytbphmcinbckgbaa
open Go.RowKit Go.Hm
set_option maxHeartbeats 2000000 in
set_option maxRecDepth 100000 in
theorem rpadd_any {w : World} {x y u v : Int} (hx : -2097152 ≤ x ∧ x ≤ 2097152) (hy : -2097152 ≤ y ∧ y ≤ 2097152) (hu : -2097152 ≤ u ∧ u ≤ 2097152) (hv : -2097152 ≤ v ∧ v ≤ 2097152) :
    Calls Try.prog 11 #[.agg #[.int .i64 x, .int .i64 y], .agg #[.int .i64 u, .int .i64 v]] w (NewPost (.agg #[.int .i64 (x + u), .int .i64 (y + v)]) w) := by
  obtain ⟨W0, hW0⟩ : ∃ W, W = ((w.alloc (.cells #[.int .i64 x, .int .i64 y] 23)).alloc (.cells #[.int .i64 u, .int .i64 v] 23)).alloc (.cells #[.int .i64 (x + u), .int .i64 (y + v)] 23) := ⟨_, rfl⟩
  have b0 : New w W0 := by rw [hW0]; exact (((Below.refl _ _).alloc (Nat.le_refl _) _).alloc (by simp) _).alloc (by simp; omega) _
  have e1 : (w.alloc (.cells #[.int .i64 x, .int .i64 y] 23)).heap.size = w.heap.size + 1 := by simp
  have e2 : ((w.alloc (.cells #[.int .i64 x, .int .i64 y] 23)).alloc (.cells #[.int .i64 u, .int .i64 v] 23)).heap.size = w.heap.size + 1 + 1 := by simp
  have C0 : Blk W0 (w.heap.size + 1 + 1) 23 #[.int .i64 (x + u), .int .i64 (y + v)] := by rw [hW0, ← e2]; exact Blk.new _ _ _
  obtain ⟨s0, s1⟩ := cells2 C0
  have S0 := Lib.hid s0
  have S1 := Lib.hid s1
  have A0 := (Blk.new w 23 #[.int .i64 x, .int .i64 y])
  obtain ⟨x0, x1⟩ := cells2 ((A0.alloc (.cells #[.int .i64 u, .int .i64 v] 23)).alloc (.cells #[.int .i64 0, .int .i64 0] 23))
  have B0 := Blk.new (w.alloc (.cells #[.int .i64 x, .int .i64 y] 23)) 23 #[.int .i64 u, .int .i64 v]
  rw [e1] at B0
  obtain ⟨y0, y1⟩ := cells2 (B0.alloc (.cells #[.int .i64 0, .int .i64 0] 23))
  have w1 : IntKind.i64.wrap (x + u) = x + u := by rw [IntKind.wrap_i64]; omega
  have w2 : IntKind.i64.wrap (y + v) = y + v := by rw [IntKind.wrap_i64]; omega
  have HW := Lib.hid hW0
  have HB := Lib.hid b0
  clear A0 B0 C0 hW0 b0 e1 e2 s0 s1 hx hy hu hv
  go_enter Try.func11, Try.ntmps11
  go_wp2
  rw [← HW.out]
  have s0 := S0.out
  have s1 := S1.out
  exact bodyPost_ret (v := .agg #[.int .i64 (x + u), .int .i64 (y + v)]) (by simp [results, Try.results11, go_sem, s0, s1]) rfl ⟨rfl, HB.out⟩
set_option maxHeartbeats 2000000 in
set_option maxRecDepth 100000 in
theorem rpsub_any {w : World} {x y u v : Int} (hx : -2097152 ≤ x ∧ x ≤ 2097152) (hy : -2097152 ≤ y ∧ y ≤ 2097152) (hu : -2097152 ≤ u ∧ u ≤ 2097152) (hv : -2097152 ≤ v ∧ v ≤ 2097152) :
    Calls Try.prog 13 #[.agg #[.int .i64 x, .int .i64 y], .agg #[.int .i64 u, .int .i64 v]] w (NewPost (.agg #[.int .i64 (x - u), .int .i64 (y - v)]) w) := by
  obtain ⟨W0, hW0⟩ : ∃ W, W = ((w.alloc (.cells #[.int .i64 x, .int .i64 y] 23)).alloc (.cells #[.int .i64 u, .int .i64 v] 23)).alloc (.cells #[.int .i64 (x - u), .int .i64 (y - v)] 23) := ⟨_, rfl⟩
  have b0 : New w W0 := by rw [hW0]; exact (((Below.refl _ _).alloc (Nat.le_refl _) _).alloc (by simp) _).alloc (by simp; omega) _
  have e1 : (w.alloc (.cells #[.int .i64 x, .int .i64 y] 23)).heap.size = w.heap.size + 1 := by simp
  have e2 : ((w.alloc (.cells #[.int .i64 x, .int .i64 y] 23)).alloc (.cells #[.int .i64 u, .int .i64 v] 23)).heap.size = w.heap.size + 1 + 1 := by simp
  have C0 : Blk W0 (w.heap.size + 1 + 1) 23 #[.int .i64 (x - u), .int .i64 (y - v)] := by rw [hW0, ← e2]; exact Blk.new _ _ _
  obtain ⟨s0, s1⟩ := cells2 C0
  have S0 := Lib.hid s0
  have S1 := Lib.hid s1
  have A0 := (Blk.new w 23 #[.int .i64 x, .int .i64 y])
  obtain ⟨x0, x1⟩ := cells2 ((A0.alloc (.cells #[.int .i64 u, .int .i64 v] 23)).alloc (.cells #[.int .i64 0, .int .i64 0] 23))
  have B0 := Blk.new (w.alloc (.cells #[.int .i64 x, .int .i64 y] 23)) 23 #[.int .i64 u, .int .i64 v]
  rw [e1] at B0
  obtain ⟨y0, y1⟩ := cells2 (B0.alloc (.cells #[.int .i64 0, .int .i64 0] 23))
  have w1 : IntKind.i64.wrap (x - u) = x - u := by rw [IntKind.wrap_i64]; omega
  have w2 : IntKind.i64.wrap (y - v) = y - v := by rw [IntKind.wrap_i64]; omega
  have HW := Lib.hid hW0
  have HB := Lib.hid b0
  clear A0 B0 C0 hW0 b0 e1 e2 s0 s1 hx hy hu hv
  go_enter Try.func13, Try.ntmps13
  go_wp2
  rw [← HW.out]
  have s0 := S0.out
  have s1 := S1.out
  exact bodyPost_ret (v := .agg #[.int .i64 (x - u), .int .i64 (y - v)]) (by simp [results, Try.results13, go_sem, s0, s1]) rfl ⟨rfl, HB.out⟩
set_option maxHeartbeats 2000000 in
set_option maxRecDepth 100000 in
theorem rpmul_any {w : World} {x y u v : Int} (hx : -2097152 ≤ x ∧ x ≤ 2097152) (hy : -2097152 ≤ y ∧ y ≤ 2097152) (hu : -2097152 ≤ u ∧ u ≤ 2097152) (hv : -2097152 ≤ v ∧ v ≤ 2097152) :
    Calls Try.prog 15 #[.agg #[.int .i64 x, .int .i64 y], .agg #[.int .i64 u, .int .i64 v]] w (NewPost (.agg #[.int .i64 (x * u - y * v), .int .i64 (x * v + y * u)]) w) := by
  obtain ⟨W0, hW0⟩ : ∃ W, W = ((w.alloc (.cells #[.int .i64 x, .int .i64 y] 23)).alloc (.cells #[.int .i64 u, .int .i64 v] 23)).alloc (.cells #[.int .i64 (x * u - y * v), .int .i64 (x * v + y * u)] 23) := ⟨_, rfl⟩
  have b0 : New w W0 := by rw [hW0]; exact (((Below.refl _ _).alloc (Nat.le_refl _) _).alloc (by simp) _).alloc (by simp; omega) _
  have e1 : (w.alloc (.cells #[.int .i64 x, .int .i64 y] 23)).heap.size = w.heap.size + 1 := by simp
  have e2 : ((w.alloc (.cells #[.int .i64 x, .int .i64 y] 23)).alloc (.cells #[.int .i64 u, .int .i64 v] 23)).heap.size = w.heap.size + 1 + 1 := by simp
  have C0 : Blk W0 (w.heap.size + 1 + 1) 23 #[.int .i64 (x * u - y * v), .int .i64 (x * v + y * u)] := by rw [hW0, ← e2]; exact Blk.new _ _ _
  obtain ⟨s0, s1⟩ := cells2 C0
  have S0 := Lib.hid s0
  have S1 := Lib.hid s1
  have A0 := (Blk.new w 23 #[.int .i64 x, .int .i64 y])
  obtain ⟨x0, x1⟩ := cells2 ((A0.alloc (.cells #[.int .i64 u, .int .i64 v] 23)).alloc (.cells #[.int .i64 0, .int .i64 0] 23))
  have B0 := Blk.new (w.alloc (.cells #[.int .i64 x, .int .i64 y] 23)) 23 #[.int .i64 u, .int .i64 v]
  rw [e1] at B0
  obtain ⟨y0, y1⟩ := cells2 (B0.alloc (.cells #[.int .i64 0, .int .i64 0] 23))
  have q1 := sq_le hx hu
  have q2 := sq_le hy hv
  have q3 := sq_le hx hv
  have q4 := sq_le hy hu
  have w1 : IntKind.i64.wrap (x * u) = x * u := by rw [IntKind.wrap_i64]; omega
  have w2 : IntKind.i64.wrap (y * v) = y * v := by rw [IntKind.wrap_i64]; omega
  have w3 : IntKind.i64.wrap (x * v) = x * v := by rw [IntKind.wrap_i64]; omega
  have w4 : IntKind.i64.wrap (y * u) = y * u := by rw [IntKind.wrap_i64]; omega
  have w5 : IntKind.i64.wrap (x * u - y * v) = x * u - y * v := by rw [IntKind.wrap_i64]; omega
  have w6 : IntKind.i64.wrap (x * v + y * u) = x * v + y * u := by rw [IntKind.wrap_i64]; omega
  have HW := Lib.hid hW0
  have HB := Lib.hid b0
  clear A0 B0 C0 hW0 b0 e1 e2 s0 s1 hx hy hu hv q1 q2 q3 q4
  go_enter Try.func15, Try.ntmps15
  go_wp2
  rw [← HW.out]
  have s0 := S0.out
  have s1 := S1.out
  exact bodyPost_ret (v := .agg #[.int .i64 (x * u - y * v), .int .i64 (x * v + y * u)]) (by simp [results, Try.results15, go_sem, s0, s1]) rfl ⟨rfl, HB.out⟩
theorem tmod4 (n : Int) : (-4 < n.tmod 4 ∧ n.tmod 4 < 4) ∧ n % 4 = if n.tmod 4 < 0 then n.tmod 4 + 4 else n.tmod 4 := by
  rcases Int.le_total 0 n with h | h
  · obtain ⟨m, rfl⟩ := Int.eq_ofNat_of_zero_le h
    rw [Int.tmod_eq_emod_of_nonneg (by omega)]
    omega
  · obtain ⟨m, hm⟩ := Int.eq_ofNat_of_zero_le (show 0 ≤ -n by omega)
    obtain rfl : n = -(m : Int) := by omega
    rw [Int.neg_tmod, Int.tmod_eq_emod_of_nonneg (by omega)]
    omega
theorem turnMul {k : Nat} {p : Int × Int} : (turnI k p).1 * 0 - (turnI k p).2 * 1 = (turnI (k + 1) p).1 ∧ (turnI k p).1 * 1 + (turnI k p).2 * 0 = (turnI (k + 1) p).2 := by
  simp [turnI]
set_option maxHeartbeats 2000000 in
set_option maxRecDepth 100000 in
theorem rpturn_any {w : World} {x y n : Int} (hx : -2097152 ≤ x ∧ x ≤ 2097152) (hy : -2097152 ≤ y ∧ y ≤ 2097152) :
    Calls Try.prog 17 #[.agg #[.int .i64 x, .int .i64 y], .int .i64 n] w (NewPost (.agg #[.int .i64 (turnI (n % 4).toNat (x, y)).1, .int .i64 (turnI (n % 4).toNat (x, y)).2]) w) := by
  obtain ⟨W0, hW0⟩ : ∃ W, W = (w.alloc (.cells #[.int .i64 x, .int .i64 y] 23)).alloc (.cells #[.int .i64 0, .int .i64 0] 23) := ⟨_, rfl⟩
  have b0 : New w W0 := by rw [hW0]; exact ((Below.refl _ _).alloc (Nat.le_refl _) _).alloc (by simp) _
  have e1 : (w.alloc (.cells #[.int .i64 x, .int .i64 y] 23)).heap.size = w.heap.size + 1 := by simp
  have A0 : Blk W0 w.heap.size 23 #[.int .i64 x, .int .i64 y] := by rw [hW0]; exact (Blk.new _ _ _).alloc _
  have C0 : Blk W0 (w.heap.size + 1) 23 #[.int .i64 0, .int .i64 0] := by rw [hW0, ← e1]; exact Blk.new _ _ _
  obtain ⟨⟨t1, t2⟩, t3⟩ := tmod4 n
  obtain ⟨m, hm⟩ := Int.eq_ofNat_of_zero_le (show 0 ≤ n % 4 by omega)
  have hm4 : m < 4 := by omega
  rw [hm] at t3 ⊢
  rw [Int.toNat_natCast]
  have TN := Lib.hid (fun k => turn_near k (x, y) hx hy)
  have HA := Lib.hid A0
  have HC := Lib.hid C0
  have HB := Lib.hid b0
  have HX : Hid (turnI 0 (x, y) = (x, y)) := Lib.hid rfl
  have HW := Lib.hid hW0
  have hd : (¬ n.tmod 4 < 0 ∧ n.tmod 4 = (m : Int)) ∨ (n.tmod 4 < 0 ∧ n.tmod 4 = (m : Int) - 4) := by
    split at t3 <;> omega
  have ht := Lib.hid t3
  clear A0 C0 b0 e1 t1 t2 t3 hm hx hy hW0 ht
  rcases hd with ⟨d1, d2⟩ | ⟨d1, d2⟩
  rotate_left
  have d3 : decide ((m : Int) - 4 < 0) = true := by
    rw [d2] at d1
    simpa using d1
  have d4 : (m : Int) - 4 + 4 = (m : Int) := by omega
  have d5 : IntKind.i64.wrap ((m : Int) - 4 + 4) = (m : Int) := by rw [IntKind.wrap_i64]; omega
  have D4 := Lib.hid d4
  clear d4
  rotate_left
  have d3 : decide ((m : Int) < 0) = false := by simp
  all_goals
    clear d1
    go_enter Try.func17, Try.ntmps17
    go_wp2
    rw [← HW.out]
    clear d2
    go_loopw [6] (fun i wr => ∃ k : Nat, k ≤ m ∧ i = .int .i64 (k : Int) ∧ Hid (Blk wr w.heap.size 23 #[.int .i64 (turnI k (x, y)).1, .int .i64 (turnI k (x, y)).2]) ∧ Hid (Blk wr (w.heap.size + 1) 23 #[.int .i64 0, .int .i64 0]) ∧ Hid (New w wr)) (fun i _ => m - (intOf i).toNat)
    case atStart => exact ⟨0, by omega, rfl, HA, HC, HB⟩
    case round =>
      obtain ⟨k, hk, rfl, B, C, b⟩ := hrel
      obtain ⟨x0, x1⟩ := cells2 B.out
      have g0 := B.out.frozen 0
      have g1 := B.out.frozen 1
      by_cases hlt : k < m
      · have PM := Lib.hid (fun W : World => rpmul_any (w := W) (x := (turnI k (x, y)).1) (y := (turnI k (x, y)).2) (u := 0) (v := 1) (TN.out k).1 (TN.out k).2 (by omega) (by omega))
        rw [turnMul.1, turnMul.2] at PM
        generalize (turnI k (x, y)).1 = kx at *
        generalize (turnI k (x, y)).2 = ky at *
        go_wp2_with fail
        refine (PM.out _).mono ?_
        rintro e w3 ⟨rfl, c3⟩
        have B3 := B.out.below c3 B.out.lt
        have C3 := C.out.below c3 C.out.lt
        clear x0 x1 g0 g1
        obtain ⟨x0, x1⟩ := cells2 B3
        have g0 := B3.frozen 0
        have g1 := B3.frozen 1
        have S3 := Lib.hid (store2 B3 (a := .int .i64 (turnI (k + 1) (x, y)).1) (b := .int .i64 (turnI (k + 1) (x, y)).2))
        have hF := far_set2 (g := w.heap.size) (.int .i64 (turnI (k + 1) (x, y)).1) (.int .i64 (turnI (k + 1) (x, y)).2) w3
        have SC := Lib.hid (C3.grown hF (by simp))
        have bE := Lib.hid (New.far (New.trans b.out c3) hF (Nat.le_refl _))
        generalize hj1 : (turnI (k + 1) (x, y)).1 = jx at *
        generalize hj2 : (turnI (k + 1) (x, y)).2 = jy at *
        have HJ1 := Lib.hid hj1
        have HJ2 := Lib.hid hj2
        clear hF B3 C3 PM hj1 hj2
        go_wp2
        go_roundw
        case rel => exact ⟨k + 1, by omega, by go_num, by rw [HJ1.out, HJ2.out]; exact S3, SC, bE⟩
        case measure => simp [intOf]; omega
      · obtain rfl : k = m := by omega
        obtain ⟨z0, z1⟩ := cells2 C.out
        have f0 := C.out.frozen 0
        have f1 := C.out.frozen 1
        generalize (turnI k (x, y)).1 = kx at *
        generalize (turnI k (x, y)).2 = ky at *
        have S3 := Lib.hid (store2 C.out (a := .int .i64 kx) (b := .int .i64 ky))
        have bE := New.far b.out (far_set2 (g := w.heap.size + 1) (.int .i64 kx) (.int .i64 ky) wr) (by omega)
        go_wp2
        obtain ⟨s0, s1⟩ := cells2 S3.out
        exact bodyPost_ret (v := .agg #[.int .i64 kx, .int .i64 ky]) (by simp [results, Try.results17, go_sem, s0, s1]) rfl ⟨rfl, bE⟩
set_option maxHeartbeats 2000000 in
set_option maxRecDepth 100000 in
theorem near_any {w : World} (x y : Int) :
    Calls Try.prog 7 #[.agg #[.int .i64 x, .int .i64 y]] w (NewPost (.bool (nearB x y)) w) := by
  obtain ⟨W0, hW0⟩ : ∃ W, W = w.alloc (.cells #[.int .i64 x, .int .i64 y] 23) := ⟨_, rfl⟩
  have b0 : New w W0 := by rw [hW0]; exact (Below.refl _ _).alloc (Nat.le_refl _) _
  have B0 : Blk W0 w.heap.size 23 #[.int .i64 x, .int .i64 y] := by rw [hW0]; exact Blk.new _ _ _
  obtain ⟨x0, x1⟩ := cells2 B0
  have HO := Lib.hid (show nearB x y = (decide (-2097152 ≤ x) && decide (x ≤ 2097152) && decide (-2097152 ≤ y) && decide (y ≤ 2097152)) from rfl)
  generalize nearB x y = O at *
  rw [hW0] at x0 x1
  clear B0
  cases h1 : decide (-2097152 ≤ x) <;> cases h2 : decide (x ≤ 2097152) <;> cases h3 : decide (-2097152 ≤ y) <;> cases h4 : decide (y ≤ 2097152)
  all_goals
    rw [h1, h2, h3, h4] at HO
    go_enter Try.func7, Try.ntmps7
    go_wp2
    go_ret
    exact ⟨by rw [HO.out]; rfl, by rw [← hW0]; exact b0⟩
set_option maxHeartbeats 2000000 in
set_option maxRecDepth 100000 in
theorem within2_any {w : World} (x y : Int) :
    Calls Try.prog 24 #[.agg #[.int .i64 x, .int .i64 y], .int .i64 2097152] w (NewPost (.bool (nearB x y)) w) := by
  obtain ⟨W0, hW0⟩ : ∃ W, W = w.alloc (.cells #[.int .i64 x, .int .i64 y] 23) := ⟨_, rfl⟩
  have b0 : New w W0 := by rw [hW0]; exact (Below.refl _ _).alloc (Nat.le_refl _) _
  have B0 : Blk W0 w.heap.size 23 #[.int .i64 x, .int .i64 y] := by rw [hW0]; exact Blk.new _ _ _
  obtain ⟨x0, x1⟩ := cells2 B0
  have HO := Lib.hid (show nearB x y = (decide (-2097152 ≤ x) && decide (x ≤ 2097152) && decide (-2097152 ≤ y) && decide (y ≤ 2097152)) from rfl)
  generalize nearB x y = O at *
  rw [hW0] at x0 x1
  clear B0
  cases h1 : decide (-2097152 ≤ x) <;> cases h2 : decide (x ≤ 2097152) <;> cases h3 : decide (-2097152 ≤ y) <;> cases h4 : decide (y ≤ 2097152)
  all_goals
    rw [h1, h2, h3, h4] at HO
    go_enter Try.func24, Try.ntmps24
    go_wp2
    go_ret
    exact ⟨by rw [HO.out]; rfl, by rw [← hW0]; exact b0⟩

end Go.Proofs.Ytbphmcinbckgbaa
