/- Contracts on cmp.Or, point.Compare, ref06.Norm, ref06.sign, ref06.Compare. -/
import Derived.Test.YtbphmcinbckgbaaPt
import Derived.Test.YtbphmcinbckgbaaCellO

namespace Go.Hm
open Go Go.RowKit
/-- The first of these that is not 0. -/
def orI : List Int → Int
  | [] => 0
  | x :: l => if x = 0 then orI l else x
theorem orI_at {l : List Int} {k : Nat} (h : ∀ j, j < k → l.getD j 0 = 0) (hk : k < l.length) (hn : l.getD k 0 ≠ 0) : orI l = l.getD k 0 := by
  induction l generalizing k with
  | nil => simp at hk
  | cons x l ih =>
    cases k with
    | zero =>
      have : x ≠ 0 := by simpa using hn
      simp [orI, this]
    | succ k =>
      have hx : x = 0 := by simpa using h 0 (by omega)
      have := ih (k := k) (fun j hj => by simpa using h (j + 1) (by omega)) (by simpa using hk) (by simpa using hn)
      simp [orI, hx, this]
theorem orI_none {l : List Int} (h : ∀ j, j < l.length → l.getD j 0 = 0) : orI l = 0 := by
  induction l with
  | nil => rfl
  | cons x l ih =>
    have hx : x = 0 := by simpa using h 0 (by simp)
    have := ih (fun j hj => by simpa using h (j + 1) (by simpa using hj))
    simp [orI, hx, this]
/-- Which of two points is ahead. -/
def cmpP (x y u v : Int) : Int := orI [cmpI (x * x + y * y) (u * u + v * v), cmpI x u, cmpI y v]
theorem sq_le {u v : Int} (hu : -2097152 ≤ u ∧ u ≤ 2097152) (hv : -2097152 ≤ v ∧ v ≤ 2097152) : -4398046511104 ≤ u * v ∧ u * v ≤ 4398046511104 := by
  have h1 : (u * v).natAbs ≤ 2097152 * 2097152 := by
    rw [Int.natAbs_mul]
    exact Nat.mul_le_mul (by omega) (by omega)
  omega
theorem cmpI_ne {x y : Int} (h : x ≠ y) : cmpI x y ≠ 0 := by
  unfold cmpI
  split
  · simp
  · split
    · simp
    · omega
theorem cmpI_self (x : Int) : cmpI x x = 0 := by simp [cmpI]

end Go.Hm

namespace Go.Proofs.Ytbphmcinbckgbaa
open Go.RowKit Go.Hm
set_option maxHeartbeats 1000000 in
set_option maxRecDepth 100000 in
theorem or_any {w : World} {A : Option Addr} {n c : Nat} {l : List Int} (h : Reads w w.heap.size 1 A n (ints .i64 l)) (hn : n ≤ 4611686018427387903) :
    Calls Try.prog 27 #[.slice A n c] w (ValPost (.int .i64 (orI l)) w) := by
  obtain rfl := h.lenI
  have K1 := Lib.hid (fun (k : Nat) (h : ∀ j, j < k → l.getD j 0 = 0) (hk : k < l.length) (hn : l.getD k 0 ≠ 0) => orI_at h hk hn)
  have K2 := Lib.hid (fun (h : ∀ j, j < l.length → l.getD j 0 = 0) => orI_none h)
  generalize orI l = O at *
  go_enter Try.func27, Try.ntmps27
  go_wp2
  go_loop [8] (fun i => ∃ k : Nat, k ≤ l.length ∧ i = .int .i64 (k : Int) ∧ Hid (∀ j, j < k → l.getD j 0 = 0)) (fun i => l.length - (intOf i).toNat)
  case atStart => exact ⟨0, by omega, rfl, Lib.hid (by intro j hj; omega)⟩
  case round =>
    obtain ⟨k, hk, rfl, H⟩ := hrel
    by_cases hlt : k < l.length
    · obtain ⟨ad, rfl, hbk, hcell⟩ := h.int hlt
      have M1 := Lib.hid (fun (hn : l.getD k 0 ≠ 0) => K1.out k H.out hlt hn)
      have M0 := Lib.hid (fun (hz : l.getD k 0 = 0) => show ∀ j, j < k + 1 → l.getD j 0 = 0 by
        intro j hj
        rcases Nat.lt_succ_iff_lt_or_eq.1 hj with hj | rfl
        · exact H.out j hj
        · exact hz)
      generalize l.getD k 0 = x at *
      by_cases hx : x = 0
      · have M2 := Lib.hid (M0.out hx)
        subst hx
        clear M0 M1 K1 H
        go_wp2
        go_round
        case rel => exact ⟨k + 1, by omega, by go_num, M2⟩
        case measure => simp [intOf]; omega
      · have M2 := Lib.hid (M1.out hx)
        have e1 : (x != 0) = true := by simpa using hx
        clear M0 M1 K1 H hx
        go_wp2
        go_ret
        exact ⟨by rw [M2.out]; rfl, rfl⟩
    · obtain rfl : k = l.length := by omega
      have M2 := Lib.hid (K2.out H.out)
      clear K1 K2 H hlt
      go_wp2
      go_ret
      exact ⟨by rw [M2.out]; rfl, rfl⟩
set_option maxHeartbeats 2000000 in
set_option maxRecDepth 100000 in
theorem pcompare_any {w : World} {x y u v : Int} (hx : -2097152 ≤ x ∧ x ≤ 2097152) (hy : -2097152 ≤ y ∧ y ≤ 2097152) (hu : -2097152 ≤ u ∧ u ≤ 2097152) (hv : -2097152 ≤ v ∧ v ≤ 2097152) :
    Calls Try.prog 20 #[.agg #[.int .i64 x, .int .i64 y], .agg #[.int .i64 u, .int .i64 v]] w (NewPost (.int .i64 (cmpP x y u v)) w) := by
  obtain ⟨W0, hW0⟩ : ∃ W, W = (w.alloc (.cells #[.int .i64 x, .int .i64 y] 23)).alloc (.cells #[.int .i64 u, .int .i64 v] 23) := ⟨_, rfl⟩
  have b0 : New w W0 := by rw [hW0]; exact ((Below.refl _ _).alloc (Nat.le_refl _) _).alloc (by simp) _
  have B0 : Blk W0 w.heap.size 23 #[.int .i64 x, .int .i64 y] := by rw [hW0]; exact (Blk.new _ _ _).alloc _
  have C0 : Blk W0 (w.heap.size + 1) 23 #[.int .i64 u, .int .i64 v] := by
    rw [hW0]
    have := Blk.new (w.alloc (.cells #[.int .i64 x, .int .i64 y] 23)) 23 #[.int .i64 u, .int .i64 v]
    simpa using this
  have F1 := Lib.hid (fun (W : World) (hW : New W0 W) => cells2 (B0.below hW B0.lt))
  have F2 := Lib.hid (fun (W : World) (hW : New W0 W) => cells2 (C0.below hW C0.lt))
  have P1 := Lib.hid (fun (W : World) => norm_any (w := W) hx hy)
  have P2 := Lib.hid (fun (W : World) => norm_any (w := W) hu hv)
  have HW := Lib.hid hW0
  have HB := Lib.hid b0
  have HO := Lib.hid (show cmpP x y u v = orI [cmpI (x * x + y * y) (u * u + v * v), cmpI x u, cmpI y v] from rfl)
  generalize cmpP x y u v = O at *
  generalize x * x + y * y = nx at *
  generalize u * u + v * v = nu at *
  clear B0 C0 hx hy hu hv hW0 b0
  go_enter Try.func20, Try.ntmps20
  go_wp2_with fail
  rw [← HW.out]
  refine wp_region_up New [(true, 0), (true, 2), (true, 5), (true, 6), (true, 7), (true, 8), (true, 10), (true, 11), (true, 12), (true, 13), (false, 1), (false, 3), (false, 4), (false, 9), (false, 14), (false, 15), (false, 16), (true, 17)]
    New.refl New.trans (by kernel_rfl) (by kernel_rfl) (by kernel_rfl) (by kernel_rfl) ?_
  have hU := New.drew W0
  repeat (first
    | (refine up_quiet rfl rfl (v := ?_) (fun W hW => ?_) ?_; rotate_left; (obtain ⟨x0, x1⟩ := F1.out W (New.trans hU hW); obtain ⟨y0, y1⟩ := F2.out W (New.trans hU hW); go_simp <;> with_reducible rfl); simp only [Act.put, List.setIfInBounds_toArray, List.set_cons_zero, List.set_cons_succ])
    | (refine up_call rfl rfl (fun K hK => ?_); go_simp
       first
         | (with_reducible refine (P1.out _).mono ?_)
         | (with_reducible refine (P2.out _).mono ?_)
       rintro e w9 ⟨rfl, c⟩
       refine hK _ _ c ?_
       clear hK
       replace hU := New.trans hU c)
    | (refine up_call rfl rfl (fun K hK => ?_); go_simp
       (with_reducible refine cmpI_any.mono ?_)
       rintro e w9 ⟨rfl, rfl⟩
       refine hK _ _ (New.refl _) ?_
       clear hK))
  have bA : New w9 (w9.alloc (.cells #[.int .i64 (cmpI nx nu), .int .i64 (cmpI x u), .int .i64 (cmpI y v)] 3)) := (Below.refl _ _).alloc (Nat.le_refl _) _
  have RL := Lib.hid (or_any (c := 3) (Reads.litV w9 3 #[.int .i64 (cmpI nx nu), .int .i64 (cmpI x u), .int .i64 (cmpI y v)] 3 (ints .i64 [cmpI nx nu, cmpI x u, cmpI y v]) rfl rfl) (by omega))
  rw [← HO.out] at RL
  refine up_call rfl rfl (fun K hK => ?_)
  go_simp
  refine hK _ _ bA ?_
  clear hK
  refine up_call rfl rfl (fun K hK => ?_)
  go_simp
  refine RL.out.mono ?_
  rintro e w8 ⟨rfl, rfl⟩
  refine hK _ _ (New.refl _) ?_
  clear hK
  replace hU := New.trans hU bA
  refine up_quiet rfl rfl (v := ?_) (fun W hW => ?_) ?_
  rotate_left
  · go_simp <;> with_reducible rfl
  simp only [Act.put, List.setIfInBounds_toArray, List.set_cons_zero, List.set_cons_succ]
  refine up_nil ?_
  go_wp2
  go_ret
  exact ⟨rfl, New.trans HB.out hU⟩
set_option maxHeartbeats 1000000 in
set_option maxRecDepth 100000 in
theorem rnorm_any {w : World} {x y : Int} (hx : -2097152 ≤ x ∧ x ≤ 2097152) (hy : -2097152 ≤ y ∧ y ≤ 2097152) :
    Calls Try.prog 19 #[.agg #[.int .i64 x, .int .i64 y]] w (NewPost (.int .i64 (x * x + y * y)) w) := by
  have b0 : New w (w.alloc (.cells #[.int .i64 x, .int .i64 y] 23)) := (Below.refl _ _).alloc (Nat.le_refl _) _
  obtain ⟨x0, x1⟩ := cells2 (Blk.new w 23 #[.int .i64 x, .int .i64 y])
  have h1 := sq_le hx hx
  have h2 := sq_le hy hy
  have w1 : IntKind.i64.wrap (x * x) = x * x := by rw [IntKind.wrap_i64]; omega
  have w2 : IntKind.i64.wrap (y * y) = y * y := by rw [IntKind.wrap_i64]; omega
  have w3 : IntKind.i64.wrap (x * x + y * y) = x * x + y * y := by rw [IntKind.wrap_i64]; omega
  clear h1 h2 hx hy
  go_enter Try.func19, Try.ntmps19
  go_wp2
  go_ret
  exact ⟨rfl, b0⟩
set_option maxRecDepth 100000 in
theorem rsign_any {w : World} {x y : Int} : Calls Try.prog 29 #[.int .i64 x, .int .i64 y] w (ValPost (.int .i64 (cmpI x y)) w) := by
  have K1 := Lib.hid (fun (h : x < y) => show cmpI x y = -1 by rw [cmpI, if_pos h])
  have K2 := Lib.hid (fun (h : ¬ x < y) (h2 : y < x) => show cmpI x y = 1 by rw [cmpI, if_neg h, if_pos h2])
  have K3 := Lib.hid (fun (h : ¬ x < y) (h2 : ¬ y < x) => show cmpI x y = 0 by rw [cmpI, if_neg h, if_neg h2])
  generalize cmpI x y = O at *
  by_cases h1 : x < y
  · have O1 := Lib.hid (K1.out h1)
    clear K1 K2 K3
    go_enter Try.func29, Try.ntmps29
    go_wp2
    go_ret
    exact ⟨by rw [O1.out]; rfl, rfl⟩
  · by_cases h2 : y < x
    · have O1 := Lib.hid (K2.out h1 h2)
      clear K1 K2 K3
      go_enter Try.func29, Try.ntmps29
      go_wp2
      go_ret
      exact ⟨by rw [O1.out]; rfl, rfl⟩
    · have O1 := Lib.hid (K3.out h1 h2)
      clear K1 K2 K3
      go_enter Try.func29, Try.ntmps29
      go_wp2
      go_ret
      exact ⟨by rw [O1.out]; rfl, rfl⟩
set_option maxHeartbeats 2000000 in
set_option maxRecDepth 100000 in
theorem rpcompare_any {w : World} {x y u v : Int} (hx : -2097152 ≤ x ∧ x ≤ 2097152) (hy : -2097152 ≤ y ∧ y ≤ 2097152) (hu : -2097152 ≤ u ∧ u ≤ 2097152) (hv : -2097152 ≤ v ∧ v ≤ 2097152) :
    Calls Try.prog 21 #[.agg #[.int .i64 x, .int .i64 y], .agg #[.int .i64 u, .int .i64 v]] w (NewPost (.int .i64 (cmpP x y u v)) w) := by
  obtain ⟨W0, hW0⟩ : ∃ W, W = (w.alloc (.cells #[.int .i64 x, .int .i64 y] 23)).alloc (.cells #[.int .i64 u, .int .i64 v] 23) := ⟨_, rfl⟩
  have b0 : New w W0 := by rw [hW0]; exact ((Below.refl _ _).alloc (Nat.le_refl _) _).alloc (by simp) _
  have B0 : Blk W0 w.heap.size 23 #[.int .i64 x, .int .i64 y] := by rw [hW0]; exact (Blk.new _ _ _).alloc _
  have C0 : Blk W0 (w.heap.size + 1) 23 #[.int .i64 u, .int .i64 v] := by
    rw [hW0]
    have := Blk.new (w.alloc (.cells #[.int .i64 x, .int .i64 y] 23)) 23 #[.int .i64 u, .int .i64 v]
    simpa using this
  have F1 := Lib.hid (fun (W : World) (hW : New W0 W) => cells2 (B0.below hW B0.lt))
  have F2 := Lib.hid (fun (W : World) (hW : New W0 W) => cells2 (C0.below hW C0.lt))
  have P1 := Lib.hid (fun (W : World) => rnorm_any (w := W) hx hy)
  have P2 := Lib.hid (fun (W : World) => rnorm_any (w := W) hu hv)
  have HW := Lib.hid hW0
  have HB := Lib.hid b0
  have HO := Lib.hid (show cmpP x y u v = orI [cmpI (x * x + y * y) (u * u + v * v), cmpI x u, cmpI y v] from rfl)
  generalize cmpP x y u v = O at *
  generalize x * x + y * y = nx at *
  generalize u * u + v * v = nu at *
  clear B0 C0 hx hy hu hv hW0 b0
  go_enter Try.func21, Try.ntmps21
  go_wp2_with fail
  rw [← HW.out]
  refine wp_region_up New [(true, 0), (true, 2), (false, 1), (false, 3), (true, 4)]
    New.refl New.trans (by kernel_rfl) (by kernel_rfl) (by kernel_rfl) (by kernel_rfl) ?_
  have hU := New.drew W0
  repeat (first
    | (refine up_quiet rfl rfl (v := ?_) (fun W hW => ?_) ?_; rotate_left; (obtain ⟨x0, x1⟩ := F1.out W (New.trans hU hW); obtain ⟨y0, y1⟩ := F2.out W (New.trans hU hW); go_simp <;> with_reducible rfl); simp only [Act.put, List.setIfInBounds_toArray, List.set_cons_zero, List.set_cons_succ])
    | (refine up_call rfl rfl (fun K hK => ?_); go_simp
       first
         | (with_reducible refine (P1.out _).mono ?_)
         | (with_reducible refine (P2.out _).mono ?_)
       rintro e w9 ⟨rfl, c⟩
       refine hK _ _ c ?_
       clear hK
       replace hU := New.trans hU c))
  refine up_nil ?_
  by_cases hn : nx = nu
  · have e1 : (nx != nu) = false := by simp [hn]
    have HO2 : Hid (O = orI [cmpI x u, cmpI y v]) := Lib.hid (by rw [HO.out, hn, cmpI_self]; rfl)
    clear HO hn
    obtain ⟨x0, x1⟩ := F1.out _ hU
    obtain ⟨y0, y1⟩ := F2.out _ hU
    by_cases hxu : x = u
    · have e2 : (x != u) = false := by simp [hxu]
      have HO3 : Hid (O = cmpI y v) := Lib.hid (by rw [HO2.out, hxu, cmpI_self]; by_cases h : cmpI y v = 0 <;> simp [orI, h])
      clear HO2 hxu
      go_wp2_with (go_at_call 29; refine rsign_any.mono ?_; rintro e w' ⟨rfl, rfl⟩)
      go_ret
      exact ⟨by rw [HO3.out]; rfl, New.trans HB.out hU⟩
    · have e2 : (x != u) = true := by simp [hxu]
      have HO3 : Hid (O = cmpI x u) := Lib.hid (by rw [HO2.out, orI, if_neg (cmpI_ne hxu)])
      clear HO2 hxu
      go_wp2_with (go_at_call 29; refine rsign_any.mono ?_; rintro e w' ⟨rfl, rfl⟩)
      go_ret
      exact ⟨by rw [HO3.out]; rfl, New.trans HB.out hU⟩
  · have e1 : (nx != nu) = true := by simp [hn]
    have HO2 : Hid (O = cmpI nx nu) := Lib.hid (by rw [HO.out, orI, if_neg (cmpI_ne hn)])
    clear HO hn
    go_wp2_with fail
    have hV := hU
    refine wp_region_up New [(true, 0), (true, 2), (false, 1), (false, 3), (false, 4), (true, 5)]
      New.refl New.trans (by kernel_rfl) (by kernel_rfl) (by kernel_rfl) (by kernel_rfl) ?_
    replace hU := New.trans hU (New.drew _)
    repeat (first
      | (refine up_quiet rfl rfl (v := ?_) (fun W hW => ?_) ?_; rotate_left; (obtain ⟨x0, x1⟩ := F1.out W (New.trans hU hW); obtain ⟨y0, y1⟩ := F2.out W (New.trans hU hW); go_simp <;> with_reducible rfl); simp only [Act.put, List.setIfInBounds_toArray, List.set_cons_zero, List.set_cons_succ])
      | (refine up_call rfl rfl (fun K hK => ?_); go_simp
         first
           | (with_reducible refine (P1.out _).mono ?_)
           | (with_reducible refine (P2.out _).mono ?_)
         rintro e w9 ⟨rfl, c⟩
         refine hK _ _ c ?_
         clear hK
         replace hU := New.trans hU c)
      | (refine up_call rfl rfl (fun K hK => ?_); go_simp
         (with_reducible refine rsign_any.mono ?_)
         rintro e w9 ⟨rfl, rfl⟩
         refine hK _ _ (New.refl _) ?_
         clear hK))
    refine up_nil ?_
    go_wp2
    go_ret
    exact ⟨by rw [HO2.out]; rfl, New.trans HB.out hU⟩

end Go.Proofs.Ytbphmcinbckgbaa
