/- CellTells returns true whatever comes in, and leaves all that was there as it was. -/
import Derived.Test.YtcnaameebbcmhaaSmall07
import Derived.Test.YtcnaameebbcmhaaOpenTb
import Derived.Test.YtcnaameebbcmhaaCellRr
import Derived.Test.YtcnaameebbcmhaaCellD

namespace Go.Proofs.Ytcnaameebbcmhaa
open Go.RowKit Go.Hm
set_option maxHeartbeats 8000000 in
set_option maxRecDepth 100000 in
theorem cellTells_walk {w : World} {a b : Bool} {n m : Int} {s r : List Nat} {x y x2 y2 : Int} {cn : List Nat} {t : Int} {nu : Bool} (hs : s.length ≤ 140737488351232) (hr : r.length ≤ 140737488351232) :
    Calls Try.prog 3 #[.agg #[.bool a, .int .i64 n, .string (bstr s), .int .i64 x, .int .i64 y], .agg #[.bool b, .int .i64 m, .string (bstr r), .int .i64 x2, .int .i64 y2], .agg #[.string (bstr cn), .int .i64 t, .bool nu]] w (SmallPost w) := by
  obtain ⟨W1, hW1⟩ : ∃ W, W = w.alloc (.cells #[.bool a, .int .i64 n, .string (bstr s), .int .i64 x, .int .i64 y] 25) := ⟨_, rfl⟩
  obtain ⟨W2, hW2⟩ : ∃ W, W = W1.alloc (.cells #[.bool b, .int .i64 m, .string (bstr r), .int .i64 x2, .int .i64 y2] 25) := ⟨_, rfl⟩
  obtain ⟨W0, hW0⟩ : ∃ W, W = W2.alloc (.cells #[.string (bstr cn), .int .i64 t, .bool nu] 27) := ⟨_, rfl⟩
  have b1 : New w W1 := by rw [hW1]; exact (Below.refl _ _).alloc (Nat.le_refl _) _
  have b2 : New W1 W2 := by rw [hW2]; exact (Below.refl _ _).alloc (Nat.le_refl _) _
  have b3 : New W2 W0 := by rw [hW0]; exact (Below.refl _ _).alloc (Nat.le_refl _) _
  have b0 := New.trans b1 (New.trans b2 b3)
  have A0 : Blk W0 w.heap.size 25 #[.bool a, .int .i64 n, .string (bstr s), .int .i64 x, .int .i64 y] := by rw [hW0, hW2, hW1]; exact ((Blk.new _ _ _).alloc _).alloc _
  have s1 : W1.heap.size = w.heap.size + 1 := by rw [hW1]; simp
  have s2 : W2.heap.size = w.heap.size + 1 + 1 := by rw [hW2]; simp [s1]
  have B0 : Blk W0 (w.heap.size + 1) 25 #[.bool b, .int .i64 m, .string (bstr r), .int .i64 x2, .int .i64 y2] := by rw [hW0, hW2, ← s1]; exact (Blk.new _ _ _).alloc _
  have C0 : Blk W0 (w.heap.size + 1 + 1) 27 #[.string (bstr cn), .int .i64 t, .bool nu] := by rw [hW0, ← s2]; exact Blk.new _ _ _
  rw [hW2, hW1] at hW0
  have F1 := Lib.hid (fun (W : World) (hW : New W0 W) => cells5 (A0.below hW A0.lt))
  have F2 := Lib.hid (fun (W : World) (hW : New W0 W) => cells5 (B0.below hW B0.lt))
  have F3 := Lib.hid (fun (W : World) (hW : New W0 W) => ccells (C0.below hW C0.lt))
  have R1 := Lib.hid (fun (W : World) => cright_any (w := W) (b := a) (n := n) (s := s) (x := x) (y := y) (cn := cn) (t := t) (nu := nu) hs)
  have R2 := Lib.hid (fun (W : World) => rcright_any (w := W) (b := a) (n := n) (s := s) (x := x) (y := y) (cn := cn) (t := t) (nu := nu) hs)
  have D1 := Lib.hid (fun (W : World) (hp : nearP x y x2 y2) => compareD_any (w := W) (t := t) (a := a) (b := b) (n := n) (m := m) (s := s) (r := r) hp)
  have D2 := Lib.hid (fun (W : World) (hp : nearP x y x2 y2) => rcompareD_any (w := W) (t := t) (a := a) (b := b) (n := n) (m := m) (s := s) (r := r) hp)
  generalize rightB (a, n, s, x, y) t nu = R at *
  generalize cmpD t (a, n, s, x, y) (b, m, r, x2, y2) = CD at *
  have SM := Lib.hid (small07_any W0)
  have HW := Lib.hid hW0
  have HB := Lib.hid b0
  have q1 := bstr_size s
  have q2 := bstr_size r
  clear hW0 hW1 hW2 b0 b1 b2 b3 A0 B0 C0 s1 s2
  go_enter Try.func3, Try.ntmps3
  go_wp2_with fail
  rw [← HW.out]
  refine SM.out.mono ?_
  rintro e w1 ⟨rfl, b1⟩
  clear SM HW
  obtain ⟨x0, x1, x2', x3, x4⟩ := F1.out w1 b1
  obtain ⟨y0, y1, y2', y3, y4⟩ := F2.out w1 b1
  obtain ⟨z0, z1, z2⟩ := F3.out w1 b1
  by_cases h1 : 70000 < s.length
  · have t1 : decide (70000 < (s.length : Int)) = true := by simp; omega
    go_wp2
    go_ret
    exact ⟨rfl, New.trans HB.out b1⟩
  by_cases h2 : 1000 < r.length
  · have t1 : decide (70000 < (s.length : Int)) = false := by simp; omega
    have t2 : decide (1000 < (r.length : Int)) = true := by simp; omega
    go_wp2
    go_ret
    exact ⟨rfl, New.trans HB.out b1⟩
  have t1 : decide (70000 < (s.length : Int)) = false := by simp; omega
  have t2 : decide (1000 < (r.length : Int)) = false := by simp; omega
  by_cases hp : nearP x y x2 y2
  · obtain ⟨⟨n1, n2⟩, ⟨n3, n4⟩, ⟨n5, n6⟩, ⟨n7, n8⟩⟩ := id hp
    have d1 : decide (-2097152 ≤ x) = true := by simpa using n1
    have d2 : decide (x ≤ 2097152) = true := by simpa using n2
    have d3 : decide (-2097152 ≤ y) = true := by simpa using n3
    have d4 : decide (y ≤ 2097152) = true := by simpa using n4
    have d5 : decide (-2097152 ≤ x2) = true := by simpa using n5
    have d6 : decide (x2 ≤ 2097152) = true := by simpa using n6
    have d7 : decide (-2097152 ≤ y2) = true := by simpa using n7
    have d8 : decide (y2 ≤ 2097152) = true := by simpa using n8
    clear n1 n2 n3 n4 n5 n6 n7 n8 h1 h2
    go_wp2_with fail
    refine wp_region_up New [(true, 0), (true, 1), (true, 2), (true, 3), (true, 5), (true, 6), (false, 4), (false, 7), (true, 8), (true, 9), (true, 10), (true, 11), (true, 12), (true, 13), (true, 14), (true, 15), (true, 16), (true, 17), (true, 19), (true, 20), (true, 21), (true, 22), (false, 18), (false, 23), (true, 24), (true, 25), (true, 26), (true, 27)]
      New.refl New.trans (by kernel_rfl) (by kernel_rfl) (by kernel_rfl) (by kernel_rfl) ?_
    have hU := New.trans b1 (New.drew w1)
    repeat (first
      | (refine up_quiet rfl rfl (v := ?_) (fun W hW => ?_) ?_; rotate_left; (obtain ⟨x0, x1, x2', x3, x4⟩ := F1.out W (New.trans hU hW); obtain ⟨y0, y1, y2', y3, y4⟩ := F2.out W (New.trans hU hW); obtain ⟨z0, z1, z2⟩ := F3.out W (New.trans hU hW); go_simp <;> with_reducible rfl); simp only [Act.put, List.setIfInBounds_toArray, List.set_cons_zero, List.set_cons_succ])
      | (refine up_skip rfl rfl ?_; simp only [Act.put, List.setIfInBounds_toArray, List.set_cons_zero, List.set_cons_succ])
      | (refine up_call rfl rfl (fun K hK => ?_); go_simp
         first
           | (with_reducible refine (R1.out _).mono ?_)
           | (with_reducible refine (R2.out _).mono ?_)
           | (with_reducible refine (D1.out _ hp).mono ?_)
           | (with_reducible refine (D2.out _ hp).mono ?_)
         rintro e w9 ⟨rfl, c⟩
         refine hK _ _ c ?_
         clear hK
         replace hU := New.trans hU c))
    refine up_nil ?_
    go_wp2
    go_ret
    exact ⟨by simp, New.trans HB.out hU⟩
  · have hc : (¬ -2097152 ≤ x) ∨ (-2097152 ≤ x ∧ ¬ x ≤ 2097152) ∨ (-2097152 ≤ x ∧ x ≤ 2097152 ∧ ¬ -2097152 ≤ y) ∨ (-2097152 ≤ x ∧ x ≤ 2097152 ∧ -2097152 ≤ y ∧ ¬ y ≤ 2097152) ∨ (-2097152 ≤ x ∧ x ≤ 2097152 ∧ -2097152 ≤ y ∧ y ≤ 2097152 ∧ ¬ -2097152 ≤ x2) ∨ (-2097152 ≤ x ∧ x ≤ 2097152 ∧ -2097152 ≤ y ∧ y ≤ 2097152 ∧ -2097152 ≤ x2 ∧ ¬ x2 ≤ 2097152) ∨ (-2097152 ≤ x ∧ x ≤ 2097152 ∧ -2097152 ≤ y ∧ y ≤ 2097152 ∧ -2097152 ≤ x2 ∧ x2 ≤ 2097152 ∧ ¬ -2097152 ≤ y2) ∨ (-2097152 ≤ x ∧ x ≤ 2097152 ∧ -2097152 ≤ y ∧ y ≤ 2097152 ∧ -2097152 ≤ x2 ∧ x2 ≤ 2097152 ∧ -2097152 ≤ y2 ∧ ¬ y2 ≤ 2097152) := by
      unfold nearP at hp
      omega
    clear hp D1 D2 h1 h2
    rcases hc with n1 | ⟨n1, n2⟩ | ⟨n1, n2, n3⟩ | ⟨n1, n2, n3, n4⟩ | ⟨n1, n2, n3, n4, n5⟩ | ⟨n1, n2, n3, n4, n5, n6⟩ | ⟨n1, n2, n3, n4, n5, n6, n7⟩ | ⟨n1, n2, n3, n4, n5, n6, n7, n8⟩
    all_goals
      try (have d1 : decide (-2097152 ≤ x) = true := by simpa using n1)
      try (have d1 : decide (-2097152 ≤ x) = false := by simpa using n1)
      try (have d2 : decide (x ≤ 2097152) = true := by simpa using n2)
      try (have d2 : decide (x ≤ 2097152) = false := by simpa using n2)
      try (have d3 : decide (-2097152 ≤ y) = true := by simpa using n3)
      try (have d3 : decide (-2097152 ≤ y) = false := by simpa using n3)
      try (have d4 : decide (y ≤ 2097152) = true := by simpa using n4)
      try (have d4 : decide (y ≤ 2097152) = false := by simpa using n4)
      try (have d5 : decide (-2097152 ≤ x2) = true := by simpa using n5)
      try (have d5 : decide (-2097152 ≤ x2) = false := by simpa using n5)
      try (have d6 : decide (x2 ≤ 2097152) = true := by simpa using n6)
      try (have d6 : decide (x2 ≤ 2097152) = false := by simpa using n6)
      try (have d7 : decide (-2097152 ≤ y2) = true := by simpa using n7)
      try (have d7 : decide (-2097152 ≤ y2) = false := by simpa using n7)
      try (have d8 : decide (y2 ≤ 2097152) = true := by simpa using n8)
      try (have d8 : decide (y2 ≤ 2097152) = false := by simpa using n8)
      try clear n1
      try clear n2
      try clear n3
      try clear n4
      try clear n5
      try clear n6
      try clear n7
      try clear n8
      go_wp2_with fail
      refine wp_region_up New [(true, 0), (true, 1), (true, 2), (true, 3), (true, 5), (true, 6), (false, 4), (false, 7), (true, 8), (true, 9), (true, 10), (true, 11), (true, 12), (true, 13), (true, 14), (true, 15), (true, 16), (true, 17), (true, 19), (true, 20), (true, 21), (true, 22), (false, 18), (false, 23), (true, 24), (true, 25), (true, 26), (true, 27)]
        New.refl New.trans (by kernel_rfl) (by kernel_rfl) (by kernel_rfl) (by kernel_rfl) ?_
      have hU := New.trans b1 (New.drew w1)
      repeat (first
        | (refine up_quiet rfl rfl (v := ?_) (fun W hW => ?_) ?_; rotate_left; (obtain ⟨x0, x1, x2', x3, x4⟩ := F1.out W (New.trans hU hW); obtain ⟨y0, y1, y2', y3, y4⟩ := F2.out W (New.trans hU hW); obtain ⟨z0, z1, z2⟩ := F3.out W (New.trans hU hW); go_simp <;> with_reducible rfl); simp only [Act.put, List.setIfInBounds_toArray, List.set_cons_zero, List.set_cons_succ])
        | (refine up_skip rfl rfl ?_; simp only [Act.put, List.setIfInBounds_toArray, List.set_cons_zero, List.set_cons_succ])
        | (refine up_call rfl rfl (fun K hK => ?_); go_simp
           first
             | (with_reducible refine (R1.out _).mono ?_)
             | (with_reducible refine (R2.out _).mono ?_)
           rintro e w9 ⟨rfl, c⟩
           refine hK _ _ c ?_
           clear hK
           replace hU := New.trans hU c))
      refine up_nil ?_
      go_wp2
      go_ret
      exact ⟨by simp, New.trans HB.out hU⟩

set_option maxRecDepth 100000 in
open Go.WideShapes Go.ChangeShapes in
theorem cellTells_contract {H : Type} {enc : TypeId × Value → H} (W : World) (base : Nat) (args : Array Value) (ds : List (DataW H)) (ps : List MemPlace)
    (hval : ∀ (j : Nat) t v, Try.f3.params[j]? = some t → args[j]? = some v → Value.okWide Try.prog W .any base t v)
    (hA : DataW.TrodAll enc Try.prog W 0 (fun _ => true) true Try.f3.params.toList args.toList ds ps) (hlt : ∀ p ∈ ps, p.block < W.heap.size)
    (hsz : (DataW.weightsEach Try.prog Try.f3.params.toList ds).all (· ≤ reachBytes) = true) :
    Calls Try.prog 3 args W fun e W' => e = .returned (.bool true) ∧ Below W.heap.size W W' := by
  rw [Try.params3] at hA hval hsz
  obtain ⟨v0, v1, v2, d0, d1, d2, p0, p1, p2, rfl, rfl, rfl, h0, h1, h2⟩ := trodAll_three hA
  -- a: v0 d0 p0 h0, hval 0
  -- b: v1 d1 p1 h1, hval 1
  -- c: v2 d2 p2 h2, hval 2
  obtain ⟨⟨a, n, s, x, y⟩, rfl, f1⟩ := open_C (hval 0 _ _ rfl rfl) h0 (fun p hp => hlt p (by simp [hp])) (sized_at hsz (j := 0) rfl rfl)
  obtain ⟨⟨b, m, r, x2, y2⟩, rfl, f2⟩ := open_C (hval 1 _ _ rfl rfl) h1 (fun p hp => hlt p (by simp [hp])) (sized_at hsz (j := 1) rfl rfl)
  obtain ⟨⟨cn, t, nu⟩, rfl, g1, g2, _⟩ := open_Col (hval 2 _ _ rfl rfl) h2 (fun p hp => hlt p (by simp [hp])) (sized_at hsz (j := 2) rfl rfl)
  exact cellTells_walk f1.1.1 f2.1.1

end Go.Proofs.Ytcnaameebbcmhaa
