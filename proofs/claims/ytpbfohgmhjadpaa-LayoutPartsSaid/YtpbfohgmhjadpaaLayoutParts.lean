/- LayoutParts returns true whatever comes in, and leaves all that was there as it was. -/
import Derived.Test.YtpbfohgmhjadpaaLaw18

namespace Go.Hm
theorem cnt_between (a b : Nat) (hab : a ≤ b) : ∀ n, (List.range n).countP (fun i => decide (a ≤ i ∧ i < b)) = min b n - min a n := by
  intro n
  induction n with
  | zero => simp
  | succ n ih =>
    rw [List.range_succ, List.countP_append, ih, List.countP_singleton]
    by_cases h : a ≤ n ∧ n < b
    · rw [if_pos (by simpa using h)]; omega
    · rw [if_neg (by simpa using h)]; omega
/-- How many of k spans have rows of these. -/
def cntS (f t s : Nat) (x y : Int) (k : Nat) : Nat := (List.range k).countP (fun i => decide (hasS (spanAt f t s i) x y))
theorem over_cnt {f t s a b : Nat} {x y : Int} (h : IsOver (spansN f t s) x y a b) : a ≤ b ∧ b - a = cntS f t s x y (spanN f t s) := by
  obtain ⟨h1, h2, _, h4⟩ := h
  rw [spansN_len] at h2 h4
  refine ⟨h1, ?_⟩
  have e := cnt_between a b h1 (spanN f t s)
  rw [show min b (spanN f t s) - min a (spanN f t s) = b - a by omega] at e
  rw [← e]
  unfold cntS
  refine List.countP_congr fun i hi => ?_
  have hi' := List.mem_range.1 hi
  have := h4 i hi'
  rw [spansN_at hi'] at this
  rw [decide_eq_true_eq, decide_eq_true_eq]
  exact this
theorem cntS_le (f t s : Nat) (x y : Int) (k : Nat) : cntS f t s x y k ≤ k := by
  unfold cntS
  have := List.countP_le_length (p := fun i => decide (hasS (spanAt f t s i) x y)) (l := List.range k)
  simpa using this
theorem cntS_add {f t f' t' s : Nat} {x y : Int} {k n : Nat} (h : ∀ i, i < n → spanAt f' t' s i = spanAt f t s (k + i)) : cntS f t s x y (k + n) = cntS f t s x y k + cntS f' t' s x y n := by
  unfold cntS
  rw [List.range_add, List.countP_append, List.countP_map]
  congr 1
  refine List.countP_congr fun i hi => ?_
  simp only [Function.comp]
  rw [h i (List.mem_range.1 hi)]
theorem part_group {t s m j : Nat} (hs : 0 < s) (hm : 0 < m) (hj : j < spanN 0 t (s * m)) :
    ∃ gF gT : Nat, spanAt 0 t (s * m) j = ((gF : Int), (gT : Int)) ∧ gF < gT ∧ gT ≤ t ∧ min (j * m) (spanN 0 t s) = j * m ∧ min ((j + 1) * m) (spanN 0 t s) = j * m + spanN gF gT s ∧ ∀ i, i < spanN gF gT s → spanAt gF gT s i = spanAt 0 t s (j * m + i) := by
  have hsm : 0 < s * m := Nat.mul_pos hs hm
  have h1 := (spanN_lt (f := 0) (t := t) hsm j).1 hj
  have e1 : j * (s * m) = (j * m) * s := by rw [Nat.mul_comm s m, Nat.mul_assoc]
  have e2 : (j + 1) * (s * m) = ((j + 1) * m) * s := by rw [Nat.mul_comm s m, Nat.mul_assoc]
  have e3 : (j + 1) * m = j * m + m := Nat.succ_mul _ _
  have e4 : (j + 1) * (s * m) = j * (s * m) + s * m := Nat.succ_mul _ _
  have key : ∀ i, i < spanN (0 + j * (s * m)) (min (0 + (j + 1) * (s * m)) t) s ↔ i < m ∧ j * m + i < spanN 0 t s := by
    intro i
    rw [spanN_lt hs, spanN_lt hs]
    have e5 : 0 + (j * m + i) * s = 0 + j * (s * m) + i * s := by rw [Nat.add_mul, ← e1]; omega
    rw [e5]
    have e6 : i < m ↔ i * s < s * m := by
      rw [Nat.mul_comm s m]
      exact (Nat.mul_lt_mul_right hs).symm
    rw [e6]
    omega
  have hjm : j * m < spanN 0 t s := by
    rw [spanN_lt hs, ← e1]; exact h1
  refine ⟨0 + j * (s * m), min (0 + (j + 1) * (s * m)) t, rfl, by omega, by omega, by omega, ?_, fun i hi => ?_⟩
  · generalize hn : spanN (0 + j * (s * m)) (min (0 + (j + 1) * (s * m)) t) s = n at *
    have k1 := key n
    have k2 := key (n - 1)
    rcases Nat.eq_zero_or_pos n with h0 | h0
    · have := (key 0).2 ⟨hm, by omega⟩
      omega
    · have := k2.1 (by omega)
      have : ¬ (n < m ∧ j * m + n < spanN 0 t s) := fun hh => by have := k1.2 hh; omega
      omega
  · obtain ⟨k1, k2⟩ := (key i).1 hi
    have e7 : (i + 1) * s ≤ m * s := Nat.mul_le_mul_right _ k1
    have e8 : (j * m + i) * s = j * (s * m) + i * s := by rw [Nat.add_mul, ← e1]
    have e9 : (j * m + i + 1) * s = j * (s * m) + (i + 1) * s := by rw [Nat.add_assoc, Nat.add_mul, ← e1]
    have e10 : m * s = s * m := Nat.mul_comm _ _
    unfold spanAt
    rw [e8, e9]
    refine Prod.ext ?_ ?_
    · simp only; omega
    · simp only; omega
theorem part_end {t s m : Nat} (hs : 0 < s) (hm : 0 < m) : min (spanN 0 t (s * m) * m) (spanN 0 t s) = spanN 0 t s := by
  have hsm : 0 < s * m := Nat.mul_pos hs hm
  rcases Nat.lt_or_ge (spanN 0 t (s * m) * m) (spanN 0 t s) with h | h
  · exfalso
    have h1 := (spanN_lt (f := 0) (t := t) hs _).1 h
    have e : spanN 0 t (s * m) * (s * m) = spanN 0 t (s * m) * m * s := by rw [Nat.mul_assoc, Nat.mul_comm m s]
    have h2 := (spanN_lt (f := 0) (t := t) hsm (spanN 0 t (s * m))).2 (by rw [e]; exact h1)
    omega
  · omega

end Go.Hm

namespace Go.Proofs.Ytpbfohgmhjadpaa
open Go.RowKit Go.Hm

set_option maxHeartbeats 2000000 in
set_option maxRecDepth 100000 in
theorem layoutParts_walk {w : World} {t s m : Nat} {x y : Int} (ht0 : 0 < t) (ht : t ≤ 3000) (hs : 0 < s) (hs1 : s ≤ 1000) (hm : 0 < m) (hm1 : m ≤ 50) (hx : 0 ≤ x) (hy : y ≤ t) :
    Calls Try.prog 7 #[.int .i64 (t : Int), .int .i64 (s : Int), .int .i64 (m : Int), .int .i64 x, .int .i64 y] w (SmallPost w) := by
  have hsm : 0 < s * m := Nat.mul_pos hs hm
  have hsm1 : s * m ≤ 50000 := Nat.mul_le_mul hs1 hm1
  have C1 := Lib.hid (fun W => cut_any 0 (t : Int) (s : Int) (by omega) (by omega) (by omega) W)
  have C2 := Lib.hid (fun W => cut_any 0 (t : Int) ((s * m : Nat) : Int) (by omega) (by omega) (by omega) W)
  rw [show cutS 0 (t : Int) (s : Int) = spansN 0 t s from cutS_nat (f := 0) ht0 (by omega) hs] at C1
  rw [show cutS 0 (t : Int) ((s * m : Nat) : Int) = spansN 0 t (s * m) from cutS_nat (f := 0) ht0 (by omega) hsm] at C2
  have u1 := spansN_up (f := 0) (t := t) hs
  have hN := spanN_le (f := 0) (t := t) hs
  have hM := spanN_le (f := 0) (t := t) hsm
  have HG := Lib.hid (fun j => part_group (t := t) (j := j) hs hm)
  have HE := Lib.hid (part_end (t := t) hs hm)
  have e0 : IntKind.i64.wrap ((s : Int) * (m : Int)) = ((s * m : Nat) : Int) := by rw [← Int.natCast_mul]; exact IntWalk.i64_in _ (by omega)
  generalize hq : s * m = sm at *
  clear hq
  have d1 : decide ((s : Int) < 1) = false := by simp; omega
  have d2 : decide ((1000 : Int) < (s : Int)) = false := by simp; omega
  have d3 : decide ((m : Int) < 1) = false := by simp; omega
  have d4 : decide ((50 : Int) < (m : Int)) = false := by simp; omega
  have d5 : decide ((t : Int) < 0) = false := by simp
  have d6 : decide ((3000 : Int) < (t : Int)) = false := by simp; omega
  have d7 : decide (x < 0) = false := by simp; omega
  have d8 : decide ((t : Int) < y) = false := by simp; omega
  go_enter Try.func7, Try.ntmps7
  go_wp2_with fail
  refine (small18_any w).mono ?_
  rintro e w1 ⟨rfl, b1⟩
  go_wp2_with fail
  refine (C1.out w1).mono ?_
  rintro e w2 ⟨A2, n2, c2, rfl, k2, b2⟩
  have r2 := Reads.of_own k2
  obtain rfl := r2.lenP
  have b02 := New.trans b1 b2
  have P4 := Lib.hid (over_any (c := c2) (f := x) (t := y) r2 u1 (by rw [spansN_len]; omega))
  clear k2 b2 b1 C1
  go_wp2_with fail
  refine P4.out.mono ?_
  rintro e w3 ⟨a, b, rfl, o1, b3⟩
  have b03 := New.trans b02 b3
  obtain ⟨o2, o3⟩ := over_cnt o1
  have O3 := Lib.hid o3
  have o4 := o1.2.1
  rw [spansN_len] at o4
  clear P4 b3 b02 r2 o1 o3 u1
  go_wp2_with fail
  refine (C2.out w3).mono ?_
  rintro e w4 ⟨A4, n4, c4, rfl, k4, b4⟩
  have r4 := Reads.of_own k4
  have q4 := r4.lenP
  rw [spansN_len] at q4
  have hn4 : n4 ≤ 3000 := by omega
  have Q4 := Lib.hid q4
  have b04 := New.trans b03 b4
  clear k4 b4 b03 C2 q4 d1 d2 d3 d4 d5 d6 d7 d8
  go_wp2
  go_loopw [15, 16] (fun v i wr => ∃ k : Nat, i = .int .i64 (k : Int) ∧ v = .int .i64 ((cntS 0 t s x y (min (k * m) (spanN 0 t s)) : Nat) : Int) ∧ k ≤ n4 ∧ New w4 wr) (fun _ i _ => n4 - (intOf i).toNat)
  case atStart => exact ⟨0, rfl, by congr 1; simp [cntS], by omega, New.refl _⟩
  case round =>
    obtain ⟨k, rfl, rfl, hk, hb4⟩ := hrel
    by_cases hlt : k < n4
    · have q4 := Q4.out
      obtain ⟨ad, rfl, hb, c1, c3⟩ := (Reads.later r4 hb4).pair2 hlt
      obtain ⟨gF, gT, g1, g2, g3, g4, g5, g6⟩ := HG.out k (by omega)
      rw [spansN_at (by omega), g1] at c1 c3
      simp only at c1 c3
      have hcnt := cntS_add (x := x) (y := y) g6
      rw [← g5] at hcnt
      rw [g4]
      have HC := Lib.hid hcnt
      have cb1 := cntS_le 0 t s x y (k * m)
      have cb2 : k * m ≤ 3000 := by omega
      have cb3 := cntS_le gF gT s x y (spanN gF gT s)
      have hNg := spanN_le (f := gF) (t := gT) hs
      have ug := spansN_up (f := gF) (t := gT) hs
      have CG := Lib.hid (fun W => cut_any (gF : Int) (gT : Int) (s : Int) (by omega) (by omega) (by omega) W)
      rw [cutS_nat g2 (by omega) hs] at CG
      have OV := Lib.hid (fun (W : World) (A : Option Addr) (n c : Nat) (hr : Reads W W.heap.size 2 A n (pairs (spansN gF gT s))) (hn : n ≤ 3000) => over_any (c := c) (f := x) (t := y) hr ug (by omega))
      have OC := Lib.hid (fun (a b : Nat) (h : IsOver (spansN gF gT s) x y a b) => over_cnt h)
      clear hcnt g1 g4 g5 g6 q4 ug
      generalize cntS 0 t s x y (k * m) = cA at *
      generalize hcB : cntS gF gT s x y (spanN gF gT s) = cB at *
      have HCB := Lib.hid hcB
      clear hcB
      have hiz : (k : Int) < (n4 : Int) := by omega
      have hbb : (ad.add (k * 2)).block < wr.drew.heap.size := by rw [block_of_add]; exact hb
      have X1 := Lib.hid (cell_new c1 hbb)
      have X2 := Lib.hid (cell_new c3 hbb)
      go_wp2_with fail
      refine wp_region_up New [(true, 0), (true, 1), (true, 2), (true, 3), (true, 4), (true, 5), (true, 6), (true, 7), (true, 8), (true, 9), (true, 10), (true, 12), (true, 13), (false, 11), (false, 14), (true, 15), (true, 16), (true, 17), (true, 18), (true, 19)]
        New.refl New.trans (by kernel_rfl) (by kernel_rfl) (by kernel_rfl) (by kernel_rfl) ?_
      have hU := New.refl wr.drew
      repeat (first
        | (refine up_call rfl rfl (fun K hK => ?_); go_simp
           (with_reducible refine (CG.out _).mono ?_)
           rintro e w9 ⟨A9, n9, c9, rfl, k9, b9⟩
           refine hK _ _ b9 ?_
           clear hK
           replace hU := New.trans hU b9
           have r9 := Reads.of_own k9
           have n9e := r9.lenP
           rw [spansN_len] at n9e
           have PO := Lib.hid (OV.out _ _ _ c9 r9 (by omega))
           clear n9e r9 k9)
        | (refine up_call rfl rfl (fun K hK => ?_); go_simp
           (with_reducible refine PO.out.mono ?_)
           rintro e w10 ⟨p1, p2, rfl, o9, b10⟩
           refine hK _ _ b10 ?_
           clear hK
           replace hU := New.trans hU b10)
        | (refine up_quiet rfl rfl (v := ?_) (fun W hW => ?_) ?_; rotate_left; (have y1 := X1.out W (New.trans hU hW); have y2 := X2.out W (New.trans hU hW); go_simp <;> with_reducible rfl); simp only [Act.put, List.setIfInBounds_toArray, List.set_cons_zero, List.set_cons_succ]))
      refine up_nil ?_
      obtain ⟨o10, o11⟩ := OC.out _ _ o9
      have o12 := o9.2.1
      rw [spansN_len] at o12
      have O11 := Lib.hid o11
      have hb5 := New.trans hb4 (New.trans (New.drew wr) hU)
      clear o9 o11 OC OV CG PO X1 X2 hU
      go_wp2
      go_roundw
      case rel => exact ⟨k + 1, by go_num, by rw [HC.out]; congr 1; have := O11.out; omega, by omega, hb5⟩
      case measure => simp [intOf]; omega
    · obtain rfl : k = n4 := by omega
      have hO := O3.out
      have hE := HE.out
      rw [← Q4.out] at hE
      rw [hE, ← hO]
      have k1 : IntKind.i64.wrap ((b : Int) - (a : Int)) = ((b - a : Nat) : Int) := by rw [IntWalk.i64_in _ (by omega)]; omega
      clear hO hE
      go_wp2
      go_ret
      exact ⟨by simp, New.trans b04 hb4⟩

set_option maxHeartbeats 1000000 in
set_option maxRecDepth 100000 in
theorem layoutParts_zero {w : World} {s m : Nat} {x y : Int} (hs : 0 < s) (hs1 : s ≤ 1000) (hm : 0 < m) (hm1 : m ≤ 50) (hx : 0 ≤ x) (hy : y ≤ 0) :
    Calls Try.prog 7 #[.int .i64 0, .int .i64 (s : Int), .int .i64 (m : Int), .int .i64 x, .int .i64 y] w (SmallPost w) := by
  have hsm1 : s * m ≤ 50000 := Nat.mul_le_mul hs1 hm1
  have C1 := Lib.hid (fun W => cut_any 0 0 (s : Int) (by omega) (by omega) (by omega) W)
  have C2 := Lib.hid (fun W => cut_any 0 0 ((s * m : Nat) : Int) (by omega) (by omega) (by omega) W)
  rw [cutS_none (by omega)] at C1 C2
  have e0 : IntKind.i64.wrap ((s : Int) * (m : Int)) = ((s * m : Nat) : Int) := by rw [← Int.natCast_mul]; exact IntWalk.i64_in _ (by omega)
  generalize hq : s * m = sm at *
  clear hq
  have d1 : decide ((s : Int) < 1) = false := by simp; omega
  have d2 : decide ((1000 : Int) < (s : Int)) = false := by simp; omega
  have d3 : decide ((m : Int) < 1) = false := by simp; omega
  have d4 : decide ((50 : Int) < (m : Int)) = false := by simp; omega
  have d7 : decide (x < 0) = false := by simp; omega
  have d8 : decide ((0 : Int) < y) = false := by simp; omega
  go_enter Try.func7, Try.ntmps7
  go_wp2_with fail
  refine (small18_any w).mono ?_
  rintro e w1 ⟨rfl, b1⟩
  go_wp2_with fail
  refine (C1.out w1).mono ?_
  rintro e w2 ⟨A2, n2, c2, rfl, k2, b2⟩
  have r2 := Reads.of_own k2
  obtain rfl : n2 = 0 := r2.lenP
  have b02 := New.trans b1 b2
  have P4 := Lib.hid (over_any (c := c2) (f := x) (t := y) r2 ⟨fun i j _ h => by simp at h, fun i h => by simp at h⟩ (by omega))
  clear k2 b2 b1 C1
  go_wp2_with fail
  refine P4.out.mono ?_
  rintro e w3 ⟨a, b, rfl, o1, b3⟩
  have b03 := New.trans b02 b3
  have o2 := o1.2.1
  have o3 := o1.1
  simp only [List.length_nil, Nat.le_zero_eq] at o2
  subst o2
  obtain rfl : a = 0 := by omega
  clear P4 b3 b02 r2 o1 o3
  go_wp2_with fail
  refine (C2.out w3).mono ?_
  rintro e w4 ⟨A4, n4, c4, rfl, k4, b4⟩
  obtain rfl : n4 = 0 := (Reads.of_own k4).lenP
  have b04 := New.trans b03 b4
  clear k4 b4 b03 C2
  go_wp2
  refine wp_loop_rounds 1 ?_
  rw [rounds_succ]
  go_wp2
  go_ret
  exact ⟨by simp, b04⟩

set_option maxHeartbeats 1000000 in
set_option maxRecDepth 100000 in
theorem layoutParts_big {w : World} {t s m x y : Int} (hb : s < 1 ∨ 1000 < s ∨ m < 1 ∨ 50 < m ∨ t < 0 ∨ 3000 < t ∨ x < 0 ∨ t < y) :
    Calls Try.prog 7 #[.int .i64 t, .int .i64 s, .int .i64 m, .int .i64 x, .int .i64 y] w (SmallPost w) := by
  have hc : s < 1 ∨ (¬ s < 1 ∧ 1000 < s) ∨ (¬ s < 1 ∧ ¬ 1000 < s ∧ m < 1) ∨ (¬ s < 1 ∧ ¬ 1000 < s ∧ ¬ m < 1 ∧ 50 < m) ∨ (¬ s < 1 ∧ ¬ 1000 < s ∧ ¬ m < 1 ∧ ¬ 50 < m ∧ t < 0) ∨ (¬ s < 1 ∧ ¬ 1000 < s ∧ ¬ m < 1 ∧ ¬ 50 < m ∧ ¬ t < 0 ∧ 3000 < t) ∨
    (¬ s < 1 ∧ ¬ 1000 < s ∧ ¬ m < 1 ∧ ¬ 50 < m ∧ ¬ t < 0 ∧ ¬ 3000 < t ∧ x < 0) ∨ (¬ s < 1 ∧ ¬ 1000 < s ∧ ¬ m < 1 ∧ ¬ 50 < m ∧ ¬ t < 0 ∧ ¬ 3000 < t ∧ ¬ x < 0 ∧ t < y) := by omega
  clear hb
  rcases hc with h1 | ⟨h1, h2⟩ | ⟨h1, h2, h3⟩ | ⟨h1, h2, h3, h4⟩ | ⟨h1, h2, h3, h4, h5⟩ | ⟨h1, h2, h3, h4, h5, h6⟩ | ⟨h1, h2, h3, h4, h5, h6, h7⟩ | ⟨h1, h2, h3, h4, h5, h6, h7, h8⟩
  all_goals
    try (have d1 : decide (s < 1) = false := decide_eq_false h1)
    try (have d2 : decide (1000 < s) = false := decide_eq_false h2)
    try (have d3 : decide (m < 1) = false := decide_eq_false h3)
    try (have d4 : decide (50 < m) = false := decide_eq_false h4)
    try (have d5 : decide (t < 0) = false := decide_eq_false h5)
    try (have d6 : decide (3000 < t) = false := decide_eq_false h6)
    try (have d7 : decide (x < 0) = false := decide_eq_false h7)
    go_enter Try.func7, Try.ntmps7
    go_wp2_with (go_at_call 8; refine (small18_any w).mono ?_; rintro e w1 ⟨rfl, b1⟩)
    go_ret
    exact ⟨rfl, b1⟩

set_option maxRecDepth 100000 in
open Go.WideShapes Go.ChangeShapes in
theorem layoutParts_contract {H : Type} {enc : TypeId × Value → H} (W : World) (base : Nat) (args : Array Value) (ds : List (DataW H)) (ps : List MemPlace)
    (hval : ∀ (j : Nat) t v, Try.f7.params[j]? = some t → args[j]? = some v → Value.okWide Try.prog W .any base t v)
    (hA : DataW.TrodAll enc Try.prog W 0 (fun _ => true) true Try.f7.params.toList args.toList ds ps) (hlt : ∀ p ∈ ps, p.block < W.heap.size)
    (hsz : (DataW.weightsEach Try.prog Try.f7.params.toList ds).all (· ≤ reachBytes) = true) :
    Calls Try.prog 7 args W fun e W' => e = .returned (.bool true) ∧ Below W.heap.size W W' := by
  rw [Try.params7] at hA hval hsz
  obtain ⟨v0, v1, v2, v3, v4, d0, d1, d2, d3, d4, p0, p1, p2, p3, p4, rfl, rfl, rfl, h0, h1, h2, h3, h4⟩ := trodAll_five hA
  obtain ⟨a, rfl, wa, wa'⟩ := open_i64 (hval 0 _ _ rfl rfl) h0
  obtain ⟨b, rfl, wb, wb'⟩ := open_i64 (hval 1 _ _ rfl rfl) h1
  obtain ⟨c, rfl, wc, wc'⟩ := open_i64 (hval 2 _ _ rfl rfl) h2
  obtain ⟨d, rfl, wd, wd'⟩ := open_i64 (hval 3 _ _ rfl rfl) h3
  obtain ⟨f, rfl, wf, wf'⟩ := open_i64 (hval 4 _ _ rfl rfl) h4
  by_cases hb : b < 1 ∨ 1000 < b ∨ c < 1 ∨ 50 < c ∨ a < 0 ∨ 3000 < a ∨ d < 0 ∨ a < f
  · exact layoutParts_big hb
  · obtain ⟨b, rfl⟩ := Int.eq_ofNat_of_zero_le (show 0 ≤ b by omega)
    obtain ⟨c, rfl⟩ := Int.eq_ofNat_of_zero_le (show 0 ≤ c by omega)
    by_cases h0 : a = 0
    · subst h0
      exact layoutParts_zero (by omega) (by omega) (by omega) (by omega) (by omega) (by omega)
    · obtain ⟨a, rfl⟩ := Int.eq_ofNat_of_zero_le (show 0 ≤ a by omega)
      exact layoutParts_walk (by omega) (by omega) (by omega) (by omega) (by omega) (by omega) (by omega) (by omega)

end Go.Proofs.Ytpbfohgmhjadpaa
