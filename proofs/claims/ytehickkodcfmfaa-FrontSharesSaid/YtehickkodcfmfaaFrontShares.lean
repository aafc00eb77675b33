/- FrontShares returns true whatever comes in, and leaves all that was there as it was. -/
import Derived.Test.YtehickkodcfmfaaSmallF

namespace Go.Hm
open Go
/-- Not behind. -/
def lexle : List Nat → List Nat → Bool
  | [], _ => true
  | _ :: _, [] => false
  | a :: l, b :: m => decide (a < b) || (decide (a = b) && lexle l m)
theorem lexle_str : ∀ (a b : List Nat), (∀ x ∈ a, x < 256) → (∀ x ∈ b, x < 256) → (Op.bytesLess (bstr a).toList (bstr b).toList || (bstr a).toList == (bstr b).toList) = lexle a b := by
  intro a b ha hb
  rw [bstr_toList, bstr_toList]
  induction a generalizing b with
  | nil => cases b <;> simp [Op.bytesLess, lexle]
  | cons x a ih =>
    cases b with
    | nil => simp [Op.bytesLess, lexle]
    | cons y b =>
      have hx := ha x (by simp)
      have hy := hb y (by simp)
      have h1 := ih b (fun z hz => ha z (by simp [hz])) (fun z hz => hb z (by simp [hz]))
      have e1 : (UInt8.ofNat x < UInt8.ofNat y) ↔ x < y := by rw [UInt8.lt_iff_toNat_lt]; simp; omega
      have e2 : (UInt8.ofNat x = UInt8.ofNat y) ↔ x = y := by
        rw [← UInt8.toNat_inj]; simp; omega
      simp only [lexle, ← h1, List.map_cons, Op.bytesLess]
      rw [Bool.eq_iff_iff]
      simp only [Bool.or_eq_true, Bool.and_eq_true, decide_eq_true_eq, beq_iff_eq, List.cons.injEq, e1, e2]
      by_cases hxy : x < y
      · simp [hxy]
      · by_cases hq : x = y
        · simp [hq]
        · simp [hxy, hq]
theorem lexle_mid : ∀ (j : Nat) (a d b : List Nat), lexle a d = true → lexle d b = true → a.take j = b.take j → j ≤ a.length → j ≤ b.length → j ≤ d.length ∧ a.take j = d.take j := by
  intro j
  induction j with
  | zero => intro a d b _ _ _ _ _; simp
  | succ j ih =>
    intro a d b h1 h2 h3 ha hb
    cases a with
    | nil => simp at ha
    | cons x a =>
      cases b with
      | nil => simp at hb
      | cons y b =>
        simp only [List.take_succ_cons, List.cons.injEq] at h3
        obtain ⟨rfl, h3⟩ := h3
        cases d with
        | nil => simp [lexle] at h1
        | cons z d =>
          simp only [lexle, Bool.or_eq_true, Bool.and_eq_true, decide_eq_true_eq] at h1 h2
          have hz : x = z := by omega
          subst hz
          have h1' : lexle a d = true := by rcases h1 with h1 | h1; omega; exact h1.2
          have h2' : lexle d b = true := by rcases h2 with h2 | h2; omega; exact h2.2
          obtain ⟨r1, r2⟩ := ih a d b h1' h2' h3 (by simpa using ha) (by simpa using hb)
          exact ⟨by simpa using r1, by simp [r2]⟩

end Go.Hm

namespace Go.Proofs.Ytehickkodcfmfaa
open Go.RowKit Go.Hm

set_option maxHeartbeats 1000000 in
set_option maxRecDepth 100000 in
theorem frontShares_walk {w : World} {a b d : List Nat} (ha : ∀ x ∈ a, x < 256) (hb : ∀ x ∈ b, x < 256) (hd : ∀ x ∈ d, x < 256) (hla : a.length ≤ 1000) (hlb : b.length ≤ 1000) (hld : d.length ≤ 1000) :
    Calls Try.prog 14 #[.string (bstr a), .string (bstr b), .string (bstr d)] w (SmallPost w) := by
  have z1 := bstr_size a
  have z2 := bstr_size b
  have z3 := bstr_size d
  have t1 : decide (1000 < (a.length : Int)) = false := by simp; omega
  have t2 : decide (1000 < (b.length : Int)) = false := by simp; omega
  have t3 : decide (1000 < (d.length : Int)) = false := by simp; omega
  have S1 := Lib.hid (fun W => shared_any a b ha hb (by omega) (by omega) W)
  have S2 := Lib.hid (fun W => shared_any b a hb ha (by omega) (by omega) W)
  rw [shr_comm b a] at S2
  have k1 := shr_le_left a b
  have k2 := shr_le_right a b
  have k3 := shr_ne a b
  have kt := shr_take a b
  have S3 := Lib.hid (fun W => shared_any a d ha hd (by omega) (by omega) W)
  have S4 := Lib.hid (fun W => shared_any d b hd hb (by omega) (by omega) W)
  have hlex : (lexle a d = false) ∨ (lexle a d = true ∧ lexle d b = false) ∨ (lexle a d = true ∧ lexle d b = true ∧ shr a b ≤ shr a d ∧ shr a b ≤ shr d b) := by
    cases h1 : lexle a d
    · exact .inl rfl
    · cases h2 : lexle d b
      · exact .inr (.inl ⟨rfl, rfl⟩)
      · obtain ⟨r1, r2⟩ := lexle_mid (shr a b) a d b h1 h2 kt k1 k2
        exact .inr (.inr ⟨rfl, rfl, shr_max a d _ k1 r2 r1, shr_max d b _ r1 (by rw [← r2, kt]) k2⟩)
  rw [← lexle_str a d ha hd, ← lexle_str d b hd hb] at hlex
  have i1 := run_to strT a (shr a b) k1
  have i2 := run_to strT b (shr a b) k2
  rw [← shr_take] at i2
  clear kt
  generalize shr a b = j at *
  generalize shr a d = j3 at *
  generalize shr d b = j4 at *
  have d1 : decide (a.length < j) = false := by simp; omega
  have d2 : decide (b.length < j) = false := by simp; omega
  have K3 := Lib.hid k3
  clear k3
  have hcase : (decide (j < a.length) = false) ∨ (decide (j < a.length) = true ∧ decide (j < b.length) = false) ∨ (decide (j < a.length) = true ∧ decide (j < b.length) = true ∧ ¬ a.getD j 0 = b.getD j 0) := by
    simp only [decide_eq_false_iff_not, decide_eq_true_eq]
    by_cases h1 : j < a.length
    · by_cases h2 : j < b.length
      · exact .inr (.inr ⟨h1, h2, K3.out h1 h2⟩)
      · exact .inr (.inl ⟨h1, h2⟩)
    · exact .inl h1
  have i3 := fun (hj : j < a.length) => run_idx strT a ha j hj
  have i4 := fun (hj : j < b.length) => run_idx strT b hb j hj
  have I3 := Lib.hid i3
  have I4 := Lib.hid i4
  clear K3 i3 i4
  rcases hlex with x1 | ⟨x1, x2⟩ | ⟨x1, x2, x3, x4⟩ <;> rcases hcase with d3 | ⟨d3, d4⟩ | ⟨d3, d4, d5⟩
  all_goals
    try (
      have i3 := I3.out (by simpa using d3)
      have i4 := I4.out (by simpa using d4)
      have d6 : (((a.getD j 0 : Nat) : Int) == ((b.getD j 0 : Nat) : Int)) = false := by rw [beq_eq_false_iff_ne]; omega
      clear d5
      generalize a.getD j 0 = x at *
      generalize b.getD j 0 = y at *)
    clear I3 I4
    go_enter Try.func14, Try.ntmps14
    go_wp2_with (first
      | (go_at_call 28; refine (small13_any w).mono ?_; rintro e w1 ⟨rfl, b1⟩)
      | (go_at_call 32; refine (S1.out _).mono ?_; intro e w2 hh; obtain ⟨rfl, b2⟩ := hh.new; clear hh
         have b02 := New.trans b1 b2))
    refine wp_region_up New [(true, 0), (true, 1), (true, 2), (true, 3), (true, 4), (true, 5), (true, 6), (true, 7), (true, 8), (true, 9), (true, 10), (true, 11), (true, 12), (true, 13), (true, 14), (true, 15), (true, 16), (true, 17), (true, 18), (true, 19), (true, 20), (true, 21), (true, 22), (true, 23), (true, 24), (true, 25), (true, 26), (true, 27), (true, 28), (true, 29), (true, 30), (true, 31), (true, 32), (true, 33), (true, 34), (true, 35), (true, 36), (true, 37), (true, 38), (true, 39), (true, 40), (true, 41), (true, 42), (true, 43), (true, 44), (true, 45), (true, 46), (true, 47), (false, 48), (true, 49), (true, 50)]
      New.refl New.trans (by kernel_rfl) (by kernel_rfl) (by kernel_rfl) (by kernel_rfl) ?_
    have hU := New.drew w2
    repeat (first
      | (refine up_call rfl rfl (fun K hK => ?_); go_simp
         (with_reducible refine (S2.out _).mono ?_); intro e w9 hh; obtain ⟨rfl, b9⟩ := hh.new; clear hh
         refine hK _ _ b9 ?_
         clear hK
         have hU := New.trans hU b9)
      | (refine up_skip rfl rfl ?_; simp only [Act.put, List.setIfInBounds_toArray, List.set_cons_zero, List.set_cons_succ])
      | (refine up_quiet rfl rfl (v := ?_) (fun W hW => ?_) ?_; rotate_left; (go_simp <;> with_reducible rfl); simp only [Act.put, List.setIfInBounds_toArray, List.set_cons_zero, List.set_cons_succ]))
    refine up_nil ?_
    go_wp2_with (first
      | (go_at_call 32; (with_reducible refine (S3.out _).mono ?_); intro e w10 hh; obtain ⟨rfl, b10⟩ := hh.new; clear hh
         have hU := New.trans hU b10)
      | (go_at_call 32; (with_reducible refine (S4.out _).mono ?_); intro e w11 hh; obtain ⟨rfl, b11⟩ := hh.new; clear hh
         have hU := New.trans hU b11))
    go_ret
    exact ⟨rfl, New.trans b02 hU⟩

set_option maxHeartbeats 400000 in
theorem frontShares_big {w : World} {a b d : List Nat} (hb : 1000 < a.length ∨ 1000 < b.length ∨ 1000 < d.length) :
    Calls Try.prog 14 #[.string (bstr a), .string (bstr b), .string (bstr d)] w (SmallPost w) := by
  have z1 := bstr_size a
  have z2 := bstr_size b
  have z3 := bstr_size d
  by_cases h1 : 1000 < a.length
  all_goals try (have t1 : decide (1000 < (a.length : Int)) = false := by simp; omega)
  all_goals try (by_cases h2 : 1000 < b.length)
  all_goals try (have t2 : decide (1000 < (b.length : Int)) = false := by simp; omega)
  all_goals try (have h3 : 1000 < d.length := by omega)
  all_goals
    clear hb
    go_enter Try.func14, Try.ntmps14
    go_wp2_with (go_at_call 28; refine (small13_any w).mono ?_; rintro e w1 ⟨rfl, b1⟩)
    go_ret
    exact ⟨rfl, b1⟩

open Go.WideShapes Go.ChangeShapes in
theorem frontShares_contract {H : Type} {enc : TypeId × Value → H} (W : World) (base : Nat) (args : Array Value) (ds : List (DataW H)) (ps : List MemPlace)
    (hval : ∀ (j : Nat) t v, Try.f14.params[j]? = some t → args[j]? = some v → Value.okWide Try.prog W .any base t v)
    (hA : DataW.TrodAll enc Try.prog W 0 (fun _ => true) true Try.f14.params.toList args.toList ds ps) (hlt : ∀ p ∈ ps, p.block < W.heap.size)
    (hsz : (DataW.weightsEach Try.prog Try.f14.params.toList ds).all (· ≤ reachBytes) = true) :
    Calls Try.prog 14 args W fun e W' => e = .returned (.bool true) ∧ Below W.heap.size W W' := by
  rw [Try.params14] at hA hval hsz
  obtain ⟨v0, v1, v2, d0, d1, d2, p0, p1, p2, rfl, rfl, rfl, h0, h1, h2⟩ := trodAll_three hA
  obtain ⟨a, rfl, h8_a, hl_a⟩ := open_s (hval 0 _ _ rfl rfl) h0 (fun p hp => hlt p (by simp [hp])) (sized_at hsz (j := 0) rfl rfl)
  obtain ⟨b, rfl, h8_b, hl_b⟩ := open_s (hval 1 _ _ rfl rfl) h1 (fun p hp => hlt p (by simp [hp])) (sized_at hsz (j := 1) rfl rfl)
  obtain ⟨d, rfl, h8_d, hl_d⟩ := open_s (hval 2 _ _ rfl rfl) h2 (fun p hp => hlt p (by simp [hp])) (sized_at hsz (j := 2) rfl rfl)
  by_cases hb : 1000 < a.length ∨ 1000 < b.length ∨ 1000 < d.length
  · exact frontShares_big hb
  · exact frontShares_walk h8_a h8_b h8_d (by omega) (by omega) (by omega)

end Go.Proofs.Ytehickkodcfmfaa
