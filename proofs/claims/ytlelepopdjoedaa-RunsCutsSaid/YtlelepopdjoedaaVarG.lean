/- varint.Get and varint.Len over a cursor. -/
import Derived.ScopeJumps
import Derived.WalkMore
import Derived.Test.YtlelepopdjoedaaVar
import Derived.Test.YtlelepopdjoedaaUp

namespace Go.Hm

theorem vp_app_lt {N b : Nat} {r s : List Nat} (h : b :: s = vp N ++ r) (hb : b < 128) : N = b ∧ r = s := by
  by_cases hN : N < 128
  · rw [vp_lt hN] at h
    simp only [List.cons_append, List.nil_append, List.cons.injEq] at h
    exact ⟨h.1.symm, h.2.symm⟩
  · rw [vp_ge hN] at h
    simp only [List.cons_append, List.cons.injEq] at h
    omega
theorem vp_app_ge {N b : Nat} {r s : List Nat} (h : b :: s = vp N ++ r) (hb : 128 ≤ b) : N % 128 + 128 = b ∧ 0 < N / 128 ∧ s = vp (N / 128) ++ r := by
  by_cases hN : N < 128
  · rw [vp_lt hN] at h
    simp only [List.cons_append, List.nil_append, List.cons.injEq] at h
    omega
  · rw [vp_ge hN] at h
    simp only [List.cons_append, List.cons.injEq] at h
    exact ⟨h.1.symm, by omega, h.2⟩
theorem vp_cons {b N : Nat} (hb : 128 ≤ b) (h8 : b < 256) (hN : 0 < N) : b :: vp N = vp (b - 128 + 128 * N) := by
  rw [vp_ge (n := b - 128 + 128 * N) (by omega)]
  congr 1
  · omega
  · congr 1; omega
theorem vp_app_inj : ∀ (k M N : Nat) (r s : List Nat), M ≤ k → vp M ++ r = vp N ++ s → M = N ∧ r = s := by
  intro k
  induction k using Nat.strongRecOn with
  | ind k ih =>
    intro M N r s hk h
    by_cases hM : M < 128
    · rw [vp_lt hM] at h
      have := vp_app_lt h hM
      exact ⟨this.1.symm, this.2.symm⟩
    · rw [vp_ge hM] at h
      have h1 := vp_app_ge h (by omega)
      have h2 := ih (M / 128) (by omega) _ _ _ _ (Nat.le_refl _) h1.2.2
      exact ⟨by omega, h2.2⟩

/-- After k bytes with the number v in them, what is left of l reads on as the rest of a number. -/
def VIn (l : List Nat) (k v : Nat) (rl : List Nat) : Prop :=
  v < 128 ^ k ∧ (∀ N r, l = vp N ++ r → ∃ N', N = v + 128 ^ k * N' ∧ (k = 0 ∨ 0 < N') ∧ rl = vp N' ++ r) ∧
  (∀ N r, (k = 0 ∨ 0 < N) → rl = vp N ++ r → l = vp (v + 128 ^ k * N) ++ r)
theorem VIn.zero (l : List Nat) : VIn l 0 0 l := ⟨by simp, fun N r h => ⟨N, by simp, .inl rfl, h⟩, fun N r _ h => by simpa using h⟩
theorem VIn.step {l rl : List Nat} {k v b : Nat} (h : VIn l k v (b :: rl)) (hb : 128 ≤ b) (h8 : b < 256) : VIn l (k + 1) (v + 128 ^ k * (b - 128)) rl := by
  obtain ⟨h1, h2, h3⟩ := h
  have hp : 128 ^ (k + 1) = 128 ^ k * 128 := Nat.pow_succ ..
  have hm : 128 ^ k * (b - 128) ≤ 128 ^ k * 127 := Nat.mul_le_mul_left _ (by omega)
  refine ⟨by omega, fun N r e => ?_, fun N r hN e => ?_⟩
  · obtain ⟨N', e1, e2, e3⟩ := h2 N r e
    obtain ⟨f1, f2, f3⟩ := vp_app_ge e3 hb
    refine ⟨N' / 128, ?_, .inr f2, f3⟩
    rw [e1, hp, Nat.mul_assoc, Nat.add_assoc, ← Nat.mul_add]
    congr 2
    omega
  · have hN' : 0 < N := by rcases hN with hN | hN <;> omega
    have := h3 (b - 128 + 128 * N) r (.inr (by omega)) (by rw [e, ← vp_cons hb h8 hN', List.cons_append])
    rw [this, Nat.mul_add, hp, Nat.mul_assoc, Nat.add_assoc]
theorem VIn.done {l rl : List Nat} {k v b : Nat} (h : VIn l k v (b :: rl)) (hb : b < 128) (hk : k = 0 ∨ 0 < b) : l = vp (v + 128 ^ k * b) ++ rl :=
  h.2.2 b rl hk (by rw [vp_lt hb]; rfl)
theorem VIn.not_zero {l rl : List Nat} {k v : Nat} (h : VIn l k v (0 :: rl)) (hk : 0 < k) : ∀ N r, l = vp N ++ r → 18446744073709551616 ≤ N := by
  intro N r e
  obtain ⟨N', _, e2, e3⟩ := h.2.1 N r e
  have := vp_app_lt e3 (by omega)
  omega
theorem VIn.not_nil {l : List Nat} {k v : Nat} (h : VIn l k v []) : ∀ N r, l = vp N ++ r → 18446744073709551616 ≤ N := by
  intro N r e
  obtain ⟨N', _, _, e3⟩ := h.2.1 N r e
  have := vp_pos N'
  have := congrArg List.length e3
  simp at this
  omega
theorem VIn.not_big {l rl : List Nat} {v b : Nat} (h : VIn l 9 v (b :: rl)) (hb : 1 < b) : ∀ N r, l = vp N ++ r → 18446744073709551616 ≤ N := by
  intro N r e
  obtain ⟨N', e1, e2, e3⟩ := h.2.1 N r e
  by_cases hlt : b < 128
  · have := (vp_app_lt e3 hlt).1
    omega
  · have := vp_app_ge e3 (by omega)
    omega
theorem pow128 (k : Nat) : (128 : Nat) ^ k = 2 ^ (7 * k) := by rw [Nat.pow_mul]
theorem VIn.fits {k v b : Nat} (hv : v < 128 ^ k) (hb : b < 128) (hk : k ≤ 8 ∨ (k ≤ 9 ∧ b ≤ 1)) : v + 128 ^ k * b < 18446744073709551616 := by
  rcases hk with hk | ⟨hk, hb1⟩
  · have h1 : (128 : Nat) ^ k ≤ 128 ^ 8 := Nat.pow_le_pow_right (by omega) hk
    have h2 : 128 ^ k * b ≤ 128 ^ 8 * b := Nat.mul_le_mul_right _ h1
    omega
  · have h1 : (128 : Nat) ^ k ≤ 128 ^ 9 := Nat.pow_le_pow_right (by omega) hk
    have h2 : 128 ^ k * b ≤ 128 ^ 9 * b := Nat.mul_le_mul_right _ h1
    omega
theorem andNot128 (b : Nat) (h : b < 256) : bits .andNot .u8 (b : Int) 128 = ((b % 128 : Nat) : Int) := by
  have := u8_andNot_nat b 128 h (by omega)
  rw [show 255 - 128 = 127 from rfl, nat_mask7] at this
  simpa using this
theorem or_step {k v b : Nat} (hv : v < 128 ^ k) (hb : b < 128) (hk : k ≤ 8 ∨ (k ≤ 9 ∧ b ≤ 1)) :
    bits .or .u64 (v : Int) ((b : Int) * 2 ^ (7 * k) % 18446744073709551616) = ((v + 128 ^ k * b : Nat) : Int) := by
  have hf := VIn.fits hv hb hk
  have e2 : (b : Int) * 2 ^ (7 * k) = ((b * 2 ^ (7 * k) : Nat) : Int) := by simp
  have e0 : 128 ^ k * b = b * 2 ^ (7 * k) := by rw [pow128, Nat.mul_comm]
  rw [e2, show (((b * 2 ^ (7 * k) : Nat) : Int) % 18446744073709551616) = ((b * 2 ^ (7 * k) : Nat) : Int) from Int.emod_eq_of_lt (by omega) (by omega),
    u64_or_nat v (b * 2 ^ (7 * k)) (by omega) (by omega), Nat.or_comm, or_shl b v (7 * k) (by rw [← pow128]; exact hv), e0, Nat.add_comm]
theorem or_step2 {k v b : Nat} (hv : v < 128 ^ k) (h8 : b < 256) (hk : k ≤ 8 ∨ (k ≤ 9 ∧ b % 128 ≤ 1)) :
    bits .or .u64 (v : Int) (IntKind.u64.wrap (IntKind.u64.wrap (bits .andNot .u8 (b : Int) 128) * 2 ^ (7 * k))) = ((v + 128 ^ k * (b % 128) : Nat) : Int) := by
  rw [andNot128 b h8, IntKind.wrap_u64, IntKind.wrap_u64, show (((b % 128 : Nat) : Int) % 18446744073709551616) = ((b % 128 : Nat) : Int) from by omega]
  exact or_step hv (by omega) hk

end Go.Hm

namespace Go.Proofs.Ytlelepopdjoedaa
open Go.RowKit Go.Hm

def GetPost (g : Nat) (l : List Nat) (w : World) (e : Ending) (w' : World) : Prop :=
  (∃ N r, l = vp N ++ r ∧ N < 18446744073709551616 ∧ e = .returned (.int .u64 (N : Int)) ∧ Cur w' g r false ∧ w.grownBy w' (some g)) ∨
  ((∀ N r, l = vp N ++ r → 18446744073709551616 ≤ N) ∧ e = .returned (.int .u64 0) ∧ Cur w' g [] true ∧ w.grownBy w' (some g))

/-- What holds at the label: no number is there. -/
def GetJ (g : Nat) (l : List Nat) (w : World) (a : Act) (w' : World) : Prop :=
  ∃ (u1 u2 u3 u4 u5 u6 u7 u8 u9 u10 u11 u12 u13 u14 u15 u16 u17 u18 u19 u20 u21 u22 u23 u24 u25 u26 u27 u28 u29 u30 u31 u32 u33 u34 u35 u36 u37 u38 u39 u40 u41 : Value) (rl : List Nat) (bad : Bool), a = { tmps := #[.pointer (some ⟨g, 0, none⟩), u1, u2, u3, u4, u5, u6, u7, u8, u9, u10, u11, u12, u13, u14, u15, u16, u17, u18, u19, u20, u21, u22, u23, u24, u25, u26, u27, u28, u29, u30, u31, u32, u33, u34, u35, u36, u37, u38, u39, u40, u41], defers := [] } ∧ Cur w' g rl bad ∧ w.grownBy w' (some g) ∧ (∀ N r, l = vp N ++ r → 18446744073709551616 ≤ N)

theorem Cur.lt8 {w : World} {g : Nat} {l : List Nat} {bad : Bool} (h : Cur w g l bad) : ∀ x ∈ l, x < 256 := by
  obtain ⟨A, c, _, _, _, _, h5, _⟩ := h
  exact h5

set_option maxHeartbeats 2000000 in
set_option maxRecDepth 100000 in
theorem get_any {w : World} {g : Nat} {l : List Nat} (h : Cur w g l false) (h8 : ∀ x ∈ l, x < 256) :
    Calls Try.prog 51 #[.pointer (some ⟨g, 0, none⟩)] w (GetPost g l w) := by
  go_enter Try.func51, Try.ntmps51
  go_wp2
  refine wp_scope_jumps 0 (GetJ g l w) (fun _ _ => 0) rfl ?_ ?_
  · go_wp2
    go_loopw [3, 4] (fun v i wr => ∃ (k x : Nat) (rl : List Nat), i = .int .i64 ((7 * k : Nat) : Int) ∧ k ≤ 9 ∧ v = .int .u64 (x : Int) ∧ VIn l k x rl ∧ (∀ y ∈ rl, y < 256) ∧ Cur wr g rl false ∧ w.grownBy wr (some g)) (fun _ i _ => 100 - (intOf i).toNat)
    case atStart => exact ⟨0, 0, l, rfl, by omega, rfl, VIn.zero l, h8, h, Far.refl g w⟩
    case round =>
      obtain ⟨k, x, rl, rfl, hk, rfl, hV, h8', hC, hg⟩ := hrel
      have HV := Lib.hid hV
      cases rl with
      | nil =>
        have B := Lib.hid (byte_bad hC (.inr (by simp)))
        go_wp2_with (first
          | (go_at_call 46; refine B.out.mono ?_; rintro e w1 ⟨rfl, C1, g1⟩
             have hB := Lib.hid (bad_any C1))
          | (go_at_call 27; refine hB.out.mono ?_; rintro e w2 ⟨rfl, rfl⟩)
          | go_step3)
        exact ⟨rfl, _, _, _, _, _, _, _, _, _, _, _, _, _, _, _, _, _, _, _, _, _, _, _, _, _, _, _, _, _, _, _, _, _, _, _, _, _, _, _, _, _, _, _, rfl, C1, Far.trans hg g1, HV.out.not_nil⟩
      | cons b rl =>
        have hb8 : b < 256 := h8' b (by simp)
        have B := Lib.hid (byte_app hC)
        have hx := hV.1
        clear hV
        by_cases hz : 0 < k ∧ b = 0
        · obtain ⟨hz, rfl⟩ := hz
          go_wp2_with (first
            | (go_at_call 46; refine B.out.mono ?_; rintro e w1 ⟨rfl, C1, g1⟩
               have hB := Lib.hid (bad_any C1))
            | (go_at_call 27; refine hB.out.mono ?_; rintro e w2 ⟨rfl, rfl⟩)
            | go_step3)
          all_goals first
            | (exfalso; omega)
            | exact ⟨rfl, _, _, _, _, _, _, _, _, _, _, _, _, _, _, _, _, _, _, _, _, _, _, _, _, _, _, _, _, _, _, _, _, _, _, _, _, _, _, _, _, _, _, _, rfl, C1, Far.trans hg g1, HV.out.not_zero hz⟩
        · by_cases h9 : k = 9
          · subst h9
            by_cases hb1 : 1 < b
            · go_wp2_with (first
              | (go_at_call 46; refine B.out.mono ?_; rintro e w1 ⟨rfl, C1, g1⟩
                 have hB := Lib.hid (bad_any C1))
              | (go_at_call 27; refine hB.out.mono ?_; rintro e w2 ⟨rfl, rfl⟩)
              | go_step3)
              all_goals first
                | (exfalso; omega)
                | exact ⟨rfl, _, _, _, _, _, _, _, _, _, _, _, _, _, _, _, _, _, _, _, _, _, _, _, _, _, _, _, _, _, _, _, _, _, _, _, _, _, _, _, _, _, _, _, rfl, C1, Far.trans hg g1, HV.out.not_big hb1⟩
            · have HO := or_step2 hx hb8 (.inr ⟨by omega, by omega⟩)
              rw [show (2 : Int) ^ (7 * 9) = 9223372036854775808 from by decide, show b % 128 = b from by omega] at HO
              go_wp2_with (first
                | (go_at_call 46; refine B.out.mono ?_; rintro e w1 ⟨rfl, C1, g1⟩
                   have hB := Lib.hid (bad_any C1))
                | (go_at_call 27; refine hB.out.mono ?_; rintro e w2 ⟨rfl, rfl⟩)
                | go_step3)
              all_goals first
                | (rename_i hq; exfalso; rcases hq with hq | hq; (simp at hq; omega); omega)
                | (simp only [Exit.jump]; go_ret
                   exact .inl ⟨_, _, HV.out.done (by omega) (.inl (by omega)), VIn.fits hx (by omega) (.inr ⟨by omega, by omega⟩), by simp, C1, Far.trans hg g1⟩)
                | (simp only [Exit.jump]; go_ret
                   exact .inl ⟨_, _, HV.out.done (by omega) (.inr (by omega)), VIn.fits hx (by omega) (.inr ⟨by omega, by omega⟩), by simp, C1, Far.trans hg g1⟩)
          · have HO := or_step2 hx hb8 (.inl (by omega))
            go_wp2_with (first
              | (go_at_call 46; refine B.out.mono ?_; rintro e w1 ⟨rfl, C1, g1⟩
                 have hB := Lib.hid (bad_any C1))
              | (go_at_call 27; refine hB.out.mono ?_; rintro e w2 ⟨rfl, rfl⟩)
              | go_step3)
            all_goals first
              | (exfalso; omega)
              | (simp only [Exit.jump]; go_ret
                 exact .inl ⟨x + 128 ^ k * b, rl, HV.out.done (by omega) (by omega), VIn.fits hx (by omega) (.inl (by omega)), by rw [show ((b : Int) % 128) = (b : Int) from by omega]; simp, C1, Far.trans hg g1⟩)
              | (go_roundw
                 case rel => exact ⟨k + 1, x + 128 ^ k * (b - 128), rl, by go_num, by omega, by rw [show ((b : Int) % 128) = ((b - 128 : Nat) : Int) from by omega]; simp, HV.out.step (by omega) hb8, fun y hy => h8' y (List.mem_cons_of_mem _ hy), C1, Far.trans hg g1⟩
                 case measure => simp [intOf]; omega)
  · rintro a' w' ⟨u, u, u, u, u, u, u, u, u, u, u, u, u, u, u, u, u, u, u, u, u, u, u, u, u, u, u, u, u, u, u, u, u, u, u, u, u, u, u, u, u, rl, bad, rfl, C1, hg, hno⟩
    have hF := Lib.hid (fail_any C1)
    go_wp2_with (go_at_call 50; refine hF.out.mono ?_; rintro e w2 ⟨rfl, C2, g2⟩)
    simp only [Exit.jump]
    go_ret
    exact .inr ⟨hno, rfl, C2, Far.trans hg g2⟩

set_option maxHeartbeats 2000000 in
set_option maxRecDepth 100000 in
theorem get_bad {w : World} {g : Nat} {l : List Nat} {bad : Bool} (h : Cur w g l bad) (hn : bad = true ∨ l.length < 1) :
    Calls Try.prog 51 #[.pointer (some ⟨g, 0, none⟩)] w (CurPost (.returned (.int .u64 0)) g [] true w) := by
  have B := Lib.hid (byte_bad h hn)
  clear hn
  go_enter Try.func51, Try.ntmps51
  go_wp2
  refine wp_scope_jumps 0 (GetJ g [] w) (fun _ _ => 0) rfl ?_ ?_
  · go_wp2
    refine wp_loop_rounds 1 ?_
    rw [rounds_succ]
    go_wp2_with (first
      | (go_at_call 46; refine B.out.mono ?_; rintro e w1 ⟨rfl, C1, g1⟩
         have hB := Lib.hid (bad_any C1))
      | (go_at_call 27; refine hB.out.mono ?_; rintro e w2 ⟨rfl, rfl⟩)
      | go_step3)
    exact ⟨rfl, _, _, _, _, _, _, _, _, _, _, _, _, _, _, _, _, _, _, _, _, _, _, _, _, _, _, _, _, _, _, _, _, _, _, _, _, _, _, _, _, _, _, _, rfl, C1, g1, (VIn.zero []).not_nil⟩
  · rintro a' w' ⟨u, u, u, u, u, u, u, u, u, u, u, u, u, u, u, u, u, u, u, u, u, u, u, u, u, u, u, u, u, u, u, u, u, u, u, u, u, u, u, u, u, rl, bad', rfl, C1, hg, hno⟩
    have hF := Lib.hid (fail_any C1)
    go_wp2_with (go_at_call 50; refine hF.out.mono ?_; rintro e w2 ⟨rfl, C2, g2⟩)
    simp only [Exit.jump]
    go_ret
    exact ⟨rfl, C2, Far.trans hg g2⟩

theorem get_app {w : World} {g N : Nat} {r : List Nat} (h : Cur w g (vp N ++ r) false) (hN : N < 18446744073709551616) :
    Calls Try.prog 51 #[.pointer (some ⟨g, 0, none⟩)] w (CurPost (.returned (.int .u64 (N : Int))) g r false w) :=
  (get_any h h.lt8).mono fun e w' hp => by
    rcases hp with ⟨M, s, h1, h2, h3, h4, h5⟩ | ⟨h1, _⟩
    · obtain ⟨rfl, rfl⟩ := vp_app_inj N N M r s (Nat.le_refl _) h1
      exact ⟨h3, h4, h5⟩
    · have := h1 N r rfl
      omega
theorem get_no {w : World} {g : Nat} {l : List Nat} {bad : Bool} (h : Cur w g l bad) (hN : bad = true ∨ ∀ N r, l = vp N ++ r → 18446744073709551616 ≤ N) :
    Calls Try.prog 51 #[.pointer (some ⟨g, 0, none⟩)] w (CurPost (.returned (.int .u64 0)) g [] true w) := by
  cases bad with
  | true => exact get_bad h (.inl rfl)
  | false =>
    refine (get_any h h.lt8).mono fun e w' hp => ?_
    rcases hp with ⟨M, s, h1, h2, h3, h4, h5⟩ | ⟨h1, h2, h3, h4⟩
    · rcases hN with hN | hN
      · simp at hN
      · have := hN M s h1
        omega
    · exact ⟨h2, h3, h4⟩

set_option maxHeartbeats 400000 in
theorem len_app {w : World} {g N : Nat} {r : List Nat} {m : Int} (h : Cur w g (vp N ++ r) false) (hN : (N : Int) ≤ m) (hm : m ≤ 9223372036854775807) :
    Calls Try.prog 45 #[.pointer (some ⟨g, 0, none⟩), .int .i64 m] w (CurPost (.returned (.int .i64 (N : Int))) g r false w) := by
  have G := Lib.hid (get_app h (by omega))
  go_enter Try.func45, Try.ntmps45
  go_wp2_with (go_at_call 51; refine G.out.mono ?_; rintro e w1 ⟨rfl, C1, g1⟩)
  go_ret
  exact ⟨rfl, C1, g1⟩
set_option maxHeartbeats 400000 in
theorem len_no {w : World} {g : Nat} {l : List Nat} {bad : Bool} {m : Int} (h : Cur w g l bad) (hN : bad = true ∨ ∀ N r, l = vp N ++ r → m < N) (hm0 : -9223372036854775808 ≤ m) (hm : m ≤ 9223372036854775807) :
    Calls Try.prog 45 #[.pointer (some ⟨g, 0, none⟩), .int .i64 m] w (CurPost (.returned (.int .i64 0)) g [] true w) := by
  by_cases hG : bad = true ∨ ∀ N r, l = vp N ++ r → 18446744073709551616 ≤ N
  · have G := Lib.hid (get_no h hG)
    clear hG hN
    go_enter Try.func45, Try.ntmps45
    by_cases hm1 : m < 0
    · go_wp2_with (first
        | (go_at_call 51; refine G.out.mono ?_; rintro e w1 ⟨rfl, C1, g1⟩
           have hF := Lib.hid (fail_any C1))
        | (go_at_call 50; refine hF.out.mono ?_; rintro e w2 ⟨rfl, C2, g2⟩))
      go_ret
      exact ⟨rfl, C2, Far.trans g1 g2⟩
    · go_wp2_with (first
        | (go_at_call 51; refine G.out.mono ?_; rintro e w1 ⟨rfl, C1, g1⟩))
      go_ret
      exact ⟨rfl, C1, g1⟩
  · simp only [not_or, Classical.not_forall] at hG
    obtain ⟨hb, N, r, rfl, hlt⟩ := hG
    have hb' : bad = false := by simpa using hb
    subst hb'
    have hmN : m < N := by rcases hN with hN | hN; exact absurd hN hb; exact hN N r rfl
    have G := Lib.hid (get_app h (by omega))
    clear hN hb
    go_enter Try.func45, Try.ntmps45
    by_cases hm1 : m < 0
    · go_wp2_with (first
        | (go_at_call 51; refine G.out.mono ?_; rintro e w1 ⟨rfl, C1, g1⟩
           have hF := Lib.hid (fail_any C1))
        | (go_at_call 50; refine hF.out.mono ?_; rintro e w2 ⟨rfl, C2, g2⟩))
      go_ret
      exact ⟨rfl, C2, Far.trans g1 g2⟩
    · go_wp2_with (first
        | (go_at_call 51; refine G.out.mono ?_; rintro e w1 ⟨rfl, C1, g1⟩
           have hF := Lib.hid (fail_any C1))
        | (go_at_call 50; refine hF.out.mono ?_; rintro e w2 ⟨rfl, C2, g2⟩))
      go_ret
      exact ⟨rfl, C2, Far.trans g1 g2⟩

end Go.Proofs.Ytlelepopdjoedaa
