/- Texts merged, for a claim has at most 60 files: VarG, CurS, PlnG, PlnH, RunM, RunE, DicN, Apart, RunR, RunA, UpT, PlnI, PlnJ, PlnK, FewP. -/
import Derived.Outline
import Derived.ScopeJumps
import Derived.Test.YtnghjkihdcmoiaaBun1
import Derived.Test.YtnghjkihdcmoiaaBun2
import Derived.Test.YtnghjkihdcmoiaaBun3
import Derived.WalkMore
/- varint.Get and varint.Len over a cursor. -/

namespace Go.Hm

theorem vp_app_lt {N b : Nat} {r s : List Nat} (h : b :: s = vp N ++ r) (hb : b < 128) : N = b ∧ r = s := by
  by_cases hN : N < 128
  · rw [vp_lt hN] at h
    simp only [List.cons_append, List.nil_append, List.cons.injEq] at h
    exact ⟨h.1.symm, h.2.symm⟩
  · rw [vp_ge hN] at h
    simp only [List.cons_append, List.cons.injEq] at h
    omega
theorem vp_app_ge {N b : Nat} {r s : List Nat} (h : b :: s = vp N ++ r) (hb : 128 ≤ b) : N % 128 + 128 = b ∧ 0 < N / 128 ∧ s = vp (N / 128) ++ r := by
  by_cases hN : N < 128
  · rw [vp_lt hN] at h
    simp only [List.cons_append, List.nil_append, List.cons.injEq] at h
    omega
  · rw [vp_ge hN] at h
    simp only [List.cons_append, List.cons.injEq] at h
    exact ⟨h.1.symm, by omega, h.2⟩
theorem vp_cons {b N : Nat} (hb : 128 ≤ b) (h8 : b < 256) (hN : 0 < N) : b :: vp N = vp (b - 128 + 128 * N) := by
  rw [vp_ge (n := b - 128 + 128 * N) (by omega)]
  congr 1
  · omega
  · congr 1; omega
theorem vp_app_inj : ∀ (k M N : Nat) (r s : List Nat), M ≤ k → vp M ++ r = vp N ++ s → M = N ∧ r = s := by
  intro k
  induction k using Nat.strongRecOn with
  | ind k ih =>
    intro M N r s hk h
    by_cases hM : M < 128
    · rw [vp_lt hM] at h
      have := vp_app_lt h hM
      exact ⟨this.1.symm, this.2.symm⟩
    · rw [vp_ge hM] at h
      have h1 := vp_app_ge h (by omega)
      have h2 := ih (M / 128) (by omega) _ _ _ _ (Nat.le_refl _) h1.2.2
      exact ⟨by omega, h2.2⟩

/-- After k bytes with the number v in them, what is left of l reads on as the rest of a number. -/
def VIn (l : List Nat) (k v : Nat) (rl : List Nat) : Prop :=
  v < 128 ^ k ∧ (∀ N r, l = vp N ++ r → ∃ N', N = v + 128 ^ k * N' ∧ (k = 0 ∨ 0 < N') ∧ rl = vp N' ++ r) ∧
  (∀ N r, (k = 0 ∨ 0 < N) → rl = vp N ++ r → l = vp (v + 128 ^ k * N) ++ r)
theorem VIn.zero (l : List Nat) : VIn l 0 0 l := ⟨by simp, fun N r h => ⟨N, by simp, .inl rfl, h⟩, fun N r _ h => by simpa using h⟩
theorem VIn.step {l rl : List Nat} {k v b : Nat} (h : VIn l k v (b :: rl)) (hb : 128 ≤ b) (h8 : b < 256) : VIn l (k + 1) (v + 128 ^ k * (b - 128)) rl := by
  obtain ⟨h1, h2, h3⟩ := h
  have hp : 128 ^ (k + 1) = 128 ^ k * 128 := Nat.pow_succ ..
  have hm : 128 ^ k * (b - 128) ≤ 128 ^ k * 127 := Nat.mul_le_mul_left _ (by omega)
  refine ⟨by omega, fun N r e => ?_, fun N r hN e => ?_⟩
  · obtain ⟨N', e1, e2, e3⟩ := h2 N r e
    obtain ⟨f1, f2, f3⟩ := vp_app_ge e3 hb
    refine ⟨N' / 128, ?_, .inr f2, f3⟩
    rw [e1, hp, Nat.mul_assoc, Nat.add_assoc, ← Nat.mul_add]
    congr 2
    omega
  · have hN' : 0 < N := by rcases hN with hN | hN <;> omega
    have := h3 (b - 128 + 128 * N) r (.inr (by omega)) (by rw [e, ← vp_cons hb h8 hN', List.cons_append])
    rw [this, Nat.mul_add, hp, Nat.mul_assoc, Nat.add_assoc]
theorem VIn.done {l rl : List Nat} {k v b : Nat} (h : VIn l k v (b :: rl)) (hb : b < 128) (hk : k = 0 ∨ 0 < b) : l = vp (v + 128 ^ k * b) ++ rl :=
  h.2.2 b rl hk (by rw [vp_lt hb]; rfl)
theorem VIn.not_zero {l rl : List Nat} {k v : Nat} (h : VIn l k v (0 :: rl)) (hk : 0 < k) : ∀ N r, l = vp N ++ r → 18446744073709551616 ≤ N := by
  intro N r e
  obtain ⟨N', _, e2, e3⟩ := h.2.1 N r e
  have := vp_app_lt e3 (by omega)
  omega
theorem VIn.not_nil {l : List Nat} {k v : Nat} (h : VIn l k v []) : ∀ N r, l = vp N ++ r → 18446744073709551616 ≤ N := by
  intro N r e
  obtain ⟨N', _, _, e3⟩ := h.2.1 N r e
  have := vp_pos N'
  have := congrArg List.length e3
  simp at this
  omega
theorem VIn.not_big {l rl : List Nat} {v b : Nat} (h : VIn l 9 v (b :: rl)) (hb : 1 < b) : ∀ N r, l = vp N ++ r → 18446744073709551616 ≤ N := by
  intro N r e
  obtain ⟨N', e1, e2, e3⟩ := h.2.1 N r e
  by_cases hlt : b < 128
  · have := (vp_app_lt e3 hlt).1
    omega
  · have := vp_app_ge e3 (by omega)
    omega
theorem pow128 (k : Nat) : (128 : Nat) ^ k = 2 ^ (7 * k) := by rw [Nat.pow_mul]
theorem VIn.fits {k v b : Nat} (hv : v < 128 ^ k) (hb : b < 128) (hk : k ≤ 8 ∨ (k ≤ 9 ∧ b ≤ 1)) : v + 128 ^ k * b < 18446744073709551616 := by
  rcases hk with hk | ⟨hk, hb1⟩
  · have h1 : (128 : Nat) ^ k ≤ 128 ^ 8 := Nat.pow_le_pow_right (by omega) hk
    have h2 : 128 ^ k * b ≤ 128 ^ 8 * b := Nat.mul_le_mul_right _ h1
    omega
  · have h1 : (128 : Nat) ^ k ≤ 128 ^ 9 := Nat.pow_le_pow_right (by omega) hk
    have h2 : 128 ^ k * b ≤ 128 ^ 9 * b := Nat.mul_le_mul_right _ h1
    omega
theorem andNot128 (b : Nat) (h : b < 256) : bits .andNot .u8 (b : Int) 128 = ((b % 128 : Nat) : Int) := by
  have := u8_andNot_nat b 128 h (by omega)
  rw [show 255 - 128 = 127 from rfl, nat_mask7] at this
  simpa using this
theorem or_step {k v b : Nat} (hv : v < 128 ^ k) (hb : b < 128) (hk : k ≤ 8 ∨ (k ≤ 9 ∧ b ≤ 1)) :
    bits .or .u64 (v : Int) ((b : Int) * 2 ^ (7 * k) % 18446744073709551616) = ((v + 128 ^ k * b : Nat) : Int) := by
  have hf := VIn.fits hv hb hk
  have e2 : (b : Int) * 2 ^ (7 * k) = ((b * 2 ^ (7 * k) : Nat) : Int) := by simp
  have e0 : 128 ^ k * b = b * 2 ^ (7 * k) := by rw [pow128, Nat.mul_comm]
  rw [e2, show (((b * 2 ^ (7 * k) : Nat) : Int) % 18446744073709551616) = ((b * 2 ^ (7 * k) : Nat) : Int) from Int.emod_eq_of_lt (by omega) (by omega),
    u64_or_nat v (b * 2 ^ (7 * k)) (by omega) (by omega), Nat.or_comm, or_shl b v (7 * k) (by rw [← pow128]; exact hv), e0, Nat.add_comm]
theorem or_step2 {k v b : Nat} (hv : v < 128 ^ k) (h8 : b < 256) (hk : k ≤ 8 ∨ (k ≤ 9 ∧ b % 128 ≤ 1)) :
    bits .or .u64 (v : Int) (IntKind.u64.wrap (IntKind.u64.wrap (bits .andNot .u8 (b : Int) 128) * 2 ^ (7 * k))) = ((v + 128 ^ k * (b % 128) : Nat) : Int) := by
  rw [andNot128 b h8, IntKind.wrap_u64, IntKind.wrap_u64, show (((b % 128 : Nat) : Int) % 18446744073709551616) = ((b % 128 : Nat) : Int) from by omega]
  exact or_step hv (by omega) hk

end Go.Hm

namespace Go.Proofs.Ytnghjkihdcmoiaa
open Go.RowKit Go.Hm

def GetPost (g : Nat) (l : List Nat) (w : World) (e : Ending) (w' : World) : Prop :=
  (∃ N r, l = vp N ++ r ∧ N < 18446744073709551616 ∧ e = .returned (.int .u64 (N : Int)) ∧ Cur w' g r false ∧ w.grownBy w' (some g)) ∨
  ((∀ N r, l = vp N ++ r → 18446744073709551616 ≤ N) ∧ e = .returned (.int .u64 0) ∧ Cur w' g [] true ∧ w.grownBy w' (some g))

/-- What holds at the label: no number is there. -/
def GetJ (g : Nat) (l : List Nat) (w : World) (a : Act) (w' : World) : Prop :=
  ∃ (u1 u2 u3 u4 u5 u6 u7 u8 u9 u10 u11 u12 u13 u14 u15 u16 u17 u18 u19 u20 u21 u22 u23 u24 u25 u26 u27 u28 u29 u30 u31 u32 u33 u34 u35 u36 u37 u38 u39 u40 u41 : Value) (rl : List Nat) (bad : Bool), a = { tmps := #[.pointer (some ⟨g, 0, none⟩), u1, u2, u3, u4, u5, u6, u7, u8, u9, u10, u11, u12, u13, u14, u15, u16, u17, u18, u19, u20, u21, u22, u23, u24, u25, u26, u27, u28, u29, u30, u31, u32, u33, u34, u35, u36, u37, u38, u39, u40, u41], defers := [] } ∧ Cur w' g rl bad ∧ w.grownBy w' (some g) ∧ (∀ N r, l = vp N ++ r → 18446744073709551616 ≤ N)

theorem Cur.lt8 {w : World} {g : Nat} {l : List Nat} {bad : Bool} (h : Cur w g l bad) : ∀ x ∈ l, x < 256 := by
  obtain ⟨A, c, _, _, _, _, h5, _⟩ := h
  exact h5

set_option maxHeartbeats 2000000 in
set_option maxRecDepth 100000 in
theorem get_any {w : World} {g : Nat} {l : List Nat} (h : Cur w g l false) (h8 : ∀ x ∈ l, x < 256) :
    Calls Try.prog 35 #[.pointer (some ⟨g, 0, none⟩)] w (GetPost g l w) := by
  go_enter Try.func35, Try.ntmps35
  go_wp2
  refine wp_scope_jumps 0 (GetJ g l w) (fun _ _ => 0) rfl ?_ ?_
  · go_wp2
    go_loopw [3, 4] (fun v i wr => ∃ (k x : Nat) (rl : List Nat), i = .int .i64 ((7 * k : Nat) : Int) ∧ k ≤ 9 ∧ v = .int .u64 (x : Int) ∧ VIn l k x rl ∧ (∀ y ∈ rl, y < 256) ∧ Cur wr g rl false ∧ w.grownBy wr (some g)) (fun _ i _ => 100 - (intOf i).toNat)
    case atStart => exact ⟨0, 0, l, rfl, by omega, rfl, VIn.zero l, h8, h, Far.refl g w⟩
    case round =>
      obtain ⟨k, x, rl, rfl, hk, rfl, hV, h8', hC, hg⟩ := hrel
      have HV := Lib.hid hV
      cases rl with
      | nil =>
        have B := Lib.hid (byte_bad hC (.inr (by simp)))
        go_wp2_with (first
          | (go_at_call 51; refine B.out.mono ?_; rintro e w1 ⟨rfl, C1, g1⟩
             have hB := Lib.hid (bad_any C1))
          | (go_at_call 21; refine hB.out.mono ?_; rintro e w2 ⟨rfl, rfl⟩)
          | go_step3)
        exact ⟨rfl, _, _, _, _, _, _, _, _, _, _, _, _, _, _, _, _, _, _, _, _, _, _, _, _, _, _, _, _, _, _, _, _, _, _, _, _, _, _, _, _, _, _, _, rfl, C1, Far.trans hg g1, HV.out.not_nil⟩
      | cons b rl =>
        have hb8 : b < 256 := h8' b (by simp)
        have B := Lib.hid (byte_app hC)
        have hx := hV.1
        clear hV
        by_cases hz : 0 < k ∧ b = 0
        · obtain ⟨hz, rfl⟩ := hz
          go_wp2_with (first
            | (go_at_call 51; refine B.out.mono ?_; rintro e w1 ⟨rfl, C1, g1⟩
               have hB := Lib.hid (bad_any C1))
            | (go_at_call 21; refine hB.out.mono ?_; rintro e w2 ⟨rfl, rfl⟩)
            | go_step3)
          all_goals first
            | (exfalso; omega)
            | exact ⟨rfl, _, _, _, _, _, _, _, _, _, _, _, _, _, _, _, _, _, _, _, _, _, _, _, _, _, _, _, _, _, _, _, _, _, _, _, _, _, _, _, _, _, _, _, rfl, C1, Far.trans hg g1, HV.out.not_zero hz⟩
        · by_cases h9 : k = 9
          · subst h9
            by_cases hb1 : 1 < b
            · go_wp2_with (first
              | (go_at_call 51; refine B.out.mono ?_; rintro e w1 ⟨rfl, C1, g1⟩
                 have hB := Lib.hid (bad_any C1))
              | (go_at_call 21; refine hB.out.mono ?_; rintro e w2 ⟨rfl, rfl⟩)
              | go_step3)
              all_goals first
                | (exfalso; omega)
                | exact ⟨rfl, _, _, _, _, _, _, _, _, _, _, _, _, _, _, _, _, _, _, _, _, _, _, _, _, _, _, _, _, _, _, _, _, _, _, _, _, _, _, _, _, _, _, _, rfl, C1, Far.trans hg g1, HV.out.not_big hb1⟩
            · have HO := or_step2 hx hb8 (.inr ⟨by omega, by omega⟩)
              rw [show (2 : Int) ^ (7 * 9) = 9223372036854775808 from by decide, show b % 128 = b from by omega] at HO
              go_wp2_with (first
                | (go_at_call 51; refine B.out.mono ?_; rintro e w1 ⟨rfl, C1, g1⟩
                   have hB := Lib.hid (bad_any C1))
                | (go_at_call 21; refine hB.out.mono ?_; rintro e w2 ⟨rfl, rfl⟩)
                | go_step3)
              all_goals first
                | (rename_i hq; exfalso; rcases hq with hq | hq; (simp at hq; omega); omega)
                | (simp only [Exit.jump]; go_ret
                   exact .inl ⟨_, _, HV.out.done (by omega) (.inl (by omega)), VIn.fits hx (by omega) (.inr ⟨by omega, by omega⟩), by simp, C1, Far.trans hg g1⟩)
                | (simp only [Exit.jump]; go_ret
                   exact .inl ⟨_, _, HV.out.done (by omega) (.inr (by omega)), VIn.fits hx (by omega) (.inr ⟨by omega, by omega⟩), by simp, C1, Far.trans hg g1⟩)
          · have HO := or_step2 hx hb8 (.inl (by omega))
            go_wp2_with (first
              | (go_at_call 51; refine B.out.mono ?_; rintro e w1 ⟨rfl, C1, g1⟩
                 have hB := Lib.hid (bad_any C1))
              | (go_at_call 21; refine hB.out.mono ?_; rintro e w2 ⟨rfl, rfl⟩)
              | go_step3)
            all_goals first
              | (exfalso; omega)
              | (simp only [Exit.jump]; go_ret
                 exact .inl ⟨x + 128 ^ k * b, rl, HV.out.done (by omega) (by omega), VIn.fits hx (by omega) (.inl (by omega)), by rw [show ((b : Int) % 128) = (b : Int) from by omega]; simp, C1, Far.trans hg g1⟩)
              | (go_roundw
                 case rel => exact ⟨k + 1, x + 128 ^ k * (b - 128), rl, by go_num, by omega, by rw [show ((b : Int) % 128) = ((b - 128 : Nat) : Int) from by omega]; simp, HV.out.step (by omega) hb8, fun y hy => h8' y (List.mem_cons_of_mem _ hy), C1, Far.trans hg g1⟩
                 case measure => simp [intOf]; omega)
  · rintro a' w' ⟨u, u, u, u, u, u, u, u, u, u, u, u, u, u, u, u, u, u, u, u, u, u, u, u, u, u, u, u, u, u, u, u, u, u, u, u, u, u, u, u, u, rl, bad, rfl, C1, hg, hno⟩
    have hF := Lib.hid (fail_any C1)
    go_wp2_with (go_at_call 36; refine hF.out.mono ?_; rintro e w2 ⟨rfl, C2, g2⟩)
    simp only [Exit.jump]
    go_ret
    exact .inr ⟨hno, rfl, C2, Far.trans hg g2⟩

set_option maxHeartbeats 2000000 in
set_option maxRecDepth 100000 in
theorem get_bad {w : World} {g : Nat} {l : List Nat} {bad : Bool} (h : Cur w g l bad) (hn : bad = true ∨ l.length < 1) :
    Calls Try.prog 35 #[.pointer (some ⟨g, 0, none⟩)] w (CurPost (.returned (.int .u64 0)) g [] true w) := by
  have B := Lib.hid (byte_bad h hn)
  clear hn
  go_enter Try.func35, Try.ntmps35
  go_wp2
  refine wp_scope_jumps 0 (GetJ g [] w) (fun _ _ => 0) rfl ?_ ?_
  · go_wp2
    refine wp_loop_rounds 1 ?_
    rw [rounds_succ]
    go_wp2_with (first
      | (go_at_call 51; refine B.out.mono ?_; rintro e w1 ⟨rfl, C1, g1⟩
         have hB := Lib.hid (bad_any C1))
      | (go_at_call 21; refine hB.out.mono ?_; rintro e w2 ⟨rfl, rfl⟩)
      | go_step3)
    exact ⟨rfl, _, _, _, _, _, _, _, _, _, _, _, _, _, _, _, _, _, _, _, _, _, _, _, _, _, _, _, _, _, _, _, _, _, _, _, _, _, _, _, _, _, _, _, rfl, C1, g1, (VIn.zero []).not_nil⟩
  · rintro a' w' ⟨u, u, u, u, u, u, u, u, u, u, u, u, u, u, u, u, u, u, u, u, u, u, u, u, u, u, u, u, u, u, u, u, u, u, u, u, u, u, u, u, u, rl, bad', rfl, C1, hg, hno⟩
    have hF := Lib.hid (fail_any C1)
    go_wp2_with (go_at_call 36; refine hF.out.mono ?_; rintro e w2 ⟨rfl, C2, g2⟩)
    simp only [Exit.jump]
    go_ret
    exact ⟨rfl, C2, Far.trans hg g2⟩

theorem get_app {w : World} {g N : Nat} {r : List Nat} (h : Cur w g (vp N ++ r) false) (hN : N < 18446744073709551616) :
    Calls Try.prog 35 #[.pointer (some ⟨g, 0, none⟩)] w (CurPost (.returned (.int .u64 (N : Int))) g r false w) :=
  (get_any h h.lt8).mono fun e w' hp => by
    rcases hp with ⟨M, s, h1, h2, h3, h4, h5⟩ | ⟨h1, _⟩
    · obtain ⟨rfl, rfl⟩ := vp_app_inj N N M r s (Nat.le_refl _) h1
      exact ⟨h3, h4, h5⟩
    · have := h1 N r rfl
      omega
theorem get_no {w : World} {g : Nat} {l : List Nat} {bad : Bool} (h : Cur w g l bad) (hN : bad = true ∨ ∀ N r, l = vp N ++ r → 18446744073709551616 ≤ N) :
    Calls Try.prog 35 #[.pointer (some ⟨g, 0, none⟩)] w (CurPost (.returned (.int .u64 0)) g [] true w) := by
  cases bad with
  | true => exact get_bad h (.inl rfl)
  | false =>
    refine (get_any h h.lt8).mono fun e w' hp => ?_
    rcases hp with ⟨M, s, h1, h2, h3, h4, h5⟩ | ⟨h1, h2, h3, h4⟩
    · rcases hN with hN | hN
      · simp at hN
      · have := hN M s h1
        omega
    · exact ⟨h2, h3, h4⟩

set_option maxHeartbeats 400000 in
theorem len_app {w : World} {g N : Nat} {r : List Nat} {m : Int} (h : Cur w g (vp N ++ r) false) (hN : (N : Int) ≤ m) (hm : m ≤ 9223372036854775807) :
    Calls Try.prog 17 #[.pointer (some ⟨g, 0, none⟩), .int .i64 m] w (CurPost (.returned (.int .i64 (N : Int))) g r false w) := by
  have G := Lib.hid (get_app h (by omega))
  go_enter Try.func17, Try.ntmps17
  go_wp2_with (go_at_call 35; refine G.out.mono ?_; rintro e w1 ⟨rfl, C1, g1⟩)
  go_ret
  exact ⟨rfl, C1, g1⟩
set_option maxHeartbeats 400000 in
theorem len_no {w : World} {g : Nat} {l : List Nat} {bad : Bool} {m : Int} (h : Cur w g l bad) (hN : bad = true ∨ ∀ N r, l = vp N ++ r → m < N) (hm0 : -9223372036854775808 ≤ m) (hm : m ≤ 9223372036854775807) :
    Calls Try.prog 17 #[.pointer (some ⟨g, 0, none⟩), .int .i64 m] w (CurPost (.returned (.int .i64 0)) g [] true w) := by
  by_cases hG : bad = true ∨ ∀ N r, l = vp N ++ r → 18446744073709551616 ≤ N
  · have G := Lib.hid (get_no h hG)
    clear hG hN
    go_enter Try.func17, Try.ntmps17
    by_cases hm1 : m < 0
    · go_wp2_with (first
        | (go_at_call 35; refine G.out.mono ?_; rintro e w1 ⟨rfl, C1, g1⟩
           have hF := Lib.hid (fail_any C1))
        | (go_at_call 36; refine hF.out.mono ?_; rintro e w2 ⟨rfl, C2, g2⟩))
      go_ret
      exact ⟨rfl, C2, Far.trans g1 g2⟩
    · go_wp2_with (first
        | (go_at_call 35; refine G.out.mono ?_; rintro e w1 ⟨rfl, C1, g1⟩))
      go_ret
      exact ⟨rfl, C1, g1⟩
  · simp only [not_or, Classical.not_forall] at hG
    obtain ⟨hb, N, r, rfl, hlt⟩ := hG
    have hb' : bad = false := by simpa using hb
    subst hb'
    have hmN : m < N := by rcases hN with hN | hN; exact absurd hN hb; exact hN N r rfl
    have G := Lib.hid (get_app h (by omega))
    clear hN hb
    go_enter Try.func17, Try.ntmps17
    by_cases hm1 : m < 0
    · go_wp2_with (first
        | (go_at_call 35; refine G.out.mono ?_; rintro e w1 ⟨rfl, C1, g1⟩
           have hF := Lib.hid (fail_any C1))
        | (go_at_call 36; refine hF.out.mono ?_; rintro e w2 ⟨rfl, C2, g2⟩))
      go_ret
      exact ⟨rfl, C2, Far.trans g1 g2⟩
    · go_wp2_with (first
        | (go_at_call 35; refine G.out.mono ?_; rintro e w1 ⟨rfl, C1, g1⟩
           have hF := Lib.hid (fail_any C1))
        | (go_at_call 36; refine hF.out.mono ?_; rintro e w2 ⟨rfl, C2, g2⟩))
      go_ret
      exact ⟨rfl, C2, Far.trans g1 g2⟩

end Go.Proofs.Ytnghjkihdcmoiaa
/- The cursors' contracts by states. -/

namespace Go.Proofs.Ytnghjkihdcmoiaa
open Go.RowKit Go.Hm
def CurS (w : World) (g : Nat) (S : St) : Prop := Cur w g (S.getD []) S.isNone

section
variable {w w' : World} {g : Nat} {S : St}
theorem CurS.lt (h : CurS w g S) : g < w.heap.size := Cur.lt h
theorem CurS.below (h : CurS w g S) (hb : Below w.heap.size w w') : CurS w' g S := Cur.below h hb
theorem CurS.keep {g' : Nat} {t : TypeId} {cs : Array Value} (h : CurS w g S) (hg : w.grownBy w' (some g')) (hT : Blk w g' t cs) (hne : g ≠ g') (ht : 5 ≠ t) : CurS w' g S := Cur.keep h hg hT hne ht
theorem CurS.blk (h : CurS w g S) : ∃ cs, Blk w g 66 cs := Cur.blk h
theorem CurS.push {e : TypeId} {base : Nat} {v : Value} {xs : List Value} (h : CurS w g S) (o : Own w base e v xs) (hg : w.grownBy w' v.ownBlock) (he1 : e ≠ 66) (he2 : 5 ≠ e) : CurS w' g S := by
  cases hv : v.ownBlock with
  | none =>
    rw [hv] at hg
    exact h.below ((Turns.of_none (T := []) hg).new (by simp))
  | some g' =>
    obtain ⟨cs, hB⟩ := o.row g' hv
    rw [hv] at hg
    obtain ⟨cs2, hC⟩ := h.blk
    exact h.keep hg hB (fun e' => by subst e'; exact Blk.ne_ hB hC he1 rfl) he2
theorem CurS.ok (h : CurS w g S) : S.ok := by
  intro l e
  subst e
  exact Cur.lt8 h
theorem CurS.of {l : List Nat} (h : Cur w g l false) : CurS w g (some l) := h
theorem CurS.len (h : CurS w g S) : (S.getD []).length ≤ 9223372036854775807 := by have := Cur.len h; unfold maxLen at this; omega
end
/-- A call at a cursor: its answer, and what is left. -/
def CPost (e0 : Ending) (g : Nat) (S : St) (w : World) (e : Ending) (w' : World) : Prop := e = e0 ∧ CurS w' g S ∧ w.grownBy w' (some g)
theorem failS {w : World} {g : Nat} {S : St} (h : CurS w g S) : Calls Try.prog 36 #[.pointer (some ⟨g, 0, none⟩)] w (CPost (.returned (.tuple #[])) g none w) := fail_any h
theorem badS {w : World} {g : Nat} {S : St} (h : CurS w g S) : Calls Try.prog 21 #[.pointer (some ⟨g, 0, none⟩)] w (BadPost S.isNone w) := bad_any h
theorem endS_any {w : World} {g : Nat} {S : St} (h : CurS w g S) : Calls Try.prog 39 #[.pointer (some ⟨g, 0, none⟩)] w (BadPost (endS S) w) := by
  have := end_any h
  have e : endS S = (!S.isNone && (S.getD []).isEmpty) := by
    cases S with
    | none => rfl
    | some l => cases l <;> simp [endS]
  rw [e]; exact this
theorem leftS {w : World} {g : Nat} {S : St} (h : CurS w g S) : Calls Try.prog 18 #[.pointer (some ⟨g, 0, none⟩)] w (LeftPost (S.getD []) w) := left_any h
theorem byteS_any {w : World} {g : Nat} {S : St} (h : CurS w g S) : Calls Try.prog 51 #[.pointer (some ⟨g, 0, none⟩)] w (CPost (.returned (.int .u8 ((byteS S).1 : Int))) g (byteS S).2 w) := by
  cases S with
  | none => exact byte_bad h (.inl rfl)
  | some l =>
    cases l with
    | nil => exact byte_bad h (.inr (by simp))
    | cons b r => exact byte_app h
def TPost (x : List Nat) (g : Nat) (S : St) (w : World) (e : Ending) (w' : World) : Prop :=
  ∃ A n c, e = .returned (.slice A n c) ∧ n = x.length ∧ Own w' w.heap.size 5 (.slice A n c) (nums .u8 x) ∧ CurS w' g S ∧ w.grownBy w' (some g)
theorem takeS_any {w : World} {g : Nat} {n : Int} {S : St} (h : CurS w g S) (h0 : -9223372036854775808 ≤ n) (h1 : n ≤ 140737488355328) : Calls Try.prog 20 #[.pointer (some ⟨g, 0, none⟩), .int .i64 n] w (TPost (takeS n S).1 g (takeS n S).2 w) := by
  rcases takeS_cases n S with hc | ⟨l, rfl, h2, h3, hc⟩
  · rw [hc]
    have hb : S.isNone = true ∨ n < 0 ∨ ((S.getD []).length : Int) < n := by
      unfold takeS at hc
      cases S with
      | none => exact .inl rfl
      | some l =>
        simp only at hc
        split at hc
        · simp at hc
        · rename_i hh
          simp only [Option.getD_some]
          omega
    refine (take_bad h hb h0 (by omega)).mono ?_
    rintro e w' ⟨rfl, k1, k2⟩
    exact ⟨none, 0, 0, rfl, rfl, Own.nil_, k1, k2⟩
  · rw [hc]
    obtain ⟨m, rfl⟩ := Int.eq_ofNat_of_zero_le h2
    simp only [Int.toNat_natCast]
    have hm : m ≤ l.length := by omega
    refine (take_good (l := l) (n := m) h hm (by omega)).mono ?_
    rintro e w' ⟨A, c, rfl, k1, k2, k3⟩
    exact ⟨A, m, c, rfl, by rw [List.length_take]; omega, k1, k2, k3⟩
theorem getS_any {w : World} {g : Nat} {S : St} (h : CurS w g S) : Calls Try.prog 35 #[.pointer (some ⟨g, 0, none⟩)] w (CPost (.returned (.int .u64 ((getS S).1 : Int))) g (getS S).2 w) := by
  rcases hc : getS S with ⟨v, T⟩
  have hok := h.ok
  cases S with
  | none =>
    simp only [getS, Prod.mk.injEq] at hc
    obtain ⟨rfl, rfl⟩ := hc
    exact get_no h (.inl rfl)
  | some l =>
    simp only [getS] at hc
    split at hc
    · rename_i N r hg
      obtain ⟨h1, h2⟩ := gv_some (hok l rfl) hg
      simp only [Prod.mk.injEq] at hc
      obtain ⟨rfl, rfl⟩ := hc
      subst h1
      exact get_app h h2
    · rename_i hg
      simp only [Prod.mk.injEq] at hc
      obtain ⟨rfl, rfl⟩ := hc
      exact get_no h (.inr (gv_none hg))
theorem lenS_any {w : World} {g : Nat} {m : Int} {S : St} (h : CurS w g S) (hm0 : -9223372036854775808 ≤ m) (hm : m ≤ 9223372036854775807) : Calls Try.prog 17 #[.pointer (some ⟨g, 0, none⟩), .int .i64 m] w (CPost (.returned (.int .i64 ((lenS m S).1 : Int))) g (lenS m S).2 w) := by
  have hok := h.ok
  by_cases hg : ∃ N r, S = some (vp N ++ r) ∧ (N : Int) ≤ m
  · obtain ⟨N, r, rfl, hN⟩ := hg
    rw [lenS_app N r hN hm]
    exact len_app h hN hm
  · have e : lenS m S = (0, none) := by
      rcases lenS_cases m S hok with h1 | ⟨N, r, h1, h2, _, _⟩
      · exact h1
      · exact absurd ⟨N, r, h1, h2⟩ hg
    rw [e]
    refine len_no h ?_ hm0 hm
    cases S with
    | none => exact .inl rfl
    | some l =>
      refine .inr fun N r hl => ?_
      simp only [Option.getD_some] at hl
      subst hl
      rcases Int.lt_or_le m N with h1 | h1
      · exact h1
      · exact absurd ⟨N, r, rfl, h1⟩ hg

end Go.Proofs.Ytnghjkihdcmoiaa
/- The contract of plain.read. -/

namespace Go.Proofs.Ytnghjkihdcmoiaa
open Go.RowKit Go.Hm
theorem u64S_any {w : World} {g : Nat} {S : St} (h : CurS w g S) : Calls Try.prog 53 #[.pointer (some ⟨g, 0, none⟩)] w (CPost (.returned (.int .u64 ((u64S S).1 : Int))) g (u64S S).2 w) := by
  cases S with
  | none => exact u64_bad h (.inl rfl)
  | some l =>
    unfold u64S
    dsimp only
    split
    · exact u64_good h ‹_›
    · exact u64_bad h (.inr (by simp; omega))
theorem i64_wrapZ {n : Nat} (h : n < 18446744073709551616) : IntKind.i64.wrap (n : Int) = i64Z n := by
  unfold i64Z
  by_cases hn : n < 9223372036854775808
  · rw [if_pos hn]
    exact IntWalk.i64_in _ (by omega)
  · rw [if_neg hn]
    rw [IntKind.wrap_i64]
    omega
theorem u64S_lt {S : St} (hS : S.ok) : (u64S S).1 < 18446744073709551616 := by
  cases S with
  | none => simp [u64S]
  | some l =>
    unfold u64S
    dsimp only
    split
    · have := num_lt (l.take 8) (fun x hx => hS l rfl x (List.mem_of_mem_take hx))
      have h2 : (l.take 8).length = 8 := by rw [List.length_take]; omega
      rw [h2] at this
      omega
    · simp
def RdPost (c : CellS) (g : Nat) (S : St) (w : World) (e : Ending) (w' : World) : Prop := e = .returned (cellA c) ∧ CurS w' g S ∧ w.grownBy w' (some g)
set_option maxHeartbeats 4000000 in
set_option maxRecDepth 100000 in
theorem read_any {w : World} {g : Nat} {S : St} {t : Int} (h : CurS w g S) (ht : t = 0 ∨ t = 2 ∨ t = 3) :
    Calls Try.prog 38 #[.pointer (some ⟨g, 0, none⟩), .int .i64 t] w (RdPost (rdC t S).1 g (rdC t S).2 w) := by
  have hlt := h.lt
  have ha : New w (w.alloc (.cells (cellV cell0).toArray 40)) := (Below.refl _ _).alloc (Nat.le_refl _) _
  have h0 := h.below ha
  have BZ : Blk (w.alloc (.cells (cellV cell0).toArray 40)) w.heap.size 40 (cellV cell0).toArray := Blk.new _ _ _
  have G0 : w.grownBy (w.alloc (.cells (cellV cell0).toArray 40)) (some g) := Far.of_new ha
  obtain ⟨X, hX⟩ : ∃ X, X = rdC t S := ⟨_, rfl⟩
  rw [← hX]
  unfold rdC at hX
  rcases ht with rfl | rfl | rfl
  · rw [if_pos rfl] at hX
    have C1 := Lib.hid (u64S_any h0)
    have hw := i64_wrapZ (u64S_lt h.ok)
    generalize u64S S = Q at *
    obtain ⟨a, S1⟩ := Q
    dsimp only at *
    generalize i64Z a = z at *
    have HX := Lib.hid hX
    clear hX h h0 ha
    go_enter Try.func38, Try.ntmps38
    go_wp2_with fail
    refine C1.out.mono ?_
    rintro e w1 ⟨rfl, s1, g1⟩
    have hz1 := g1.size
    simp only [World.size_alloc] at hz1
    have BZ1 := BZ.grown g1 (by intro e; injection e with e; omega)
    have G1 := G0.trans g1
    go_wp2_with (refine wpList_storeG rfl 40 (.tmp 4) (.tmp 13) rfl w.heap.size _ rfl rfl BZ1 (by kernel_rfl) (by simp [cellV]) (by simp [Value.oneCell']) ?_
                 intro W5 BR G5
                 obtain ⟨s0, s1', s2, s3, s4⟩ := cells5 BR)
    have hX := HX.out
    subst hX
    exact bodyPost_ret (v := cellA (false, z, [], 0, 0)) (by simp [results, Try.results38, go_sem, s0, s1', s2, s3, s4, cellA, cellV, show bstr [] = ⟨#[]⟩ from rfl]) rfl ⟨rfl, s1.keep G5 BZ1 (by omega) (by decide), grown_then G1 G5 (Nat.le_refl _)⟩
  · rw [if_neg (by decide), if_neg (by decide)] at hX
    have C1 := Lib.hid (lenS_any (m := 65536) h0 (by omega) (by omega))
    have hle := lenS_le (m := 65536) S (by omega) h.ok
    generalize lenS 65536 S = Q at *
    obtain ⟨a, S1⟩ := Q
    dsimp only at *
    obtain ⟨Q2, hQ2⟩ : ∃ Q, Q = takeS (a : Int) S1 := ⟨_, rfl⟩
    rw [← hQ2] at hX
    have HQ2 := Lib.hid hQ2
    have HX := Lib.hid hX
    clear hX h h0 ha hQ2
    go_enter Try.func38, Try.ntmps38
    go_wp2_with fail
    refine C1.out.mono ?_
    rintro e w1 ⟨rfl, s1, g1⟩
    have hz1 := g1.size
    simp only [World.size_alloc] at hz1
    have BZ1 := BZ.grown g1 (by intro e; injection e with e; omega)
    have G1 := G0.trans g1
    have C2 := takeS_any (n := (a : Int)) s1 (by omega) (by omega)
    rw [← HQ2.out] at C2
    have C2 := Lib.hid C2
    clear C1 BZ G0 g1 s1
    go_wp2_with fail
    refine C2.out.mono ?_
    rintro e w2 ⟨A2, n2, c2, rfl, e2, k2, s2, g2⟩
    have hz2 := g2.size
    have BZ2 := BZ1.grown g2 (by intro e; injection e with e; omega)
    have G2 := G1.trans g2
    have q2 := run_strB (c := c2) k2.reads
    obtain ⟨x2, S2⟩ := Q2
    dsimp only at e2 k2 s2 q2
    subst e2
    clear C2 BZ1 G1 g2 HQ2
    go_wp2_with (refine wpList_storeG rfl 40 (.tmp 4) (.tmp 31) rfl w.heap.size _ rfl rfl BZ2 (by kernel_rfl) (by simp [cellV]) (by simp [Value.oneCell']) ?_
                 intro W5 BR G5
                 obtain ⟨s0, s1', s2', s3, s4⟩ := cells5 BR)
    have hX := HX.out
    subst hX
    exact bodyPost_ret (v := cellA (false, 0, x2, 0, 0)) (by simp [results, Try.results38, go_sem, s0, s1', s2', s3, s4, cellA, cellV]) rfl ⟨rfl, s2.keep G5 BZ2 (by omega) (by decide), grown_then G2 G5 (Nat.le_refl _)⟩
  · rw [if_neg (by decide), if_pos rfl] at hX
    have C1 := Lib.hid (getS_any h0)
    have hlt1 := getS_lt h.ok
    have hok1 := getS_ok h.ok
    generalize getS S = Q at *
    obtain ⟨a, S1⟩ := Q
    dsimp only at *
    have hlt2 := getS_lt hok1
    obtain ⟨Q2, hQ2⟩ : ∃ Q, Q = getS S1 := ⟨_, rfl⟩
    rw [← hQ2] at hX hlt2
    have HQ2 := Lib.hid hQ2
    have Z1 := Lib.hid (fun (W : World) => zag_any a W hlt1)
    have Z2 := Lib.hid (fun (W : World) => zag_any Q2.1 W hlt2)
    have HX := Lib.hid hX
    clear hX h h0 ha hQ2
    go_enter Try.func38, Try.ntmps38
    go_wp2_with fail
    refine C1.out.mono ?_
    rintro e w1 ⟨rfl, s1, g1⟩
    have hz1 := g1.size
    simp only [World.size_alloc] at hz1
    have BZ1 := BZ.grown g1 (by intro e; injection e with e; omega)
    have G1 := G0.trans g1
    have C2 := getS_any s1
    rw [← HQ2.out] at C2
    have C2 := Lib.hid C2
    clear C1 BZ G0 g1 s1
    go_wp2_with fail
    refine (Z1.out _).mono ?_
    rintro e w2 ⟨rfl, rfl⟩
    go_wp2_with fail
    refine C2.out.mono ?_
    rintro e w2 ⟨rfl, s2, g2⟩
    have hz2 := g2.size
    have BZ2 := BZ1.grown g2 (by intro e; injection e with e; omega)
    have G2 := G1.trans g2
    clear C2 BZ1 G1 g2 HQ2
    go_wp2_with fail
    refine (Z2.out _).mono ?_
    rintro e w3 ⟨rfl, rfl⟩
    go_wp2_with (refine wpList_storeG rfl 40 (.tmp 4) (.tmp 25) rfl w.heap.size _ rfl rfl BZ2 (by kernel_rfl) (by simp [cellV]) (by simp [Value.oneCell']) ?_
                 intro W5 BR G5
                 obtain ⟨s0, s1', s2', s3, s4⟩ := cells5 BR)
    have hX := HX.out
    subst hX
    exact bodyPost_ret (v := cellA (false, 0, [], zag a, zag Q2.1)) (by simp [results, Try.results38, go_sem, s0, s1', s2', s3, s4, cellA, cellV, show bstr [] = ⟨#[]⟩ from rfl]) rfl ⟨rfl, s2.keep G5 BZ2 (by omega) (by decide), grown_then G2 G5 (Nat.le_refl _)⟩

end Go.Proofs.Ytnghjkihdcmoiaa
/- The contract of plain.Decode, of the types that are read cell by cell. -/

namespace Go.Hm
open Go Go.RowKit
/-- What b is decoded to. -/
structure IsPl (Q : CellS → Prop) (t : Int) (b : List Nat) (n : Int) (o : Option (List CellS)) : Prop where
  sound : ∀ l, o = some l → (l.length : Int) = n ∧ plO t l = some b ∧ ∀ c ∈ l, Q c
  compl : ∀ l, (∀ c ∈ l, Q c) → (l.length : Int) = n → plO t l = some b → o = some l
theorem row_own {w : World} {base sz n : Nat} {e : TypeId} {v : Value} {xs : List Value} {g : Nat} (h : w.ownsRow base e sz v n xs) (hv : v.ownBlock = some g) : ∃ cs, Blk w g e cs := by
  rcases h.2 with ⟨rfl, _⟩ | ⟨g', cap, cur, rfl, _, hh, _⟩
  · simp [Value.ownBlock] at hv
  · have : g' = g := by simpa [Value.ownBlock] using hv
    subst this
    exact ⟨_, hh⟩
theorem plO_iff {t : Int} {l : List CellS} {b : List Nat} : plO t l = some b ↔ plOk t l = true ∧ plB t l = b := by
  unfold plO
  by_cases h : plOk t l = true
  · rw [if_pos h]
    simp [h]
  · rw [if_neg h]
    simp [h]
theorem plB_flat {t : Int} (ht : t = 0 ∨ t = 2 ∨ t = 3) (l : List CellS) : plB t l = l.flatMap (plE t) := by
  unfold plB
  rw [if_neg (by omega)]

end Go.Hm

namespace Go.Proofs.Ytnghjkihdcmoiaa
open Go.RowKit Go.Hm
theorem CurS.pushRow {w w' : World} {g base sz n : Nat} {S : St} {e : TypeId} {v : Value} {xs : List Value} (h : CurS w g S) (o : w.ownsRow base e sz v n xs) (hg : w.grownBy w' v.ownBlock) (he1 : e ≠ 66) (he2 : 5 ≠ e) : CurS w' g S := by
  cases hv : v.ownBlock with
  | none =>
    rw [hv] at hg
    exact h.below ((Turns.of_none (T := []) hg).new (by simp))
  | some g' =>
    obtain ⟨cs, hB⟩ := row_own o hv
    rw [hv] at hg
    obtain ⟨cs2, hC⟩ := h.blk
    exact h.keep hg hB (fun e' => by subst e'; exact Blk.ne_ hB hC he1 rfl) he2
theorem elC9 : ElT Try.prog 22 40 (.agg #[.bool false, .int .i64 0, .string ⟨#[]⟩, .int .i64 0, .int .i64 0]) 5 48 := ⟨by kernel_rfl, by kernel_rfl, rfl, by omega⟩
/-- Cells, or none. -/
def OptC (o : Option (List CellS)) (w : World) (e : Ending) (w' : World) : Prop :=
  match o with
  | none => e = .returned (.tuple #[.slice none 0 0, .bool false]) ∧ New w w'
  | some l => ∃ A n c, e = .returned (.tuple #[.slice A n c, .bool true]) ∧ w'.ownsRow w.heap.size 40 5 (.slice A n c) n (recs cellV l) ∧ New w w'
def PDec (t : Int) (b : List Nat) (n : Int) (w : World) (e : Ending) (w' : World) : Prop := ∃ o, IsPl cellData t b n o ∧ OptC o w e w'
theorem rd_data {t : Int} {s : List Nat} (hs : St.ok (some s)) : cellData (rdC t (some s)).1 := by
  unfold rdC cellData
  split
  · have h := u64S_lt hs
    dsimp only
    refine ⟨⟨by simp, by simp⟩, ?_⟩
    unfold i64Z
    split <;> omega
  · split
    · dsimp only
      exact ⟨⟨by simp, by simp⟩, by omega⟩
    · dsimp only
      have h1 := lenS_le (m := 65536) (some s) (by omega) hs
      have h2 := takeS_len (n := ((lenS 65536 (some s)).1 : Int)) (S := (lenS 65536 (some s)).2) (by omega)
      exact ⟨⟨by omega, (takeS_ok (lenS_ok hs)).2⟩, by omega⟩
theorem rdL_none (t : Int) (j : Nat) : rdL t j none = ([], none) := by cases j <;> rfl
theorem isPl_fin {t : Int} {b : List Nat} {n : Nat} {out : List CellS} {S : St} (ht : t = 0 ∨ t = 2 ∨ t = 3) (hn : n ≤ 65536) (h8 : St.ok (some b)) (hfin : rdL t n (some b) = (out, S)) (hda : ∀ c ∈ out, cellData c) :
    IsPl cellData t b (n : Int) (if S = some [] ∧ (out.all fun c => rightB c t false) = true then some out else none) := by
  constructor
  · intro l hl
    split at hl
    · rename_i hc
      injection hl with hl
      subst hl
      obtain ⟨rfl, hR⟩ := hc
      obtain ⟨e, hlen⟩ := rdL_some ht n (some b) out [] h8 hfin
      injection e with e
      rw [List.append_nil] at e
      refine ⟨by omega, plO_iff.2 ⟨plOk_iff.2 ⟨by omega, List.all_eq_true.1 hR⟩, ?_⟩, hda⟩
      rw [plB_flat ht, e]
    · cases hl
  · intro l hd hlen hp
    obtain ⟨hok, hb⟩ := plO_iff.1 hp
    rw [plB_flat ht] at hb
    have hr := (plOk_iff.1 hok).2
    have := rdL_app (t := t) (by omega) l [] hr (fun c hc => (hd c hc).2)
    rw [List.append_nil, hb, show l.length = n by omega, hfin] at this
    injection this with e1 e2
    subst e1 e2
    rw [if_pos ⟨rfl, List.all_eq_true.2 hr⟩]
set_option maxHeartbeats 4000000 in
set_option maxRecDepth 100000 in
theorem pdecode_any {w : World} {A : Option Addr} {c m : Nat} {b : List Nat} {t : Int} {n : Nat} (h : Reads w w.heap.size 1 A m (nums .u8 b)) (h8 : ∀ x ∈ b, x < 256) (hm : m ≤ 140737488351232) (ht : t = 0 ∨ t = 2 ∨ t = 3) (hn : n ≤ 65536) :
    Calls Try.prog 19 #[.int .i64 t, .slice A m c, .int .i64 (n : Int)] w (PDec t b (n : Int) w) := by
  obtain rfl : m = b.length := h.len
  have KN := known_any (w := w) (t := t) (n := (n : Int))
  rw [decide_eq_true (show 0 ≤ t ∧ t ≤ 3 ∧ 0 ≤ (n : Int) ∧ (n : Int) ≤ 65536 by omega)] at KN
  have KN := Lib.hid KN
  have OV := Lib.hid (over_any (c := c) h (by omega) h8)
  have t1 : (t == 1) = false := beq_eq_false_iff_ne.2 (by omega)
  have H8 := Lib.hid h8
  have HT := Lib.hid ht
  clear h h8
  go_enter Try.func19, Try.ntmps19
  go_wp2_with fail
  refine KN.out.mono ?_
  rintro e w1 ⟨rfl, rfl⟩
  go_wp2_with fail
  refine OV.out.mono ?_
  rintro e w1 ⟨g, rfl, hg, hc, b1⟩
  have s1 := CurS.of hc
  clear hc KN OV t1
  go_wp2_with fail
  go_loopw [9, 10] (fun v i wr => ∃ (k : Nat) (out : List CellS) (S : St) (AA : Option Addr) (cc : Nat), k ≤ n ∧ out.length = k ∧ i = .int .i64 (k : Int) ∧ v = .slice AA k cc ∧ wr.ownsRow w.heap.size 40 5 (.slice AA k cc) k (recs cellV out) ∧ CurS wr g S ∧ Below w.heap.size w wr ∧ Hid (rdL t n (some b) = (out ++ (rdL t (n - k) S).1, (rdL t (n - k) S).2)) ∧ Hid (∀ c ∈ out, cellData c)) (fun _ i _ => n - (intOf i).toNat)
  case atStart => exact ⟨0, [], some b, none, 0, Nat.zero_le _, rfl, rfl, rfl, by simpa [recs] using row_nil, s1, b1, Lib.hid (by simp), Lib.hid (by simp)⟩
  case round =>
    obtain ⟨k, out, S, AA, cc, hk, hol, rfl, rfl, o, hs, hbl, hrd, hda⟩ := hrel
    have hz := hbl.size
    have hb8 : St.ok (some b) := St.ok_some H8.out
    by_cases hgo : k < n ∧ S ≠ none
    · obtain ⟨hlt, hSn⟩ := hgo
      obtain ⟨s, rfl⟩ := Option.ne_none_iff_exists'.1 hSn
      have hok := hs.ok
      have BD := Lib.hid (badS hs)
      rw [Option.isNone_some] at BD
      have RD := Lib.hid (read_any hs HT.out)
      have hdat := rd_data (t := t) hok
      have hst := hrd.out
      rw [show n - k = (n - (k + 1)) + 1 by omega, rdL] at hst
      dsimp only at hst
      obtain ⟨cs, hT⟩ := hs.blk
      have o' := o
      generalize rdC t (some s) = R at *
      obtain ⟨⟨y0, y1, y2, y3, y4⟩, S2⟩ := R
      dsimp only at *
      have HST := Lib.hid hst
      have HDT := Lib.hid hdat
      have HOL := Lib.hid hol
      have hlt' : (k : Int) < (n : Int) := by omega
      clear hst hdat hrd hSn hs hok hol
      go_wp2_with fail
      refine BD.out.mono ?_
      rintro e w2 ⟨rfl, rfl⟩
      go_wp2_with fail
      refine RD.out.mono ?_
      rintro e w3 ⟨rfl, s3, g3⟩
      rw [show cellA (y0, y1, y2, y3, y4) = .agg #[.bool y0, .int .i64 y1, .string (bstr y2), .int .i64 y3, .int .i64 y4] from rfl]
      have o3 := World.ownsRow.kept o' g3 (.inr (row_blk_ne o' hT (by decide)))
      have b3 : Below w.heap.size w w3 := hbl.grown g3 hz (fun k e => by injection e with e; omega)
      have hz3 := b3.size
      have S3 := Lib.hid s3
      clear BD RD o o' g3 hbl s3 hT
      go_wp2_with (refine wpList_pushR elC9 rfl (.tmp 34) (.tmp 38) rfl (W := w) (B := w.heap.size) (base := w.heap.size) (n := k) o3 rfl rfl b3 (Nat.le_refl _) hz3 rfl (by simp [Value.oneCell']) (by omega) (by simp only [maxLen]; omega) ?_
                   intro A5 c5 w5 _ _ o5 g5 b5 _ _)
      have s5 := S3.out.pushRow o3 g5 (by decide) (by decide)
      go_roundw
      case rel => exact ⟨k + 1, out ++ [(y0, y1, y2, y3, y4)], S2, A5, c5, by omega, by rw [List.length_append, HOL.out]; rfl, by go_num, rfl, by rw [recs_append]; simpa [recs, cellV] using o5, s5, b5, Lib.hid (by rw [HST.out, List.append_assoc]; rfl), Lib.hid (fun c hc => by
          rcases List.mem_append.1 hc with hc | hc
          · exact hda.out c hc
          · rw [List.mem_singleton.1 hc]; exact HDT.out)⟩
      case measure => simp [intOf]; omega
    · have hfin : rdL t n (some b) = (out, S) := by
        rw [hrd.out]
        by_cases hkn : k < n
        · have : S = none := Classical.byContradiction fun e => hgo ⟨hkn, e⟩
          subst this
          rw [rdL_none, List.append_nil]
        · rw [show n - k = 0 by omega]
          simp [rdL]
      have hI := isPl_fin HT.out hn hb8 hfin hda.out
      have EN := Lib.hid (endS_any hs)
      have AR := Lib.hid (allright_any (t := t) (c := cc) (Reads.of_own o) (fun y hy => (hda.out y hy).1.1) (by omega))
      have BD := Lib.hid (badS hs)
      have HI := Lib.hid hI
      clear hI hfin hrd hs
      by_cases hS : S = some []
      · subst hS
        have hkn : ¬ k < n := fun e => hgo ⟨e, by simp⟩
        obtain rfl : k = n := by omega
        rw [show endS (some []) = true from rfl] at EN
        clear BD hgo
        go_wp2_with fail
        refine EN.out.mono ?_
        rintro e w2 ⟨rfl, rfl⟩
        go_wp2_with fail
        refine AR.out.mono ?_
        rintro e w3 ⟨rfl, b3⟩
        have hI := HI.out
        have o3 := row_later o b3
        have hl := New.trans hbl b3
        cases hall : (out.all fun c => rightB c t false) with
        | true =>
          rw [if_pos ⟨by trivial, hall⟩] at hI
          have HI := Lib.hid hI
          clear hI EN AR
          go_wp2_with fail
          go_ret2
          exact ⟨some out, HI.out, _, _, _, rfl, o3, hl⟩
        | false =>
          rw [if_neg (by rw [hall]; simp)] at hI
          have HI := Lib.hid hI
          clear hI EN AR
          go_wp2_with fail
          go_ret2
          exact ⟨none, HI.out, rfl, hl⟩
      · have hI := HI.out
        rw [if_neg (fun e => hS e.1)] at hI
        have HI := Lib.hid hI
        rw [show endS S = false from decide_eq_false hS] at EN
        clear hI AR hS
        by_cases hkn : k < n
        · have : S = none := Classical.byContradiction fun e => hgo ⟨hkn, e⟩
          subst this
          rw [show (Option.isNone (none : St)) = true from rfl] at BD
          have hkn' : (k : Int) < (n : Int) := by omega
          clear hgo
          go_wp2_with fail
          refine BD.out.mono ?_
          rintro e w2 ⟨rfl, rfl⟩
          go_wp2_with fail
          refine EN.out.mono ?_
          rintro e w2 ⟨rfl, rfl⟩
          go_wp2_with fail
          go_ret2
          exact ⟨none, HI.out, rfl, hbl⟩
        · obtain rfl : k = n := by omega
          clear hgo BD
          go_wp2_with fail
          refine EN.out.mono ?_
          rintro e w2 ⟨rfl, rfl⟩
          go_wp2_with fail
          go_ret2
          exact ⟨none, HI.out, rfl, hbl⟩

end Go.Proofs.Ytnghjkihdcmoiaa
/- Runs and rests, over plain lists: what layer 10 says. No program is named here. -/

namespace Go.Hm
/-- How many equal numbers a row begins with. -/
def st (l : List Nat) : Nat := (l.takeWhile fun y => y == l.getD 0 0).length
theorem tw_is (p : Nat → Bool) : ∀ (l : List Nat) (n : Nat), n ≤ l.length → (∀ i, i < n → p (l.getD i 0) = true) → (n = l.length ∨ p (l.getD n 0) = false) → (l.takeWhile p).length = n
  | [], n, h1, _, _ => by simp at h1; simp [h1]
  | x :: r, 0, _, _, h3 => by
    rcases h3 with h3 | h3
    · simp at h3
    · have : p x = false := by simpa using h3
      simp [this]
  | x :: r, n + 1, h1, h2, h3 => by
    have hx : p x = true := by simpa using h2 0 (by omega)
    rw [List.takeWhile_cons, if_pos hx, List.length_cons, tw_is p r n (by simpa using h1) (fun i hi => by simpa using h2 (i + 1) (by omega)) (by simpa using h3)]
theorem st_is {l : List Nat} {n : Nat} (h1 : n ≤ l.length) (h2 : ∀ i, i < n → l.getD i 0 = l.getD 0 0) (h3 : n = l.length ∨ l.getD n 0 ≠ l.getD 0 0) : st l = n :=
  tw_is _ l n h1 (fun i hi => by simpa using h2 i hi) (h3.imp id fun h => by simpa using h)
theorem tw_spec (p : Nat → Bool) : ∀ l : List Nat, (l.takeWhile p).length ≤ l.length ∧ (∀ i, i < (l.takeWhile p).length → p (l.getD i 0) = true) ∧ ((l.takeWhile p).length = l.length ∨ p (l.getD (l.takeWhile p).length 0) = false)
  | [] => by simp
  | x :: r => by
    obtain ⟨a, b, c⟩ := tw_spec p r
    by_cases hx : p x = true
    · rw [List.takeWhile_cons, if_pos hx, List.length_cons]
      refine ⟨by simpa using a, fun i hi => ?_, by simpa using c⟩
      cases i with
      | zero => simpa using hx
      | succ i => simpa using b i (by omega)
    · rw [List.takeWhile_cons, if_neg hx]
      refine ⟨by simp, by simp, .inr (by simpa using hx)⟩
theorem st_spec (l : List Nat) : st l ≤ l.length ∧ (∀ i, i < st l → l.getD i 0 = l.getD 0 0) ∧ (st l = l.length ∨ l.getD (st l) 0 ≠ l.getD 0 0) := by
  obtain ⟨a, b, c⟩ := tw_spec (fun y => y == l.getD 0 0) l
  exact ⟨a, fun i hi => by simpa using b i hi, c.imp id fun h => by unfold st; simpa using h⟩
theorem st_pos {l : List Nat} (h : 0 < l.length) : 1 ≤ st l := by
  obtain ⟨a, b, c⟩ := st_spec l
  rcases Nat.eq_zero_or_pos (st l) with h0 | h0
  · rw [h0] at c
    rcases c with c | c
    · omega
    · exact absurd rfl c
  · exact h0
theorem getD_app_l {l m : List Nat} {i : Nat} (h : i < l.length) : (l ++ m).getD i 0 = l.getD i 0 := by
  simp [List.getD_eq_getElem?_getD, List.getElem?_append_left h]
theorem getD_app_r {l m : List Nat} {i : Nat} (h : l.length ≤ i) : (l ++ m).getD i 0 = m.getD (i - l.length) 0 := by
  simp [List.getD_eq_getElem?_getD, List.getElem?_append_right h]
theorem getD_take' {l : List Nat} {i k : Nat} (h : i < k) : (l.take k).getD i 0 = l.getD i 0 := by
  simp [List.getD_eq_getElem?_getD, h]
theorem getD_drop' {l : List Nat} {i k : Nat} : (l.drop k).getD i 0 = l.getD (k + i) 0 := by
  simp [List.getD_eq_getElem?_getD]
/-- A part that is long enough begins with as many. -/
theorem st_app {l m : List Nat} (h : st (l ++ m) ≤ l.length) (h0 : 0 < l.length) : st l = st (l ++ m) := by
  obtain ⟨a, b, c⟩ := st_spec (l ++ m)
  refine st_is h (fun i hi => ?_) ?_
  · have := b i hi
    rwa [getD_app_l (by omega), getD_app_l h0] at this
  · by_cases e : st (l ++ m) = l.length
    · exact .inl e
    · rcases c with c | c
      · rw [c, List.length_append] at h e
        omega
      · rw [getD_app_l (by omega), getD_app_l h0] at c
        exact .inr c
theorem st_le_app {l m : List Nat} : st l ≤ st (l ++ m) := by
  rcases Nat.eq_zero_or_pos l.length with h0 | h0
  · have := (st_spec l).1
    omega
  by_cases h : st (l ++ m) ≤ l.length
  · exact Nat.le_of_eq (st_app h h0)
  · have := (st_spec l).1
    omega
/-- The run that a row begins with. -/
theorem st_take (l : List Nat) : st (l.take (st l)) = st l := by
  obtain ⟨a, b, c⟩ := st_spec l
  have hl : (l.take (st l)).length = st l := by rw [List.length_take]; omega
  rcases Nat.eq_zero_or_pos (st l) with h0 | h0
  · have := (st_spec (l.take (st l))).1
    omega
  · refine st_is (by omega) (fun i hi => ?_) (.inl hl.symm)
    rw [getD_take' hi, getD_take' h0]
    exact b i hi
theorem run_rep {p : List Nat} (h : st p = p.length) : p = List.replicate p.length (p.getD 0 0) := by
  obtain ⟨a, b, c⟩ := st_spec p
  refine List.ext_getElem (by simp) fun i h1 h2 => ?_
  have := b i (by omega)
  rw [List.getD_eq_getElem?_getD, List.getElem?_eq_getElem h1] at this
  simpa using this
theorem st_rep (n x : Nat) : st (List.replicate n x) = n := by
  refine st_is (by simp) (fun i hi => ?_) (.inl (by simp))
  have h0 : 0 < n := by omega
  simp [List.getD_eq_getElem?_getD, hi, h0]
/-- Runs and rests, rest being what is in no piece yet. -/
def cutP (rest l : List Nat) : List (List Nat) :=
  if _h : l.length = 0 then (if rest.length = 0 then [] else [rest])
  else if 4 ≤ st l then (if rest.length = 0 then [] else [rest]) ++ (l.take (st l) :: cutP [] (l.drop (st l)))
  else cutP (rest ++ l.take (st l)) (l.drop (st l))
termination_by l.length
decreasing_by
  · have := st_pos (l := l) (by omega)
    rw [List.length_drop]
    omega
  · have := st_pos (l := l) (by omega)
    rw [List.length_drop]
    omega
def pcs (l : List Nat) : List (List Nat) := cutP [] l
def cuts (l : List Nat) : List Nat := (pcs l).map List.length
def restL (rest : List Nat) : List (List Nat) := if rest.length = 0 then [] else [rest]
theorem cutP_nil (rest : List Nat) : cutP rest [] = restL rest := by rw [cutP]; rfl
theorem cutP_run {rest l : List Nat} (h0 : 0 < l.length) (h : 4 ≤ st l) : cutP rest l = restL rest ++ (l.take (st l) :: cutP [] (l.drop (st l))) := by
  rw [cutP, dif_neg (by omega), if_pos h]; rfl
theorem cutP_rest {rest l : List Nat} (h0 : 0 < l.length) (h : ¬ 4 ≤ st l) : cutP rest l = cutP (rest ++ l.take (st l)) (l.drop (st l)) := by
  rw [cutP, dif_neg (by omega), if_neg h]
/-- By stretches. -/
theorem cut_ind {C : List Nat → List Nat → Prop} (h0 : ∀ rest, C rest [])
    (h1 : ∀ rest l, 0 < l.length → 4 ≤ st l → C [] (l.drop (st l)) → C rest l)
    (h2 : ∀ rest l, 0 < l.length → ¬ 4 ≤ st l → C (rest ++ l.take (st l)) (l.drop (st l)) → C rest l) : ∀ rest l, C rest l := by
  intro rest l
  induction hn : l.length using Nat.strongRecOn generalizing rest l with
  | _ n ih =>
    rcases Nat.eq_zero_or_pos l.length with hz | hz
    · obtain rfl := List.eq_nil_of_length_eq_zero hz
      exact h0 rest
    · have hp := st_pos hz
      have hd : (l.drop (st l)).length < n := by rw [List.length_drop]; omega
      by_cases h : 4 ≤ st l
      · exact h1 rest l hz h (ih _ hd _ _ rfl)
      · exact h2 rest l hz h (ih _ hd _ _ rfl)
theorem restL_flat (rest : List Nat) : (restL rest).flatten = rest := by
  unfold restL
  split
  · rename_i h
    exact (List.eq_nil_of_length_eq_zero h).symm
  · simp
theorem cutP_flat : ∀ rest l, (cutP rest l).flatten = rest ++ l := by
  refine cut_ind ?_ ?_ ?_
  · intro rest
    rw [cutP_nil, restL_flat, List.append_nil]
  · intro rest l h0 h ih
    rw [cutP_run h0 h, List.flatten_append, restL_flat, List.flatten_cons, ih, List.nil_append, List.take_append_drop]
  · intro rest l h0 h ih
    rw [cutP_rest h0 h, ih, List.append_assoc, List.take_append_drop]
/-- What a piece is: a run, or begins with none. -/
def PieceOk (p : List Nat) : Prop := 0 < p.length ∧ (4 ≤ st p → st p = p.length)
theorem cutP_ok : ∀ rest l, (rest = [] ∨ st (rest ++ l) < 4) → ∀ p ∈ cutP rest l, PieceOk p := by
  have hr : ∀ rest l : List Nat, (rest = [] ∨ st (rest ++ l) < 4) → ∀ p ∈ restL rest, PieceOk p := by
    intro rest l hc p hp
    unfold restL at hp
    split at hp
    · cases hp
    · rename_i hl
      obtain rfl := List.mem_singleton.1 hp
      refine ⟨by omega, fun h4 => ?_⟩
      rcases hc with rfl | hc
      · simp at hl
      · have := st_le_app (l := p) (m := l)
        omega
  refine cut_ind ?_ ?_ ?_
  · intro rest hc p hp
    rw [cutP_nil] at hp
    exact hr rest [] hc p hp
  · intro rest l h0 h ih hc p hp
    rw [cutP_run h0 h] at hp
    rcases List.mem_append.1 hp with hp | hp
    · exact hr rest l hc p hp
    · rcases List.mem_cons.1 hp with rfl | hp
      · have hl : (l.take (st l)).length = st l := by have := (st_spec l).1; rw [List.length_take]; omega
        exact ⟨by omega, fun _ => by rw [st_take, hl]⟩
      · exact ih (.inl rfl) p hp
  · intro rest l h0 h ih hc p hp
    rw [cutP_rest h0 h] at hp
    refine ih (.inr ?_) p hp
    rw [List.append_assoc, List.take_append_drop]
    rcases hc with rfl | hc
    · simpa using h
    · exact hc
theorem pcs_ok (l : List Nat) : ∀ p ∈ pcs l, PieceOk p := cutP_ok [] l (.inl rfl)
theorem pcs_flat (l : List Nat) : (pcs l).flatten = l := cutP_flat [] l

end Go.Hm
/- Runs and rests as bytes, and back: plain lists. -/

namespace Go.Proofs.Ytnghjkihdcmoiaa
open Go.RowKit Go.Hm
/-- A piece's bytes. -/
def encP (p : List Nat) : List Nat :=
  if 4 ≤ st p then vp (2 * p.length) ++ vp (p.getD 0 0) else vp (2 * p.length + 1) ++ (wid p :: low (pk (wid p) p) ((wid p * p.length + 7) / 8))
def encL (l : List Nat) : List Nat := (pcs l).flatMap encP
/-- A piece that is read. -/
def rpS (most : Nat) (S : St) : List Nat × St :=
  let h := lenS (2 * (most : Int) + 1) S
  if h.1 % 2 = 1 then
    let b := byteS h.2
    let x := takeS (nby (b.1 : Int) ((h.1 / 2 : Nat) : Int)) b.2
    match unpackO x.1 (b.1 : Int) ((h.1 / 2 : Nat) : Int) with
    | some l => (l, x.2)
    | none => ([], none)
  else
    let g := getS h.2
    (List.replicate (h.1 / 2) g.1, g.2)
theorem wordsOf {l : List Nat} (h : ∀ x ∈ l, x ≤ 18446744073709551615) {p : List Nat} (hp : p ∈ pcs l) : (∀ x ∈ p, x ≤ 18446744073709551615) ∧ p.length ≤ l.length := by
  have hf := pcs_flat l
  refine ⟨fun x hx => h x (by rw [← hf]; exact List.mem_flatten.2 ⟨p, hp, hx⟩), ?_⟩
  rw [← hf]
  obtain ⟨a, b, e⟩ := List.append_of_mem hp
  rw [e, List.flatten_append, List.flatten_cons, List.length_append, List.length_append]
  omega
/-- What was laid is read. -/
theorem rpS_app {p : List Nat} (hk : PieceOk p) (hw : ∀ x ∈ p, x ≤ 18446744073709551615) (hl : p.length ≤ 65536) {most : Nat} (hm : p.length ≤ most) (hmm : most ≤ 65536) (r : List Nat) : rpS most (some (encP p ++ r)) = (p, some r) := by
  unfold encP
  by_cases h4 : 4 ≤ st p
  · rw [if_pos h4, List.append_assoc]
    have hx : p.getD 0 0 ≤ 18446744073709551615 := by
      have h0 := hk.1
      rw [List.getD_eq_getElem?_getD, List.getElem?_eq_getElem h0]
      exact hw _ (List.getElem_mem h0)
    have e := run_rep (hk.2 h4)
    unfold rpS
    rw [lenS_app (2 * p.length) _ (by omega) (by omega)]
    dsimp only
    rw [if_neg (by omega), getS_app _ _ (by omega)]
    dsimp only
    rw [show 2 * p.length / 2 = p.length by omega, ← e]
  · rw [if_neg h4, List.append_assoc]
    have hw64 := wid_le p hw
    unfold rpS
    rw [lenS_app (2 * p.length + 1) _ (by omega) (by omega)]
    dsimp only
    rw [if_pos (by omega), show (2 * p.length + 1) / 2 = p.length by omega]
    rw [List.cons_append]
    simp only [byteS]
    rw [nby_nat (wid p) p.length hw64 hl]
    have hlen : (low (pk (wid p) p) ((wid p * p.length + 7) / 8)).length = (wid p * p.length + 7) / 8 := low_len _ _
    have ht := takeS_app (low (pk (wid p) p) ((wid p * p.length + 7) / 8)) r
    rw [hlen] at ht
    rw [ht]
    dsimp only
    rw [unpack_pack p (wid p) hw64 hl (Nat.le_refl _) hw]
theorem rpS_none (most : Nat) : rpS most none = ([], none) := by
  unfold rpS
  rw [lenS_none]
  rfl
/-- What is read has at most most numbers. -/
theorem rpS_len (most : Nat) (S : St) (hS : S.ok) : (rpS most S).1.length ≤ most := by
  have h1 := lenS_le (m := 2 * (most : Int) + 1) S (by omega) hS
  unfold rpS
  dsimp only
  split
  · split
    · rename_i l hl
      unfold unpackO at hl
      split at hl
      · injection hl with hl
        subst hl
        rw [unpk_len]
        omega
      · cases hl
    · simp
  · simp
    omega
theorem encP_pos (p : List Nat) : 0 < (encP p).length := by
  unfold encP
  split
  · have := vp_pos (2 * p.length)
    rw [List.length_append]
    omega
  · have := vp_pos (2 * p.length + 1)
    rw [List.length_append]
    omega
/-- Numbers that are read till nothing is left, most of them at most. -/
def decS (n : Nat) : Nat → List Nat → St → List Nat × St
  | 0, out, S => (out, S)
  | k + 1, out, S => match S with
    | some (b :: r) => decS n k (out ++ (rpS (n - out.length) (some (b :: r))).1) (rpS (n - out.length) (some (b :: r))).2
    | S => (out, S)
theorem decS_pieces (n : Nat) (hn : n ≤ 65536) : ∀ (ps : List (List Nat)) (k : Nat) (out : List Nat), ps.length ≤ k → (∀ p ∈ ps, PieceOk p ∧ ∀ x ∈ p, x ≤ 18446744073709551615) → out.length + ps.flatten.length ≤ n → decS n k out (some (ps.flatMap encP)) = (out ++ ps.flatten, some [])
  | [], k, out, _, _, _ => by cases k <;> simp [decS]
  | p :: ps, 0, out, h, _, _ => by simp at h
  | p :: ps, k + 1, out, h, hp, hl => by
    rw [List.flatten_cons, List.length_append] at hl
    obtain ⟨hk, hw⟩ := hp p (by simp)
    have hr := rpS_app hk hw (by omega) (most := n - out.length) (by omega) (by omega) (ps.flatMap encP)
    rw [List.flatMap_cons]
    cases hq : encP p ++ ps.flatMap encP with
    | nil =>
      have := encP_pos p
      have := congrArg List.length hq
      rw [List.length_append, List.length_nil] at this
      omega
    | cons b r =>
      rw [hq] at hr
      rw [decS, hr]
      dsimp only
      rw [decS_pieces n hn ps k (out ++ p) (by simpa using h) (fun q hq => hp q (by simp [hq])) (by rw [List.length_append]; omega), List.flatten_cons, List.append_assoc]
/-- Numbers' bytes are read as they were. -/
theorem decS_enc {l : List Nat} (hw : ∀ x ∈ l, x ≤ 18446744073709551615) {n k : Nat} (hn : n ≤ 65536) (hln : l.length ≤ n) (hk : (encL l).length ≤ k) : decS n k [] (some (encL l)) = (l, some []) := by
  have hps : (pcs l).length ≤ k := by
    refine Nat.le_trans ?_ hk
    unfold encL
    clear hk
    induction pcs l with
    | nil => simp
    | cons p ps ih =>
      have := encP_pos p
      rw [List.flatMap_cons, List.length_append, List.length_cons]
      omega
  have := decS_pieces n hn (pcs l) k [] hps (fun p hp => ⟨pcs_ok l p hp, (wordsOf hw hp).1⟩) (by rw [pcs_flat]; simpa using hln)
  rw [pcs_flat, List.nil_append] at this
  exact this
/-- Bytes as numbers: those whose bytes they are. -/
def IsDec (b : List Nat) (n : Int) (o : Option (List Nat)) : Prop :=
  ∀ l, o = some l ↔ ((l.length : Int) = n ∧ l.length ≤ 65536 ∧ (∀ x ∈ l, x ≤ 18446744073709551615) ∧ encL l = b)
theorem encL_inj {l m : List Nat} (hl : l.length ≤ 65536) (hm : m.length ≤ 65536) (hw : ∀ x ∈ l, x ≤ 18446744073709551615) (kw : ∀ x ∈ m, x ≤ 18446744073709551615) (h : encL l = encL m) : l = m := by
  have a := decS_enc hw (n := 65536) (k := (encL l).length) (Nat.le_refl _) hl (Nat.le_refl _)
  have b := decS_enc kw (n := 65536) (k := (encL l).length) (Nat.le_refl _) hm (by rw [h]; exact Nat.le_refl _)
  rw [← h, a] at b
  injection b

end Go.Proofs.Ytnghjkihdcmoiaa
/- What cells are laid as, each once, and their places; what bytes are read as: plain lists. -/

namespace Go.Proofs.Ytnghjkihdcmoiaa
open Go.RowKit Go.Hm
/-- The bytes of cells, each laid once. -/
def dictB (t : Int) (l : List CellS) : Option (List Nat) :=
  match plO t (entS l).1 with
  | none => none
  | some V => if l.length ≤ 65536 then some (vp (entS l).1.length ++ vp V.length ++ V ++ encL (entS l).2) else none
/-- What b is decoded to. -/
structure IsDic (t : Int) (b : List Nat) (n : Int) (o : Option (List CellS)) : Prop where
  sound : ∀ l, o = some l → (l.length : Int) = n ∧ dictB t l = some b ∧ ∀ c ∈ l, cellData c
  compl : ∀ l, (∀ c ∈ l, cellData c) → (l.length : Int) = n → dictB t l = some b → o = some l
theorem IsDic.uniq {t : Int} {b : List Nat} {n : Int} {o p : Option (List CellS)} (h : IsDic t b n o) (k : IsDic t b n p) : o = p := by
  cases o with
  | some l => obtain ⟨a, b, c⟩ := h.sound l rfl; exact (k.compl l c a b).symm
  | none =>
    cases p with
    | none => rfl
    | some l => obtain ⟨a, b, c⟩ := k.sound l rfl; exact h.compl l c a b
theorem ent_words {l : List CellS} (hl : l.length ≤ 65536) : ∀ x ∈ (entS l).2, x ≤ 18446744073709551615 := fun x hx => by
  have := (entS_is l).lt x hx
  have := entS_le l
  omega
/-- What is read, from what the parts are read as. -/
def dicO (S3 : St) (o1 : Option (List CellS)) (cnt : Nat) (o2 : Option (List Nat)) : Option (List CellS) :=
  match S3, o1, o2 with
  | some _, some E, some P => if E.Nodup ∧ ordL P = some cnt then some (P.map fun p => E.getD p cellZ) else none
  | _, _, _ => none
theorem isDic_mk {t n : Int} {b x y : List Nat} {cnt sz : Nat} {S1 S2 S3 S4 : St} {o1 : Option (List CellS)} {o2 : Option (List Nat)} (h8 : ∀ x ∈ b, x < 256) (hb : b.length ≤ 140737488355200) (hn : n ≤ 9223372036854775807)
    (k1 : lenS n (some b) = (cnt, S1)) (k2 : lenS ((S1.getD []).length : Int) S1 = (sz, S2)) (k3 : takeS (sz : Int) S2 = (x, S3)) (hp : IsPl cellData t x (cnt : Int) o1)
    (k4 : takeS ((S3.getD []).length : Int) S3 = (y, S4)) (hd : IsDec y n o2) : IsDic t b n (dicO S3 o1 cnt o2) := by
  constructor
  · intro l hl
    unfold dicO at hl
    split at hl
    · rename_i r E P
      split at hl
      · rename_i hc
        obtain ⟨hc1, hc2⟩ := hc
        injection hl with hl
        obtain ⟨p1, p2, p3⟩ := hp.sound E rfl
        obtain ⟨d1, d2, d3, d4⟩ := (hd P).1 rfl
        have hcE : E.length = cnt := by omega
        have hI : IsEnt l E P := ⟨hc1, hl, by rw [hc2, hcE]⟩
        have hU := hI.uniq
        have hL := hI.len
        refine ⟨by omega, ?_, ?_⟩
        · unfold dictB
          rw [hU]
          dsimp only
          rw [p2]
          dsimp only
          rw [if_pos (by omega)]
          congr 1
          rcases lenS_cases n (some b) (St.ok_some h8) with q | ⟨N, r1, e1, q1, _, q⟩
          · rw [q] at k1
            injection k1 with k1 k1'
            subst k1 k1'
            rw [lenS_none] at k2
            injection k2 with k2 k2'
            subst k2 k2'
            rw [takeS_none] at k3
            injection k3 with _ k3
            cases k3
          · rw [q] at k1
            injection k1 with k1 k1'
            subst k1 k1'
            injection e1 with e1
            have h81 : St.ok (some r1) := St.ok_some fun z hz => h8 z (by rw [e1]; simp [hz])
            rcases lenS_cases _ (some r1) h81 with q2 | ⟨M, r2, e2, q3, _, q2⟩
            · rw [q2] at k2
              injection k2 with k2 k2'
              subst k2 k2'
              rw [takeS_none] at k3
              injection k3 with _ k3
              cases k3
            · rw [q2] at k2
              injection k2 with k2 k2'
              subst k2 k2'
              injection e2 with e2
              rcases takeS_cases (M : Int) (some r2) with q4 | ⟨l2, e3, _, e5, q4⟩
              · rw [q4] at k3
                injection k3 with _ k3
                cases k3
              · rw [q4] at k3
                injection e3 with e3
                injection k3 with k3 k3'
                injection k3' with k3'
                subst e3
                rw [Int.toNat_natCast] at k3 k3'
                have hy : y = r := by
                  have := takeS_app r []
                  rw [List.append_nil] at this
                  simp only [Option.getD_some] at k4
                  rw [this] at k4
                  injection k4 with k4 _
                  exact k4.symm
                have hx : x.length = M := by rw [← k3, List.length_take]; omega
                rw [d4, hy, hcE, hx, e1, e2, ← k3', ← k3]
                simp
        · intro c hcl
          rw [← hl] at hcl
          obtain ⟨p, hpP, rfl⟩ := List.mem_map.1 hcl
          have hlt := hI.lt p hpP
          refine p3 _ ?_
          rw [List.getD_eq_getElem?_getD, List.getElem?_eq_getElem hlt]
          exact List.getElem_mem hlt
      · cases hl
    · cases hl
  · intro l hdl hln hB
    have hI := entS_is l
    have hle := entS_le l
    have hw := fun h => ent_words (l := l) h
    have hED : ∀ c ∈ (entS l).1, cellData c := fun c hc => hdl c ((entS_mem l c).1 hc)
    unfold dictB at hB
    split at hB
    · cases hB
    · rename_i V hV
      split at hB
      · rename_i hl6
        have hw := hw hl6
        have hL := hI.len
        have hN := hI.nodup
        have hM := hI.map
        have hO := hI.ord
        generalize (entS l).1 = E at *
        generalize (entS l).2 = P at *
        injection hB with hB
        have a1 : lenS n (some b) = (E.length, some (vp V.length ++ (V ++ encL P))) := by
          rw [← hB, List.append_assoc, List.append_assoc]
          exact lenS_app _ _ (by omega) hn
        rw [a1] at k1
        injection k1 with k1 k1'
        subst k1 k1'
        have hbl := congrArg List.length hB
        simp only [List.length_append] at hbl
        have a2 : lenS (((some (vp V.length ++ (V ++ encL P)) : St).getD []).length : Int) (some (vp V.length ++ (V ++ encL P))) = (V.length, some (V ++ encL P)) := by
          refine lenS_app _ _ ?_ ?_
          · simp only [Option.getD_some, List.length_append]; omega
          · simp only [Option.getD_some, List.length_append]; omega
        rw [a2] at k2
        injection k2 with k2 k2'
        subst k2 k2'
        rw [takeS_app] at k3
        injection k3 with k3 k3'
        subst k3 k3'
        have a4 := takeS_app (encL P) []
        rw [List.append_nil] at a4
        simp only [Option.getD_some] at k4
        rw [a4] at k4
        injection k4 with k4 k4'
        subst k4 k4'
        rw [hp.compl E hED rfl hV, (hd P).2 ⟨by omega, by omega, hw, rfl⟩]
        unfold dicO
        dsimp only
        rw [if_pos ⟨hN, hO⟩, hM]
      · cases hB

end Go.Proofs.Ytnghjkihdcmoiaa
/- Rows of the call's own that lie apart. No program is named here. -/

namespace Go.Hm
open Go Go.RowKit
theorem ownApart {W1 W2 : World} {base : Nat} {e e' : TypeId} {u v : Value} {xs ys : List Value} (h2 : Own W2 W1.heap.size e u xs) (h1 : Own W1 base e' v ys) : u.ownBlock = none ∨ u.ownBlock ≠ v.ownBlock := by
  rcases hu : u.ownBlock with _ | k
  · exact .inl rfl
  · refine .inr fun e => ?_
    have a := (h2.lt k hu).1
    have b := (h1.lt k e.symm).2
    omega
theorem apartNext {W : World} {base : Nat} {e : TypeId} {u v v' : Value} {xs : List Value} (h : u.ownBlock = none ∨ u.ownBlock ≠ v.ownBlock) (d : v'.ownBlock = v.ownBlock ∨ ∃ g, v'.ownBlock = some g ∧ W.heap.size ≤ g) (k : Own W base e u xs) : u.ownBlock = none ∨ u.ownBlock ≠ v'.ownBlock := by
  rcases hu : u.ownBlock with _ | g
  · exact .inl rfl
  · right
    rcases d with d | ⟨g', d, hg⟩
    · rw [d, ← hu]
      rcases h with h | h
      · rw [hu] at h; cases h
      · exact h
    · rw [d]
      intro e
      injection e with e
      have := (k.lt g hu).2
      omega
theorem apart_sym {u v : Value} (h : u.ownBlock = none ∨ u.ownBlock ≠ v.ownBlock) : v.ownBlock = none ∨ v.ownBlock ≠ u.ownBlock := by
  rcases hv : v.ownBlock with _ | k
  · exact .inl rfl
  · refine .inr fun e => ?_
    rcases h with h | h
    · rw [h] at e; cases e
    · exact h (by rw [hv, e])

end Go.Hm
/- The contract of runs.readPiece. -/

namespace Go.Proofs.Ytnghjkihdcmoiaa
open Go.RowKit Go.Hm
theorem nby_bd (b n : Nat) : -1 ≤ nby (b : Int) (n : Int) ∧ nby (b : Int) (n : Int) ≤ 524289 := by
  by_cases hb : b ≤ 64
  · by_cases hn : n ≤ 65536
    · rw [nby_nat b n hb hn]
      have := Nat.mul_le_mul hb hn
      omega
    · unfold nby
      rw [if_pos (by omega)]
      omega
  · unfold nby
    rw [if_pos (by omega)]
    omega
theorem fill_set (n k b : Nat) (h : k < n) : (List.replicate k b ++ List.replicate (n - k) 0).set k b = List.replicate (k + 1) b ++ List.replicate (n - (k + 1)) 0 := by
  rw [List.set_append_right _ _ (by simp), List.length_replicate, Nat.sub_self, show n - k = (n - (k + 1)) + 1 by omega, List.replicate_succ, List.set_cons_zero, List.replicate_succ', List.append_assoc]
  rfl
def RowPost (x : List Nat) (g : Nat) (S : St) (w : World) (e : Ending) (w' : World) : Prop :=
  ∃ A n c, e = .returned (.slice A n c) ∧ n = x.length ∧ Own w' w.heap.size 36 (.slice A n c) (nums .u64 x) ∧ CurS w' g S ∧ w.grownBy w' (some g)
set_option maxHeartbeats 2000000 in
theorem readPiece_any {w : World} {g : Nat} {S : St} {most : Nat} (h : CurS w g S) (hm : most ≤ 65536) :
    Calls Try.prog 41 #[.pointer (some ⟨g, 0, none⟩), .int .i64 (most : Int)] w (RowPost (rpS most S).1 g (rpS most S).2 w) := by
  have hle := lenS_le (m := 2 * (most : Int) + 1) S (by omega) h.ok
  have C1 := Lib.hid (lenS_any (m := 2 * (most : Int) + 1) h (by omega) (by omega))
  obtain ⟨X, hX⟩ : ∃ X, X = rpS most S := ⟨_, rfl⟩
  rw [← hX]
  unfold rpS at hX
  dsimp only at hX
  generalize lenS (2 * (most : Int) + 1) S = H at *
  obtain ⟨a, S1⟩ := H
  dsimp only at *
  have ha : a ≤ 131073 := by omega
  have D1 : (a : Int).tdiv 2 = ((a / 2 : Nat) : Int) := by rw [Int.tdiv_eq_ediv_of_nonneg (by omega)]; rfl
  have D2 : (a : Int).tmod 2 = ((a % 2 : Nat) : Int) := by rw [Int.tmod_eq_emod_of_nonneg (by omega)]; rfl
  have hn : a / 2 ≤ 65536 := by omega
  have ho : a % 2 < 2 := Nat.mod_lt _ (by omega)
  generalize a / 2 = n at *
  generalize a % 2 = o at *
  have HX := Lib.hid hX
  clear h hX
  go_enter Try.func41, Try.ntmps41
  go_wp2_with fail
  refine C1.out.mono ?_
  rintro e w1 ⟨rfl, s1, g1⟩
  clear C1
  by_cases h1 : o = 1
  · subst h1
    have hX := HX.out
    rw [if_pos rfl] at hX
    clear HX
    have C2 := Lib.hid (byteS_any s1)
    have hb := byteS_lt s1.ok
    generalize byteS S1 = Bq at *
    obtain ⟨b, S2⟩ := Bq
    dsimp only at *
    have HX := Lib.hid hX
    clear hX
    go_wp2_with fail
    refine C2.out.mono ?_
    rintro e w2 ⟨rfl, s2, g2⟩
    clear C2 s1
    have hbw : IntKind.i64.wrap (b : Int) = (b : Int) := IntWalk.i64_in _ (by omega)
    go_wp2_with fail
    refine (bytes_any (b : Int) (n : Int) w2 (by omega) (by omega) (by omega) (by omega)).mono ?_
    rintro e w3 ⟨rfl, rfl⟩
    go_wp2_with fail
    refine (takeS_any (n := nby (b : Int) (n : Int)) s2 (by have := nby_bd b n; omega) (by have := nby_bd b n; omega)).mono ?_
    rintro e w4 ⟨A4, n4, c4, rfl, e4, o4, s4, g4⟩
    have hX := HX.out
    have h8 := (takeS_ok (n := nby (b : Int) (n : Int)) s2.ok).2
    generalize takeS (nby (b : Int) (n : Int)) S2 = Tq at *
    obtain ⟨x, S4⟩ := Tq
    dsimp only at *
    subst e4
    clear HX
    have HX := Lib.hid hX
    clear hX s2
    have hxl : x.length ≤ 9223372036854775807 := by have := o4.cap; simp only [maxLen] at this; omega
    have C5 := Lib.hid (unpack_any (c := c4) (b : Int) (n : Int) o4.reads h8 hxl (by omega) (by omega) (by omega) (by omega))
    go_wp2_with fail
    refine C5.out.mono ?_
    intro e w5 h5
    have hX := HX.out
    generalize unpackO x (b : Int) (n : Int) = o5 at *
    clear HX C5
    have G4 := (g1.trans g2).trans g4
    cases o5 with
    | none =>
      obtain ⟨rfl, b5⟩ := h5
      dsimp only at hX
      go_wp2_with fail
      refine (failS (s4.below b5)).mono ?_
      rintro e w6 ⟨rfl, s6, g6⟩
      go_wp2
      go_ret
      rw [hX]
      exact ⟨none, 0, 0, rfl, rfl, Own.nil_, s6, (G4.trans (Far.of_new b5)).trans g6⟩
    | some l =>
      obtain ⟨A5, n5, c5, rfl, o5, b5⟩ := h5
      dsimp only at hX
      go_wp2
      go_ret
      rw [hX]
      exact ⟨A5, n5, c5, rfl, by have := o5.len; rwa [nums_length] at this, o5.base_le (by have := G4.size; omega), s4.below b5, G4.trans (Far.of_new b5)⟩
  · obtain rfl : o = 0 := by omega
    have hX := HX.out
    rw [if_neg (by omega)] at hX
    clear HX
    have C2 := Lib.hid (getS_any s1)
    have hb := getS_lt s1.ok
    generalize getS S1 = Bq at *
    obtain ⟨b, S2⟩ := Bq
    dsimp only at *
    have HX := Lib.hid hX
    clear hX
    go_wp2_with fail
    refine C2.out.mono ?_
    rintro e w2 ⟨rfl, s2, g2⟩
    clear C2 s1
    have G2 := g1.trans g2
    have hz := G2.size
    have G2 := Lib.hid G2
    clear g1 g2
    go_wp2_with (first
      | (refine wpList_mk elW rfl (.tmp 44) (.tmp 44) rfl (W := w2) (B := w2.heap.size) n n rfl rfl rfl rfl (by omega) (Below.refl _ _) (Nat.le_refl _) rfl (by omega) (by simp only [maxLen]; omega) ?_
         intro w3 hown3 hg3 hb3 hs3))
    go_loopw [48] (fun i wr => ∃ k : Nat, k ≤ n ∧ i = .int .i64 (k : Int) ∧ Own wr w2.heap.size 36 (.slice (some ⟨w2.heap.size, 0, none⟩) n n) (nums .u64 (List.replicate k b ++ List.replicate (n - k) 0)) ∧ Below w2.heap.size w2 wr) (fun i _ => n - (intOf i).toNat)
    case atStart => exact ⟨0, Nat.zero_le _, rfl, by simpa [nums_replicate] using hown3, hb3⟩
    case round =>
      obtain ⟨k, hk, rfl, hown, hbl⟩ := hrel
      by_cases hlt : k < n
      · obtain ⟨hg0, hgl, hc, hf, hset⟩ := hown.num0 (i := k) hlt
        have hs := hset b
        rw [fill_set n k b hlt] at hs
        go_wp2
        go_roundw
        case rel => exact ⟨k + 1, by omega, by go_num, hs, hbl.setCell (p := ⟨w2.heap.size, k, none⟩) (Nat.le_refl _) _⟩
        case measure => simp [intOf]; omega
      · obtain rfl : k = n := by omega
        go_wp2
        go_ret
        rw [HX.out]
        refine ⟨_, _, _, rfl, by simp, ?_, s2.below hbl, G2.out.trans (Far.of_new hbl)⟩
        rw [Nat.sub_self, List.replicate_zero, List.append_nil] at hown
        exact hown.base_le hz

end Go.Proofs.Ytnghjkihdcmoiaa
/- Contracts on stretch of both kinds, and isRun. -/

namespace Go.Proofs.Ytnghjkihdcmoiaa
open Go.RowKit Go.Hm
set_option maxHeartbeats 1000000 in
theorem stretch_any {w : World} {A : Option Addr} {c : Nat} {L : List Nat} (h : Reads w w.heap.size 1 A L.length (nums .u64 L)) (hn : L.length ≤ 9223372036854775806) :
    Calls Try.prog 48 #[.slice A L.length c] w (NewPost (.int .i64 (st L : Nat)) w) := by
  go_enter Try.func48, Try.ntmps48
  go_wp2
  go_loopw [3] (fun i wr => ∃ k : Nat, k ≤ L.length ∧ i = .int .i64 (k : Int) ∧ Hid (∀ j, j < k → L.getD j 0 = L.getD 0 0) ∧ Below w.heap.size w wr) (fun i _ => L.length - (intOf i).toNat)
  case atStart => exact ⟨0, by omega, rfl, Lib.hid (fun j hj => by omega), Below.refl _ _⟩
  case round =>
    obtain ⟨k, hk, rfl, hT, hb⟩ := hrel
    by_cases hlt : k < L.length
    · obtain ⟨ad, rfl, hbk, hcell⟩ := (h.below hb).num hlt
      obtain ⟨ad', e', hbk', hcell'⟩ := (h.below hb).num (i := 0) (by omega)
      injection e' with e'
      subst e'
      rw [add_zero'] at hcell'
      have h0 : (0 : Int) < (L.length : Int) := by omega
      by_cases he : L.getD k 0 = L.getD 0 0
      · have HT := Lib.hid (show ∀ j, j < k + 1 → L.getD j 0 = L.getD 0 0 from fun j hj => by
          by_cases hjk : j = k
          · rw [hjk]; exact he
          · exact hT.out j (by omega))
        rw [he] at hcell
        clear he hT
        generalize L.getD 0 0 = y at *
        go_wp2
        go_quiet (fail)
        go_wp2
        go_roundw
        case rel => exact ⟨k + 1, by omega, by go_num, HT, below_drewN hb _⟩
        case measure => simp [intOf]; omega
      · have hst := Lib.hid (show st L = k from st_is (by omega) hT.out (.inr he))
        have hbe : (((L.getD k 0 : Nat) : Int) == ((L.getD 0 0 : Nat) : Int)) = false := by rw [beq_eq_false_iff_ne]; omega
        clear he hT
        generalize L.getD k 0 = y at *
        generalize L.getD 0 0 = z at *
        go_wp2
        go_quiet (fail)
        go_wp2
        go_ret
        exact ⟨by rw [hst.out]; simp, below_drewN hb _⟩
    · obtain rfl : k = L.length := by omega
      have hst := Lib.hid (show st L = L.length from st_is (by omega) hT.out (.inl rfl))
      clear hT
      go_wp2
      go_quiet (fail)
      go_wp2
      go_ret
      exact ⟨by rw [hst.out]; simp, below_drewN hb _⟩
theorem isRun_any {w : World} {A : Option Addr} {c : Nat} {L : List Nat} (h : Reads w w.heap.size 1 A L.length (nums .u64 L)) (hn : L.length ≤ 9223372036854775806) :
    Calls Try.prog 31 #[.slice A L.length c] w (NewPost (.bool (decide (4 ≤ st L))) w) := by
  have S := Lib.hid (stretch_any (c := c) h hn)
  generalize st L = s at *
  clear h
  go_enter Try.func31, Try.ntmps31
  go_wp2_with fail
  refine S.out.mono ?_
  rintro e w1 ⟨rfl, b1⟩
  by_cases h4 : 4 ≤ s
  · have d : decide ((4 : Int) ≤ (s : Int)) = true := decide_eq_true (by omega)
    rw [decide_eq_true h4]
    go_wp2
    go_ret
    exact ⟨by simp [h4], b1⟩
  · have d : decide ((4 : Int) ≤ (s : Int)) = false := decide_eq_false (by omega)
    rw [decide_eq_false h4]
    go_wp2
    go_ret
    exact ⟨by simp; omega, b1⟩

end Go.Proofs.Ytnghjkihdcmoiaa
/- A region that draws its order, whose last part turns what was read: what reads is carried out first, its value holding till the operation t0 comes up, which waits for it. No program is named here. -/

namespace Go.Hm
open Go.RowKit

section
variable {P : Program} {ops : Array Oper} {Q : Exit → Act → World → Prop} {md : Region.Mode} {S : World → Prop} {t0 : Nat}

/-- Whatever order: S holds behind every operation till t0 has come up. -/
def wpAnyT (P : Program) (md : Region.Mode) (ops : Array Oper) (Q : Exit → Act → World → Prop) (t0 : Nat) (S : World → Prop) : Nat → Array Bool → Act → World → Prop
  | 0, listed, a, w => Region.ready md ops listed = [] ∧ Q .normal a w
  | fuel + 1, listed, a, w => (Region.ready md ops listed = [] → Q .normal a w) ∧
    ∀ i ∈ Region.ready md ops listed, wpOp P ops Q i (fun a' w' => ((listed.setIfInBounds i true).getD t0 false = true ∨ S w') ∧ wpAnyT P md ops Q t0 S fuel (listed.setIfInBounds i true) a' w') a w
theorem wpAny_of_T : ∀ (fuel : Nat) (listed : Array Bool) (a : Act) (w : World), wpAnyT P md ops Q t0 S fuel listed a w → wpAny P md ops Q fuel listed a w
  | 0, _, _, _, h => h
  | fuel + 1, _, _, _, h => ⟨h.1, fun i hi => wpOp_mono (fun a' w' h' => wpAny_of_T fuel _ a' w' h'.2) (h.2 i hi)⟩
theorem getD_set_keep {l : Array Bool} {i t : Nat} (h : l.getD t false = true) : (l.setIfInBounds i true).getD t false = true := by
  rw [Array.getD_eq_getD_getElem?] at h ⊢
  rw [Array.getElem?_setIfInBounds]
  split
  · split
    · rfl
    · rename_i e h2; subst e; rw [Array.getElem?_eq_none (by omega)] at h; simp at h
  · exact h
theorem getD_set_other {l : Array Bool} {i t : Nat} (hne : i ≠ t) : (l.setIfInBounds i true).getD t false = l.getD t false := by
  rw [Array.getD_eq_getD_getElem?, Array.getD_eq_getD_getElem?, Array.getElem?_setIfInBounds, if_neg hne]
theorem wpAnyT_weaken {S' : World → Prop} : ∀ (fuel : Nat) (listed : Array Bool) (a : Act) (w : World), (listed.getD t0 false = true ∨ ∀ w, S w → S' w) → wpAnyT P md ops Q t0 S fuel listed a w → wpAnyT P md ops Q t0 S' fuel listed a w
  | 0, _, _, _, _, hh => hh
  | fuel + 1, listed, _, _, h, hh => ⟨hh.1, fun i hi => wpOp_mono (fun a' w' h' => ⟨by
      rcases h with h | h
      · exact .inl (getD_set_keep h)
      · exact h'.1.imp id (h w'), wpAnyT_weaken fuel _ a' w' (h.imp getD_set_keep id) h'.2⟩) (hh.2 i hi)⟩
/-- Taken first. -/
theorem wpAnyT_first {i : Nat} {oi : Oper} {v : Value} (hi : ops[i]? = some oi) (hit : i ≠ t0) (hsel : ∀ (j : Nat) (o : Oper) cs b, ops[j]? = some o → o.op ≠ .select cs b)
    (hQ : ∀ c a w, Q (.panic c) (a.put oi.dst v) w → Q (.panic c) a w) (V : World → Prop)
    (hV : (∀ w, V w) ∨ ((∀ w, S w → V w) ∧ ∃ ot, ops[t0]? = some ot ∧ ∃ e ∈ ot.after, Region.binds md e = true ∧ e.on = i)) :
    ∀ (fuel : Nat) (listed : Array Bool) (a : Act) (w : World),
      (∀ j oj, ops[j]? = some oj → j ≠ i → listed.getD j true = false → (∀ e ∈ oj.after, Region.binds md e = true → e.on ≠ i) → oi.apart ops oj = true) →
      i ∈ Region.ready md ops listed → YieldsIf P ops V oi v a → (listed.getD t0 false = true ∨ S w) → ((∀ w, V w) ∨ listed.getD t0 false = false) →
      wpAnyT P md ops Q t0 S fuel (listed.setIfInBounds i true) (a.put oi.dst v) w → wpAnyT P md ops Q t0 S (fuel + 1) listed a w := by
  have hVw : ∀ (listed : Array Bool) (w : World), (listed.getD t0 false = true ∨ S w) → ((∀ w, V w) ∨ listed.getD t0 false = false) → V w := by
    intro listed w hS ht
    rcases ht with ht | ht
    · exact ht w
    · rcases hS with hS | hS
      · rw [ht] at hS; cases hS
      · rcases hV with hV | hV
        · exact hV w
        · exact hV.1 w hS
  intro fuel
  induction fuel with
  | zero =>
    intro listed a w _ hr hy hS ht H
    refine ⟨fun h => (by rw [h] at hr; cases hr), fun j hj => ?_⟩
    by_cases hji : j = i
    · subst hji
      exact hy.wpOp hi (hVw listed w hS ht) ⟨hS.imp getD_set_keep id, H⟩
    · have := ready_mono hj hji
      rw [H.1] at this
      cases this
  | succ fuel ih =>
    intro listed a w hfree hr hy hS ht H
    refine ⟨fun h => (by rw [h] at hr; cases hr), fun j hj => ?_⟩
    by_cases hji : j = i
    · subst hji
      exact hy.wpOp hi (hVw listed w hS ht) ⟨hS.imp getD_set_keep id, H⟩
    · have h1 := H.2 j (ready_mono hj hji)
      obtain ⟨hjun, oj, hoj, hall⟩ := mem_ready.1 hj
      have hnot : ∀ e ∈ oj.after, Region.binds md e = true → e.on ≠ i := fun e he hb heq => by
        have h1 := hall e he hb
        have h0 := (mem_ready.1 hr).1
        rw [heq] at h1
        rcases Nat.lt_or_ge i listed.size with h' | h'
        · simp [h'] at h0 h1; rw [h0] at h1; cases h1
        · simp [Array.getElem?_eq_none h'] at h1
      have h2 := wpOp_putIf hoj (hfree j oj hoj hji hjun hnot) (fun cs b => hsel i oi cs b hi) (fun cs b => hsel j oj cs b hoj) hQ hy h1
      have hfree' : ∀ k ok, ops[k]? = some ok → k ≠ i → (listed.setIfInBounds j true).getD k true = false →
          (∀ e ∈ ok.after, Region.binds md e = true → e.on ≠ i) → oi.apart ops ok = true := fun k ok hk hki hun hno => by
        refine hfree k ok hk hki ?_ hno
        by_cases hjk : j = k
        · subst hjk; exact hjun
        · rw [getD_set_ne true hjk] at hun; exact hun
      have ht' : (∀ w, V w) ∨ (listed.setIfInBounds j true).getD t0 false = false := by
        rcases hV with hV | ⟨_, ot, hot, e, he, hb, heq⟩
        · exact .inl hV
        · refine ht.imp id fun ht => ?_
          have hjt : j ≠ t0 := by
            rintro rfl
            rw [hoj] at hot
            injection hot with hot
            subst hot
            exact hnot e he hb heq
          rw [getD_set_other hjt]
          exact ht
      refine wpOp_mono (fun a' w' h3 => ?_) h2
      have hS' : (listed.setIfInBounds j true).getD t0 false = true ∨ S w' := by
        refine h3.2.1.imp (fun h4 => ?_) id
        rw [Array.setIfInBounds_comm _ _ (fun e => hji e.symm), getD_set_other hit] at h4
        exact h4
      refine ⟨hS', ih (listed.setIfInBounds j true) a' w' hfree' (ready_mono hr (Ne.symm hji)) h3.1 hS' ht' ?_⟩
      rw [Array.setIfInBounds_comm _ _ hji]
      exact h3.2.2
theorem wpAnyT_take {i : Nat} {oi : Oper} {v : Value} {fuel : Nat} {listed : Array Bool} {a : Act} {w : World} (V : World → Prop) (hi : ops[i]? = some oi) (hit : i ≠ t0)
    (hs : Region.noSelect ops = true) (hf : Region.free md ops listed i = true) (hr : (Region.ready md ops listed).contains i = true)
    (hQ : ∀ c a w, Q (.panic c) (a.put oi.dst v) w → Q (.panic c) a w)
    (hV : (∀ w, V w) ∨ ((∀ w, S w → V w) ∧ ∃ ot, ops[t0]? = some ot ∧ ∃ e ∈ ot.after, Region.binds md e = true ∧ e.on = i))
    (hy : YieldsIf P ops V oi v a) (hS : listed.getD t0 false = true ∨ S w) (ht : (∀ w, V w) ∨ listed.getD t0 false = false)
    (h : wpAnyT P md ops Q t0 S fuel (listed.setIfInBounds i true) (a.put oi.dst v) w) : wpAnyT P md ops Q t0 S (fuel + 1) listed a w :=
  wpAnyT_first hi hit (Region.noSelect_spec hs) hQ V hV fuel listed a w (Region.free_spec hi hf) (by simpa using hr) hy hS ht h

/-- Whether t0 waits for i. -/
def waitsB (md : Region.Mode) (ops : Array Oper) (t0 i : Nat) : Bool := match ops[t0]? with
  | some ot => ot.after.any fun e => Region.binds md e && e.on == i
  | none => false
/-- 0: reads, and t0 waits for it; 1: yields its value in whatever world; 2: comes up alone. -/
def upOkT (ops : Array Oper) (t0 : Nat) : Array Bool → List (Nat × Nat) → Bool
  | listed, [] => (Region.ready .any ops listed).isEmpty
  | listed, (0, i) :: r => (Region.ready .any ops listed).contains i && (Region.free .any ops listed i && (waitsB .any ops t0 i && (decide (i ≠ t0) && (!listed.getD t0 false && upOkT ops t0 (listed.setIfInBounds i true) r))))
  | listed, (1, i) :: r => (Region.ready .any ops listed).contains i && (Region.free .any ops listed i && (decide (i ≠ t0) && upOkT ops t0 (listed.setIfInBounds i true) r))
  | listed, (_, i) :: r => decide (Region.ready .any ops listed = [i]) && upOkT ops t0 (listed.setIfInBounds i true) r

def wpUpT (P : Program) (ops : Array Oper) (R : World → World → Prop) (Q : Exit → Act → World → Prop) (t0 : Nat) : List (Nat × Nat) → Bool → Act → World → Prop
  | [], _, a, w => Q .normal a w
  | (0, i) :: r, d, a, w => ∃ o v, ops[i]? = some o ∧ ((Region.wanted o (yielded ops a.tmps) = true ∧ ∀ w', R w w' → (execOp a.eval o).run P w' = .ok (.value v) w') ∨ (Region.wanted o (yielded ops a.tmps) = false ∧ v = undef)) ∧ wpUpT P ops R Q t0 r d (a.put o.dst v) w
  | (1, i) :: r, d, a, w => ∃ o v, ops[i]? = some o ∧ ((Region.wanted o (yielded ops a.tmps) = true ∧ ∀ w', (execOp a.eval o).run P w' = .ok (.value v) w') ∨ (Region.wanted o (yielded ops a.tmps) = false ∧ v = undef)) ∧ wpUpT P ops R Q t0 r d (a.put o.dst v) w
  | (_, i) :: r, d, a, w => ∃ o, ops[i]? = some o ∧ if Region.wanted o (yielded ops a.tmps) then o.wp P a w (fun a' w' => (d = true ∨ i = t0 ∨ R w w') ∧ wpUpT P ops R Q t0 r (d || i == t0) a' w') (NoPanic Q) else wpUpT P ops R Q t0 r (d || i == t0) (a.put o.dst undef) w

variable {R : World → World → Prop}
theorem waitsB_spec {i : Nat} (h : waitsB md ops t0 i = true) : ∃ ot, ops[t0]? = some ot ∧ ∃ e ∈ ot.after, Region.binds md e = true ∧ e.on = i := by
  unfold waitsB at h
  split at h
  · rename_i ot hot
    rw [Array.any_eq_true] at h
    obtain ⟨j, hj, h⟩ := h
    simp only [Bool.and_eq_true, beq_iff_eq] at h
    exact ⟨ot, hot, ot.after[j], Array.getElem_mem hj, h.1, h.2⟩
  · cases h
theorem wpAnyT_of_up (hrefl : ∀ w, R w w) (htrans : ∀ {x y z}, R x y → R y z → R x z) (hs : Region.noSelect ops = true) :
    ∀ (ord : List (Nat × Nat)) (fuel : Nat) (listed : Array Bool) (d : Bool) (a : Act) (w : World), (d = true → listed.getD t0 false = true) → (∀ i ∈ ord.map (·.2), i < listed.size) → ord.length ≤ fuel → upOkT ops t0 listed ord = true → wpUpT P ops R Q t0 ord d a w → wpAnyT P .any ops (NoPanic Q) t0 (R w) fuel listed a w := by
  intro ord
  induction ord with
  | nil =>
    intro fuel listed d a w _ _ _ hok h
    have hr : Region.ready .any ops listed = [] := by simpa [upOkT] using hok
    cases fuel with
    | zero => exact ⟨hr, NoPanic.normal h⟩
    | succ fuel => exact ⟨fun _ => NoPanic.normal h, by rw [hr]; simp⟩
  | cons x r ih =>
    obtain ⟨b, i⟩ := x
    intro fuel listed d a w hd hsz hl hok h
    obtain ⟨fuel, rfl⟩ : ∃ k, fuel = k + 1 := ⟨fuel - 1, by simp at hl; omega⟩
    have hl' : r.length ≤ fuel := by simp at hl; omega
    have hsz' : ∀ k ∈ r.map (·.2), k < (listed.setIfInBounds i true).size := fun k hk => by rw [Array.size_setIfInBounds]; exact hsz k (by simp at hk ⊢; exact .inr hk)
    have hi0 : i < listed.size := hsz i (by simp)
    match b with
    | 0 =>
      obtain ⟨o, v, ho, hv, hr⟩ := h
      simp only [upOkT, Bool.and_eq_true, decide_eq_true_eq, Bool.not_eq_true'] at hok
      obtain ⟨h1, h2, h3, h4, h5, h6⟩ := hok
      exact wpAnyT_take (R w) ho h4 hs h2 h1 (fun _ _ _ hp => hp) (.inr ⟨fun _ hh => hh, waitsB_spec h3⟩) hv (.inr (hrefl w)) (.inr h5) (ih fuel _ d _ w (fun e => getD_set_keep (hd e)) hsz' hl' h6 hr)
    | 1 =>
      obtain ⟨o, v, ho, hv, hr⟩ := h
      simp only [upOkT, Bool.and_eq_true, decide_eq_true_eq] at hok
      obtain ⟨h1, h2, h3, h4⟩ := hok
      exact wpAnyT_take (fun _ => True) ho h3 hs h2 h1 (fun _ _ _ hp => hp) (.inl fun _ => trivial) (hv.imp (fun hh => ⟨hh.1, fun w' _ => hh.2 w'⟩) id) (.inr (hrefl w)) (.inl fun _ => trivial) (ih fuel _ d _ w (fun e => getD_set_keep (hd e)) hsz' hl' h4 hr)
    | b + 2 =>
      obtain ⟨o, ho, hc⟩ := h
      simp only [upOkT, Bool.and_eq_true, decide_eq_true_eq] at hok
      obtain ⟨h1, h3⟩ := hok
      refine ⟨fun h0 => (by rw [h1] at h0; cases h0), fun j hj => ?_⟩
      rw [h1] at hj
      obtain rfl : j = i := by simpa using hj
      have hd' : (d || j == t0) = true → (listed.setIfInBounds j true).getD t0 false = true := by
        intro e
        rw [Bool.or_eq_true, beq_iff_eq] at e
        rcases e with e | rfl
        · exact getD_set_keep (hd e)
        · rw [Array.getD_eq_getD_getElem?, Array.getElem?_setIfInBounds, if_pos rfl, if_pos hi0]; rfl
      unfold wpOp
      simp only [ho]
      split
      · rename_i hw
        rw [if_pos hw] at hc
        refine .inl (Oper.wp_mono (fun a' w' hh => ?_) hc)
        obtain ⟨hR, hh⟩ := hh
        have hI := ih fuel _ _ a' w' hd' hsz' hl' h3 hh
        by_cases ht : (listed.setIfInBounds j true).getD t0 false = true
        · exact ⟨.inl ht, wpAnyT_weaken fuel _ a' w' (.inl ht) hI⟩
        · have hR' : R w w' := by
            rcases hR with hR | hR | hR
            · exact absurd (getD_set_keep (hd hR)) ht
            · exact absurd (hd' (by simp [hR])) ht
            · exact hR
          exact ⟨.inr hR', wpAnyT_weaken fuel _ a' w' (.inr fun z hz => htrans hR' hz) hI⟩
      · rename_i hw
        rw [if_neg hw] at hc
        exact ⟨.inr (hrefl w), ih fuel _ _ _ w hd' hsz' hl' h3 hc⟩

theorem wp_region_upT {id : Nat} {a : Act} {w : World} (R : World → World → Prop) (t0 : Nat) (ord : List (Nat × Nat)) (hrefl : ∀ w, R w w) (htrans : ∀ {x y z}, R x y → R y z → R x z) (hm : P.follows .mixedOrders = true)
    (hs : Region.noSelect ops = true) (hl : (decide (ord.length ≤ ops.size) && ord.all fun x => decide (x.2 < ops.size)) = true) (hok : upOkT ops t0 (Array.replicate ops.size false) ord = true) (h : wpUpT P ops R Q t0 ord false a w.drew) : (Code.region id ops true).wp P Q a w := by
  simp only [Bool.and_eq_true, decide_eq_true_eq, List.all_eq_true] at hl
  refine wp_region_noPanic (wp_region_any hm (wpAny_of_T _ _ _ _ (wpAnyT_of_up hrefl htrans hs ord ops.size _ false a _ (by simp) ?_ hl.1 hok h)))
  intro i hi
  simp only [List.mem_map] at hi
  obtain ⟨x, hx, rfl⟩ := hi
  rw [Array.size_replicate]
  exact hl.2 x hx

variable {i : Nat} {r : List (Nat × Nat)} {a : Act} {w : World} {d : Bool} {v : Value}
theorem upT_nil (h : Q .normal a w) : wpUpT P ops R Q t0 [] d a w := h

section
variable {dst : Option Tmp} {op : Op} {ty : TypeId} {pos : String} {af : Array Edge} {gd : Option (Nat × Bool)}
theorem upT_quiet (ho : ops[i]? = some ⟨dst, op, ty, pos, af, gd⟩) (hw : Region.wanted ⟨dst, op, ty, pos, af, gd⟩ (yielded ops a.tmps) = true) (hv : ∀ w', R w w' → (execOp a.eval ⟨dst, op, ty, pos, af, gd⟩).run P w' = .ok (.value v) w') (h : wpUpT P ops R Q t0 r d (a.put dst v) w) : wpUpT P ops R Q t0 ((0, i) :: r) d a w :=
  ⟨_, v, ho, .inl ⟨hw, hv⟩, h⟩
theorem upT_pure (ho : ops[i]? = some ⟨dst, op, ty, pos, af, gd⟩) (hw : Region.wanted ⟨dst, op, ty, pos, af, gd⟩ (yielded ops a.tmps) = true) (hv : ∀ w', (execOp a.eval ⟨dst, op, ty, pos, af, gd⟩).run P w' = .ok (.value v) w') (h : wpUpT P ops R Q t0 r d (a.put dst v) w) : wpUpT P ops R Q t0 ((1, i) :: r) d a w :=
  ⟨_, v, ho, .inl ⟨hw, hv⟩, h⟩
theorem upT_call (ho : ops[i]? = some ⟨dst, op, ty, pos, af, gd⟩) (hw : Region.wanted ⟨dst, op, ty, pos, af, gd⟩ (yielded ops a.tmps) = true) (h : ∀ K : Act → World → Prop, (∀ a' w', (d = true ∨ i = t0 ∨ R w w') → wpUpT P ops R Q t0 r (d || i == t0) a' w' → K a' w') → Oper.wp P ⟨dst, op, ty, pos, af, gd⟩ a w K (NoPanic Q)) : wpUpT P ops R Q t0 ((2, i) :: r) d a w :=
  ⟨_, ho, by rw [if_pos hw]; exact h _ fun _ _ h1 h2 => ⟨h1, h2⟩⟩
end
end

section
variable {P : Program} {o : Oper} {a : Act} {Q : Exit → Act → World → Prop} {K : Act → World → Prop}
/-- append(s, x) behind the block that x was laid in, at the operation. -/
theorem wp_push {w : World} {t e : TypeId} {z : Value} {bytes : Nat} (E : ElT P t e z 1 bytes) (s x : Operand)
    (ho : o.op = .call { callee := .builtin .append, args := #[s, x], argTypes := #[t, t] })
    {W : World} {B base : Nat} {v u : Value} {xs : List Value} (hown : Own w base e v xs) (hs : a.eval s = v) (hx : a.eval x = .slice (some ⟨w.heap.size, 0, none⟩) 1 1)
    (hb : Below B W w) (hbB : B ≤ base) (hbase : base ≤ w.heap.size) (h1 : u.oneCell' = true)
    (hn : (xs.length + 1) * bytes ≤ 140737488355328) (hm : xs.length + 1 ≤ maxLen)
    (h : ∀ A' c' w', xs.length + 1 ≤ c' → c' ≤ maxLen → Own w' base e (.slice A' (xs.length + 1) c') (xs ++ [u]) → w.grownBy w' v.ownBlock → Below B W w' → w.heap.size < w'.heap.size → K (a.put o.dst (.slice A' (xs.length + 1) c')) w') :
    Oper.wp P o a (w.alloc (.cells #[u] e)) K Q := by
  obtain ⟨i, hi, hz0, hz1, hz2⟩ := info_parts E.hi
  obtain ⟨v', w', hr, hown', hg, _, _⟩ := run_append_own_at (P := P) (w.alloc (.cells #[u] e)) base t o.type e i z 1 bytes E.ht hi hz0 hz1 hz2 E.hz (by omega) v xs.length xs (World.ownsRow.alloc hown _) ⟨w.heap.size, 0, none⟩ 1 1 [u] rfl (cell_one_new _ _ _) (by simpa using h1) hm hn (by simp; omega)
  have hxl : (xs ++ [u]).length = xs.length + 1 := by simp
  have hown2 : Own w' base e v' (xs ++ [u]) := by unfold Own; rw [hxl]; exact hown'
  obtain ⟨A', c', rfl, hc1, hc2⟩ := hown2.slice
  rw [hxl] at hc1 hown2 hr
  have hg2 : w.grownBy w' v.ownBlock := (World.grownBy_alloc w (.cells #[u] e) v.ownBlock).trans hg
  have hsz := hg.size
  simp at hsz
  unfold Oper.wp execOp
  simp only [ho, resolve, invoke, builtin, Sem.run_bind, Sem.run_pure, Result.andThen_ok, List.map_toArray, List.map_cons, List.map_nil, hs, hx, hr]
  exact h A' c' w' hc1 hc2 hown2 hg2 (hb.grown hg2 (Nat.le_trans hbB hbase) (fun k hk => by have := (hown.lt k hk).1; omega)) (by omega)
/-- append(s, xs...) onto a row of the call's own, at the operation. -/
theorem wp_pushes {w : World} {t e : TypeId} {z : Value} {bytes : Nat} (E : ElT P t e z 1 bytes) (s x : Operand)
    (ho : o.op = .call { callee := .builtin .append, args := #[s, x], argTypes := #[t, t] })
    {W : World} {B base m c : Nat} {v : Value} {xs news : List Value} {ad : Addr} (hown : Own w base e v xs) (hr : Reads w w.heap.size 1 (some ad) m news) (hm0 : 0 < m) (hs : a.eval s = v) (hx : a.eval x = .slice (some ad) m c)
    (hb : Below B W w) (hbB : B ≤ base) (hbase : base ≤ w.heap.size) (h1 : ∀ u ∈ news, u.oneCell' = true)
    (hn : (xs.length + m) * bytes ≤ 140737488355328) (hm : xs.length + m ≤ maxLen)
    (h : ∀ A' c' w', xs.length + m ≤ c' → c' ≤ maxLen → Own w' base e (.slice A' (xs.length + m) c') (xs ++ news) → w.grownBy w' v.ownBlock → Below B W w' → K (a.put o.dst (.slice A' (xs.length + m) c')) w') :
    Oper.wp P o a w K Q := by
  obtain ⟨i, hi, hz0, hz1, hz2⟩ := info_parts E.hi
  have hl : news.length = m := by have := hr.1; omega
  have hcells : ∀ j u, news[j]? = some u → w.cell? (ad.add j) = some u := by
    intro j u hu
    obtain ⟨ad', h', _, hc⟩ := hr.2 hm0
    injection h' with h'
    subst h'
    exact hc j u hu
  obtain ⟨v', w', hr', hown', hg, _, _⟩ := run_append_own_at (P := P) w base t o.type e i z 1 bytes E.ht hi hz0 hz1 hz2 E.hz (by omega) v xs.length xs hown ad m c news (by omega) hcells h1 hm hn hbase
  have hxl : (xs ++ news).length = xs.length + m := by simp [hl]
  have hown2 : Own w' base e v' (xs ++ news) := by unfold Own; rw [hxl]; exact hown'
  obtain ⟨A', c', rfl, hc1, hc2⟩ := hown2.slice
  rw [hxl] at hc1 hown2 hr'
  unfold Oper.wp execOp
  simp only [ho, resolve, invoke, builtin, Sem.run_bind, Sem.run_pure, Result.andThen_ok, List.map_toArray, List.map_cons, List.map_nil, hs, hx, hr']
  exact h A' c' w' hc1 hc2 hown2 hg (hb.grown hg (Nat.le_trans hbB hbase) (fun k hk => by have := (hown.lt k hk).1; omega))
end

end Go.Hm
/- Cells of type 1 as bits: which decoding answers. Plain lists. -/

namespace Go.Hm
open Go Go.RowKit
def bitC (x : Nat) : CellS := (false, (x : Int), [], 0, 0)
theorem bits_bitC {l : List Nat} (h : ∀ x ∈ l, x < 2) : bitsP (l.map bitC) = l := by
  unfold bitsP
  rw [List.map_map]
  conv => rhs; rw [← List.map_id l]
  refine List.map_congr_left fun x hx => ?_
  have := h x hx
  show u64N (x : Int) = x
  unfold u64N
  omega
theorem bitC_bits {l : List CellS} (h : ∀ c ∈ l, rightB c 1 false = true) : (bitsP l).map bitC = l := by
  unfold bitsP
  rw [List.map_map]
  conv => rhs; rw [← List.map_id l]
  refine List.map_congr_left fun c hc => ?_
  have hr := h c hc
  have h0 := right0 hr
  have h1 := right1 hr
  obtain ⟨y0, y1, y2, y3, y4⟩ := c
  dsimp only at h0 h1
  subst h0
  have e : (y2 = [] ∧ y3 = 0 ∧ y4 = 0) ∧ (y1 = 0 ∨ y1 = 1) := by simpa [rightB] using hr
  obtain ⟨⟨rfl, rfl, rfl⟩, -⟩ := e
  show bitC (u64N y1) = (false, y1, [], 0, 0)
  unfold bitC u64N
  rcases h1 with rfl | rfl <;> rfl
theorem right_bitC {x : Nat} (h : x < 2) : rightB (bitC x) 1 false = true := by
  have : x = 0 ∨ x = 1 := by omega
  rcases this with rfl | rfl <;> simp [rightB, bitC]

end Go.Hm

namespace Go.Proofs.Ytnghjkihdcmoiaa
open Go.RowKit Go.Hm
theorem isPl_bits {b : List Nat} {n : Int} (h8 : ∀ x ∈ b, x < 256) : IsPl cellData 1 b n ((unpackO b 1 n).map fun l => l.map bitC) := by
  constructor
  · intro l hl
    cases hu : unpackO b 1 n with
    | none => rw [hu] at hl; cases hl
    | some k =>
      rw [hu] at hl
      injection hl with hl
      subst hl
      obtain ⟨hp, hlen, hw, hk, hf⟩ := pack_unpack h8 hu
      have h2 : ∀ x ∈ k, x < 2 := by
        have := (wid_iff k 1 (by omega) hk).1 (by omega)
        simpa using this
      have hR : ∀ c ∈ k.map bitC, rightB c 1 false = true := fun c hc => by
        obtain ⟨x, hx, rfl⟩ := List.mem_map.1 hc
        exact right_bitC (h2 x hx)
      have hpb := pack_plB hR (by rw [List.length_map]; exact hf)
      rw [bits_bitC h2, hp] at hpb
      injection hpb with hpb
      refine ⟨by rw [List.length_map]; exact hlen, plO_iff.2 ⟨plOk_iff.2 ⟨⟨by omega, by omega, by rw [List.length_map]; exact hf⟩, hR⟩, hpb.symm⟩, fun c hc => ?_⟩
      obtain ⟨x, hx, rfl⟩ := List.mem_map.1 hc
      have := h2 x hx
      unfold cellData bitC
      exact ⟨⟨by simp, by simp⟩, by dsimp only; omega⟩
  · intro l _ hlen hp
    obtain ⟨hok, hb⟩ := plO_iff.1 hp
    obtain ⟨⟨_, _, hf⟩, hR⟩ := plOk_iff.1 hok
    have hbl : (bitsP l).length = l.length := by unfold bitsP; rw [List.length_map]
    have hu := unpack_pack (bitsP l) 1 (by omega) (by omega) (bitsP_wid hR) (fun x hx => by unfold bitsP at hx; obtain ⟨y, _, rfl⟩ := List.mem_map.1 hx; have := u64N_lt y.2.1; omega)
    have e : low (pk 1 (bitsP l)) ((1 * (bitsP l).length + 7) / 8) = b := by
      rw [← hb]
      unfold plB
      rw [if_pos rfl, hbl]
    rw [e, hbl, hlen] at hu
    have hu : unpackO b 1 n = some (bitsP l) := hu
    rw [hu]
    show some ((bitsP l).map bitC) = some l
    rw [bitC_bits hR]

end Go.Proofs.Ytnghjkihdcmoiaa
/- The contracts of plain.unpackBools and of plain.Decode, of every type. -/

namespace Go.Hm
open Go Go.RowKit
theorem madeCells5 (a b c d f : Value) (n : Nat) : (madeCells #[a, b, c, d, f] (n * 5)).toList = (List.replicate n [a, b, c, d, f]).flatten := by
  induction n with
  | zero => simp [madeCells]
  | succ n ih =>
    rw [List.replicate_succ', List.flatten_append, ← ih]
    have e : ∀ m, m % 5 = 0 → (madeCells #[a, b, c, d, f] (m + 5)).toList = (madeCells #[a, b, c, d, f] m).toList ++ [a, b, c, d, f] := by
      intro m hm
      simp only [madeCells, Array.toList_map, Array.toList_range, List.range_succ, List.map_append, List.map_cons, List.map_nil, List.append_assoc, List.cons_append, List.nil_append, List.size_toArray, List.length_cons, List.length_nil]
      rw [hm, show (m + 1) % 5 = 1 by omega, show (m + 2) % 5 = 2 by omega, show (m + 3) % 5 = 3 by omega, show (m + 4) % 5 = 4 by omega]
      rfl
    rw [Nat.succ_mul, e (n * 5) (by omega)]
    simp

section
variable {P : Program} {ops : Array Oper} {rest : List Oper} {o : Oper} {a : Act} {Q : Exit → Act → World → Prop}
/-- make of a row of records of five cells. -/
theorem wpList_mkR5 {w : World} {t e : TypeId} {x y z u v : Value} {bytes : Nat} (E : ElT P t e (.agg #[x, y, z, u, v]) 5 bytes) (hgd : o.guard = none) (lo co : Operand) (ho : o.op = Op.makeSlice t lo co)
    {W : World} {B : Nat} {kl kc : IntKind} {L C : Int} (n : Nat) (hl : a.eval lo = .int kl L) (hc : a.eval co = .int kc C) (hL : L = (n : Int)) (hC : C = (n : Int)) (hb : Below B W w) (hbase : B ≤ w.heap.size)
    (hn : n * bytes ≤ 140737488355328) (hm : n ≤ maxLen)
    (h : ∀ w', w'.ownsRow w.heap.size e 5 (.slice (some ⟨w.heap.size, 0, none⟩) n n) n (List.replicate n [x, y, z, u, v]).flatten → w.grownBy w' none → Below B W w' → w'.heap.size = w.heap.size + 1 → wpList P ops Q rest (a.put o.dst (.slice (some ⟨w.heap.size, 0, none⟩) n n)) w') :
    wpList P ops Q (o :: rest) a w := by
  obtain ⟨i, hi, hz0, hs1, hb1⟩ := info_parts E.hi
  subst hL hC
  have hmC : (n : Int) ≤ 9223372036854775807 := by have h := hm; simp only [maxLen] at h; omega
  have hbC : (i.bytes : Int) * (n : Int) ≤ 281474976710656 := by
    have h : ((i.bytes * n : Nat) : Int) ≤ 281474976710656 := by rw [hb1, Nat.mul_comm]; omega
    rwa [Int.natCast_mul] at h
  have hrun := run_make (P := P) w t e i (.agg #[x, y, z, u, v]) E.ht hi hz0 kl kc (n : Int) (n : Int) (by omega) (by omega) hbC hmC
  rw [Int.toNat_natCast, hs1] at hrun
  refine wpList_plain hgd fun K hK => ?_
  unfold Oper.wp
  simp [execOp, ho, hl, hc, hrun, Result.andThen]
  refine hK _ _ (h _ ?_ (World.grownBy_alloc _ _ _) (hb.alloc hbase _) (by simp))
  refine ⟨by simp, .inr ⟨_, n, _, rfl, Nat.le_refl _, heap_alloc_new w _, Nat.le_refl _, hm, by simp [size_madeCells], ?_⟩⟩
  rw [List.take_of_length_le (by simp [size_madeCells])]
  exact madeCells5 x y z u v n
end
theorem recs_set {A B : List CellS} {z : Nat} : (recs cellV (A ++ cell0 :: B)).set (A.length * 5 + 1) (.int .i64 (z : Int)) = recs cellV (A ++ bitC z :: B) := by
  have l : (recs cellV A).length = A.length * 5 := recs_length (sz := 5) (fun _ => rfl) A
  rw [recs_append, recs_append, List.set_append_right _ _ (by omega), l, show A.length * 5 + 1 - A.length * 5 = 1 by omega]
  congr 1
theorem recs_rep0 (n : Nat) : (List.replicate n [Value.bool false, .int .i64 0, .string ⟨#[]⟩, .int .i64 0, .int .i64 0]).flatten = recs cellV (List.replicate n cell0) := by
  induction n with
  | zero => rfl
  | succ n ih =>
    rw [List.replicate_succ, List.flatten_cons, ih, List.replicate_succ]
    rfl

end Go.Hm

namespace Go.Proofs.Ytnghjkihdcmoiaa
open Go.RowKit Go.Hm
set_option maxHeartbeats 2000000 in
set_option maxRecDepth 100000 in
theorem unpackBools_any {w : World} {A : Option Addr} {c m : Nat} {b : List Nat} {n : Nat} (h : Reads w w.heap.size 1 A m (nums .u8 b)) (h8 : ∀ x ∈ b, x < 256) (hm : m ≤ 140737488351232) (hn : n ≤ 65536) :
    Calls Try.prog 37 #[.slice A m c, .int .i64 (n : Int)] w (OptC ((unpackO b 1 (n : Int)).map fun l => l.map bitC) w) := by
  obtain rfl : m = b.length := h.len
  have U := Lib.hid (unpack_any (c := c) 1 (n : Int) h h8 (by omega) (by omega) (by omega) (by omega) (by omega))
  have hpu := fun l => pack_unpack (l := l) (x := 1) (n := (n : Int)) h8
  clear h h8
  generalize unpackO b 1 (n : Int) = O at *
  cases O with
  | none =>
    go_enter Try.func37, Try.ntmps37
    go_wp2_with fail
    refine U.out.mono ?_
    rintro e w1 ⟨rfl, b1⟩
    go_wp2_with fail
    go_ret2
    exact ⟨rfl, b1⟩
  | some l =>
    obtain ⟨-, hlen, hw, hk, hf⟩ := hpu l rfl
    have h2 : ∀ x ∈ l, x < 2 := by
      have := (wid_iff l 1 (by omega) hk).1 (by omega)
      simpa using this
    obtain rfl : n = l.length := by omega
    have H2 := Lib.hid h2
    clear hpu hlen hw hk h2
    go_enter Try.func37, Try.ntmps37
    go_wp2_with fail
    refine U.out.mono ?_
    rintro e w1 ⟨A1, n1, c1, rfl, k1, b1⟩
    obtain rfl : n1 = l.length := by have := k1.len; rwa [nums_length] at this
    have hz1 := b1.size
    have R1 := Lib.hid k1.reads
    clear U k1
    go_wp2_with (refine wpList_mkR5 elC9 rfl (.tmp 19) (.tmp 19) rfl (W := w) (B := w.heap.size) l.length rfl rfl rfl rfl b1 hz1 (by omega) (by simp only [maxLen]; omega) ?_
                 intro w2 o2 g2 b2 hs2)
    rw [recs_rep0] at o2
    have b12 : New w1 w2 := (Turns.of_none (T := []) g2).new (by simp)
    go_loopw [23] (fun i wr => ∃ k : Nat, k ≤ l.length ∧ i = .int .i64 (k : Int) ∧ wr.ownsRow w1.heap.size 40 5 (.slice (some ⟨w1.heap.size, 0, none⟩) l.length l.length) l.length (recs cellV ((l.take k).map bitC ++ List.replicate (l.length - k) cell0)) ∧ New w1 wr) (fun i _ => l.length - (intOf i).toNat)
    case atStart => exact ⟨0, Nat.zero_le _, rfl, by simpa using o2, b12⟩
    case round =>
      obtain ⟨k, hk, rfl, o, hb⟩ := hrel
      clear o2 g2 b2 b12 hs2
      by_cases hlt : k < l.length
      · obtain ⟨ax, rfl, hbx, qx⟩ := (Reads.later R1.out hb).num (i := k) hlt
        have hx2 := H2.out (l.getD k 0) (by rw [List.getD_eq_getElem?_getD, List.getElem?_eq_getElem hlt]; exact List.getElem_mem hlt)
        have htk := take_snoc l k 0 hlt
        generalize l.getD k 0 = x at *
        have hwr : IntKind.i64.wrap (x : Int) = (x : Int) := IntWalk.i64_in _ (by omega)
        obtain ⟨ad, ea, _, -, d1, -⟩ := (Reads.of_own o).cell5 (i := k) hlt
        injection ea with ea
        subst ea
        obtain ⟨cs, BR⟩ := row_blk o
        have f1 := BR.frozen (k * 5 + 1)
        have ead : (⟨w1.heap.size, 0, none⟩ : Addr).add (k * 5) = ⟨w1.heap.size, k * 5, none⟩ := by
          unfold Addr.add
          split <;> simp_all
        rw [ead] at d1
        dsimp only at d1
        have hA : ((l.take k).map bitC).length = k := by rw [List.length_map, List.length_take]; omega
        obtain ⟨o', -⟩ := World.ownsRow.stored o (k * 5 + 1) (.int .i64 (x : Int))
        have ers := recs_set (A := (l.take k).map bitC) (B := List.replicate (l.length - (k + 1)) cell0) (z := x)
        rw [hA] at ers
        rw [show l.length - k = (l.length - (k + 1)) + 1 by omega, List.replicate_succ, ers] at o'
        have o' : (wr.setCell ⟨w1.heap.size, k * 5 + 1, none⟩ (.int .i64 (x : Int))).ownsRow w1.heap.size 40 5 (.slice (some ⟨w1.heap.size, 0, none⟩) l.length l.length) l.length (recs cellV ((l.take (k + 1)).map bitC ++ List.replicate (l.length - (k + 1)) cell0)) := by
          rw [htk, List.map_append, List.append_assoc]
          exact o'
        have O' := Lib.hid o'
        have HB := Lib.hid (hb.setCell (p := ⟨w1.heap.size, k * 5 + 1, none⟩) (Nat.le_refl _) (.int .i64 (x : Int)))
        clear o' ers o htk hA BR
        go_wp2_with fail
        go_roundw
        case rel => exact ⟨k + 1, by omega, by go_num, O'.out, HB.out⟩
        case measure => simp [intOf]; omega
      · obtain rfl : k = l.length := by omega
        rw [Nat.sub_self, List.replicate_zero, List.append_nil, List.take_length] at o
        go_wp2_with fail
        go_ret2
        exact ⟨_, _, _, rfl, row_base o hz1, New.trans b1 hb⟩

end Go.Proofs.Ytnghjkihdcmoiaa
/- The contract of plain.Decode, of every type. -/

namespace Go.Proofs.Ytnghjkihdcmoiaa
open Go.RowKit Go.Hm
theorem isPl_no {t : Int} {b : List Nat} {n : Int} (h : ¬ (0 ≤ t ∧ t ≤ 3 ∧ 0 ≤ n ∧ n ≤ 65536)) : IsPl cellData t b n none :=
  ⟨fun l e => (by cases e), fun l _ hl hp => by
    have := (plOk_iff.1 (plO_iff.1 hp).1).1
    omega⟩
set_option maxHeartbeats 400000 in
set_option maxRecDepth 100000 in
theorem pdecode_all {w : World} {A : Option Addr} {c m : Nat} {b : List Nat} {t n : Int} (h : Reads w w.heap.size 1 A m (nums .u8 b)) (h8 : ∀ x ∈ b, x < 256) (hm : m ≤ 140737488351232) :
    Calls Try.prog 19 #[.int .i64 t, .slice A m c, .int .i64 n] w (PDec t b n w) := by
  by_cases hk : 0 ≤ t ∧ t ≤ 3 ∧ 0 ≤ n ∧ n ≤ 65536
  · obtain ⟨n, rfl⟩ := Int.eq_ofNat_of_zero_le hk.2.2.1
    by_cases h1 : t = 1
    · subst h1
      have KN := known_any (w := w) (t := 1) (n := (n : Int))
      rw [decide_eq_true hk] at KN
      have KN := Lib.hid KN
      have U := Lib.hid (unpackBools_any (c := c) (n := n) h h8 hm (by omega))
      have HI := Lib.hid (isPl_bits (n := (n : Int)) h8)
      clear h h8 hk
      generalize (unpackO b 1 (n : Int)).map (fun l => l.map bitC) = O at *
      go_enter Try.func19, Try.ntmps19
      go_wp2_with fail
      refine KN.out.mono ?_
      rintro e w1 ⟨rfl, rfl⟩
      go_wp2_with fail
      refine U.out.mono ?_
      intro e w2 h2
      cases O with
      | none =>
        obtain ⟨rfl, b2⟩ := h2
        go_wp2_with fail
        go_ret2
        exact ⟨none, HI.out, rfl, b2⟩
      | some l =>
        obtain ⟨A2, n2, c2, rfl, o2, b2⟩ := h2
        go_wp2_with fail
        go_ret2
        exact ⟨some l, HI.out, _, _, _, rfl, o2, b2⟩
    · exact pdecode_any h h8 hm (by omega) (by omega)
  · have KN := known_any (w := w) (t := t) (n := n)
    rw [decide_eq_false hk] at KN
    have KN := Lib.hid KN
    have HI := Lib.hid (isPl_no (b := b) hk)
    clear h h8 hk
    go_enter Try.func19, Try.ntmps19
    go_wp2_with fail
    refine KN.out.mono ?_
    rintro e w1 ⟨rfl, rfl⟩
    go_wp2_with fail
    go_ret2
    exact ⟨none, HI.out, rfl, New.refl _⟩

end Go.Proofs.Ytnghjkihdcmoiaa
/- The contract of law08.Few: are cells few? -/

namespace Go.Proofs.Ytnghjkihdcmoiaa
open Go.RowKit Go.Hm
/-- Whether cells are few; nothing at all is turned. -/
def FewP (l : List CellS) (w : World) (e : Ending) (w' : World) : Prop := ∃ b, e = .returned (.bool b) ∧ (b = true → l.length ≤ 300) ∧ w = w'
set_option maxHeartbeats 1000000 in
set_option maxRecDepth 100000 in
theorem fewP_any {w : World} {A : Option Addr} {n c : Nat} {l : List CellS} (h : Reads w w.heap.size 5 A n (recs cellV l)) (hL : ∀ y ∈ l, y.2.2.1.length ≤ 140737488351232) (hn : n ≤ 4611686018427387903) :
    Calls Try.prog 7 #[.slice A n c] w (FewP l w) := by
  obtain rfl := h.lenCell
  go_enter Try.func7, Try.ntmps7
  go_wp2
  go_loopw [3, 4] (fun v i wr => ∃ (k : Nat) (x : Int), i = .int .i64 (k : Int) ∧ v = .int .i64 x ∧ k ≤ l.length ∧ w = wr) (fun _ i _ => l.length - (intOf i).toNat)
  case atStart => exact ⟨0, 0, rfl, rfl, by omega, rfl⟩
  case round =>
    obtain ⟨k, x, rfl, rfl, hk, rfl⟩ := hrel
    by_cases hlt : k < l.length
    · obtain ⟨ad, rfl, hbk, d0, d1, d2, d3, d4⟩ := h.cell5 hlt
      have hx := hL (l.getD k (false, 0, [], 0, 0)) (by rw [List.getD_eq_getElem?_getD, List.getElem?_eq_getElem hlt]; exact List.getElem_mem hlt)
      generalize (l.getD k (false, 0, [], 0, 0)).2.2.1 = s2 at *
      have zs := bstr_size s2
      have hiz : (k : Int) < (l.length : Int) := by omega
      generalize hy : IntKind.i64.wrap (x + (s2.length : Int)) = y
      clear d0 d1 d3 d4
      go_wp2
      go_roundw
      case rel => exact ⟨k + 1, _, by go_num, rfl, by omega, trivial⟩
      case measure => simp [intOf]; omega
    · obtain rfl : k = l.length := by omega
      by_cases h3 : l.length ≤ 300
      · have t1 : decide ((l.length : Int) ≤ 300) = true := by simp; omega
        go_wp2
        go_ret
        exact ⟨_, rfl, fun _ => h3, rfl⟩
      · have t1 : decide ((l.length : Int) ≤ 300) = false := by simp; omega
        go_wp2
        go_ret
        exact ⟨_, rfl, fun hh => by simp at hh, rfl⟩

end Go.Proofs.Ytnghjkihdcmoiaa
