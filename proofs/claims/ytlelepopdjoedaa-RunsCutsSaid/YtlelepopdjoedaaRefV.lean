/- Contracts of the document's own answer for layer 4. -/
import Derived.Test.YtlelepopdjoedaaRefCur
import Derived.Test.YtlelepopdjoedaaVarG

namespace Go.Proofs.Ytlelepopdjoedaa
open Go.RowKit Go.Hm

set_option maxHeartbeats 400000 in
set_option maxRecDepth 100000 in
theorem rput_any {w : World} {A : Option Addr} {n c : Nat} {l : List Nat} (N : Nat) (hr : Reads w w.heap.size 1 A n (nums .u8 l)) (hn : n ≤ 140737488355200) (hN : N ≤ 18446744073709551615) :
    Calls Try.prog 23 #[.slice A n c, .int .u64 N] w (BytesPost (l ++ vp N) w) := by
  obtain rfl := hr.len
  have hsz := vp_len10 (n := N) (by omega)
  go_enter Try.func23, Try.ntmps23
  go_wp2_with (first
    | (refine wpList_pushesN elB rfl (.tmp 6) (.tmp 7) rfl (W := w) (B := w.heap.size) (k := .u8) (l := []) (l2 := l) (c2 := c) (Own.empty _ _) ((hr.alloc (Nat.le_refl _) _).more (by simp)) rfl rfl ((Below.refl _ _).alloc (Nat.le_refl _) _) (Nat.le_refl _) (by simp) (by omega) (by simp only [maxLen]; omega) ?_
       simp only [Nat.zero_add, List.nil_append]
       intro A1 c1 w1 _ _ o1 _ b1 _))
  go_loopw [1, 5] (PutRel w l N) (fun nv _ _ => (intOf nv).toNat)
  case atStart =>
    refine ⟨N, l, _, _, rfl, Nat.le_refl _, by omega, rfl, rfl, o1, b1⟩
  case round =>
    obtain ⟨N', D, A', c', rfl, hN', hD, rfl, hDN, hown, hb⟩ := hrel
    have hb0 := hb.size
    by_cases hlt : N' < 128
    · go_wp2_with (first
        | (refine wpList_pushN elB rfl (.tmp 20) (.tmp 23) rfl (W := w) (B := w.heap.size) hown rfl rfl N' rfl hb (Nat.le_refl _) (by omega) (by omega) (by simp only [maxLen]; omega) ?_
           intro A3 c3 w3 _ _ hown3 hg3 hb3 _ _))
      go_ret
      rw [vp_lt hlt] at hDN
      rw [hDN] at hown3
      exact ⟨_, _, _, rfl, hown3, hb3⟩
    · have hv := vp_ge hlt
      have Hv := Lib.hid hv
      clear hv
      go_wp2_with (first
        | (refine wpList_pushN elB rfl (.tmp 11) (.tmp 16) rfl (W := w) (B := w.heap.size) hown rfl rfl (N' % 128 + 128) (by go_num) hb (Nat.le_refl _) (by omega) (by omega) (by simp only [maxLen]; omega) ?_
           intro A3 c3 w3 _ _ hown3 hg3 hb3 _ _))
      go_roundw
      case rel =>
        have hv' := Hv.out
        rw [hv', List.length_cons] at hD
        exact ⟨N' / 128, D ++ [N' % 128 + 128], A3, c3, by go_num, by omega, by simp; omega, by simp, by rw [← hDN, hv']; simp, by simpa using hown3, hb3⟩
      case measure => simp [intOf]; omega




def RGet (B g : Nat) (l : List Nat) (w : World) (e : Ending) (w' : World) : Prop :=
  (∃ N r, l = vp N ++ r ∧ N < 18446744073709551616 ∧ e = .returned (.int .u64 (N : Int)) ∧ RCur w' B g r false ∧ w.grownBy w' (some g)) ∨
  ((∀ N r, l = vp N ++ r → 18446744073709551616 ≤ N) ∧ e = .returned (.int .u64 0) ∧ RCur w' B g [] true ∧ w.grownBy w' (some g))

theorem ror_step2 {k v b : Nat} (hv : v < 128 ^ k) (hk : k ≤ 8 ∨ (k ≤ 9 ∧ b % 128 ≤ 1)) :
    IntKind.u64.wrap ((v : Int) + IntKind.u64.wrap ((b : Int) % 128 * 2 ^ (7 * k))) = ((v + 128 ^ k * (b % 128) : Nat) : Int) := by
  have hf := VIn.fits hv (b := b % 128) (by omega) hk
  have e0 : 128 ^ k * (b % 128) = b % 128 * 2 ^ (7 * k) := by rw [pow128, Nat.mul_comm]
  have e2 : (b : Int) % 128 * 2 ^ (7 * k) = ((b % 128 * 2 ^ (7 * k) : Nat) : Int) := by simp
  rw [e0] at hf ⊢
  rw [e2, IntKind.wrap_u64, IntKind.wrap_u64]
  generalize b % 128 * 2 ^ (7 * k) = z at *
  omega

set_option maxHeartbeats 2000000 in
set_option maxRecDepth 100000 in
theorem rget_any {w : World} {B g : Nat} {l : List Nat} (h : RCur w B g l false) :
    Calls Try.prog 33 #[.pointer (some ⟨g, 0, none⟩)] w (RGet B g l w) := by
  go_enter Try.func33, Try.ntmps33
  go_wp2
  go_loopw [3, 4, 5] (fun v i _ wr => ∃ (k x : Nat) (rl : List Nat), i = .int .i64 (k : Int) ∧ k ≤ 9 ∧ v = .int .u64 (x : Int) ∧ VIn l k x rl ∧ RCur wr B g rl false ∧ w.grownBy wr (some g)) (fun _ i _ _ => 100 - (intOf i).toNat)
  case atStart => exact ⟨0, 0, l, rfl, by omega, rfl, VIn.zero l, h, Far.refl g w⟩
  case round =>
    obtain ⟨k, x, rl, rfl, hk, rfl, hV, hC, hg⟩ := hrel
    have HV := Lib.hid hV
    cases rl with
    | nil =>
      clear hV
      have B0 := Lib.hid (rtake_bad (n := 1) hC (.inr (.inr (by simp))) (by omega) (by omega))
      go_wp2_with (first
        | (go_at_call 35; refine B0.out.mono ?_; rintro e w1 ⟨rfl, C1, g1⟩))
      go_ret
      exact .inr ⟨HV.out.not_nil, rfl, C1, Far.trans hg g1⟩
    | cons b rl =>
      have hb8 : b < 256 := hC.lt8 b (by simp)
      have B0 := Lib.hid (show Calls Try.prog 35 #[.pointer (some ⟨g, 0, none⟩), .int .i64 1] _ (RTake B g (b :: rl) 1 _) from rtake_good (n := 1) hC (by simp) (by omega))
      have hx := hV.1
      clear hV
      by_cases hz : 0 < k ∧ b = 0
      · obtain ⟨hz, rfl⟩ := hz
        go_wp2_with (first
          | (go_at_call 35; refine B0.out.mono ?_; rintro e w1 ⟨A1, c1, rfl, k1, C1, g1⟩
             obtain ⟨ad, rfl, _, hcell⟩ := k1.reads.num (i := 0) (by omega)
             simp only [List.take_succ_cons, List.getD_cons_zero, add_zero'] at hcell
             have hF := Lib.hid (rfail_any C1))
          | (go_at_call 52; refine hF.out.mono ?_; rintro e w2 ⟨rfl, C2, g2⟩))
        all_goals first
          | (exfalso; omega)
          | (go_ret
             exact .inr ⟨HV.out.not_zero hz, rfl, C2, Far.trans hg (Far.trans g1 g2)⟩)
      · by_cases h9 : k = 9
        · subst h9
          by_cases hb1 : 1 < b
          · have hbb : ((b : Int) == 0) = false := by simp; omega
            go_wp2_with (first
              | (go_at_call 35; refine B0.out.mono ?_; rintro e w1 ⟨A1, c1, rfl, k1, C1, g1⟩
                 obtain ⟨ad, rfl, _, hcell⟩ := k1.reads.num (i := 0) (by omega)
                 simp only [List.take_succ_cons, List.getD_cons_zero, add_zero'] at hcell
                 have hF := Lib.hid (rfail_any C1))
              | (go_at_call 52; refine hF.out.mono ?_; rintro e w2 ⟨rfl, C2, g2⟩))
            all_goals first
              | (exfalso; omega)
              | (go_ret
                 exact .inr ⟨HV.out.not_big hb1, rfl, C2, Far.trans hg (Far.trans g1 g2)⟩)
          · obtain rfl : b = 1 := by omega
            have HO := ror_step2 hx (b := 1) (.inr ⟨by omega, by omega⟩)
            rw [show ((1 : Nat) : Int) % 128 * (2 : Int) ^ (7 * 9) = 9223372036854775808 from by decide] at HO
            go_wp2_with (first
              | (go_at_call 35; refine B0.out.mono ?_; rintro e w1 ⟨A1, c1, rfl, k1, C1, g1⟩
                 obtain ⟨ad, rfl, _, hcell⟩ := k1.reads.num (i := 0) (by omega)
                 simp only [List.take_succ_cons, List.getD_cons_zero, add_zero'] at hcell))
            go_ret
            exact .inl ⟨x + 128 ^ 9 * 1, rl, HV.out.done (by omega) (.inr (by omega)), VIn.fits hx (by omega) (.inr ⟨by omega, by omega⟩), by simp, C1, Far.trans hg g1⟩
        · have HO := ror_step2 hx (b := b) (.inl (by omega))
          go_wp2_with (first
            | (go_at_call 35; refine B0.out.mono ?_; rintro e w1 ⟨A1, c1, rfl, k1, C1, g1⟩
               obtain ⟨ad, rfl, _, hcell⟩ := k1.reads.num (i := 0) (by omega)
               simp only [List.take_succ_cons, List.getD_cons_zero, add_zero'] at hcell))
          all_goals first
            | (exfalso; omega)
            | (go_ret
               exact .inl ⟨x + 128 ^ k * b, rl, HV.out.done (by omega) (by omega), VIn.fits hx (by omega) (.inl (by omega)), by rw [show ((b : Int) % 128) = (b : Int) from by omega]; simp, C1, Far.trans hg g1⟩)
            | (go_roundw
               case rel => exact ⟨k + 1, x + 128 ^ k * (b - 128), rl, by go_num, by omega, by rw [show ((b : Int) % 128) = ((b - 128 : Nat) : Int) from by omega]; simp, HV.out.step (by omega) hb8, C1, Far.trans hg g1⟩
               case measure => simp [intOf]; omega)

set_option maxHeartbeats 1000000 in
theorem rget_bad {w : World} {B g : Nat} {l : List Nat} (h : RCur w B g l true) :
    Calls Try.prog 33 #[.pointer (some ⟨g, 0, none⟩)] w (RPost (.returned (.int .u64 0)) B g [] true w) := by
  have B0 := Lib.hid (rtake_bad (n := 1) h (.inl rfl) (by omega) (by omega))
  go_enter Try.func33, Try.ntmps33
  go_wp2
  refine wp_loop_rounds 1 ?_
  rw [rounds_succ]
  go_wp2_with (first
    | (go_at_call 35; refine B0.out.mono ?_; rintro e w1 ⟨rfl, C1, g1⟩))
  go_ret
  exact ⟨rfl, C1, g1⟩

theorem rget_app {w : World} {B g N : Nat} {r : List Nat} (h : RCur w B g (vp N ++ r) false) (hN : N < 18446744073709551616) :
    Calls Try.prog 33 #[.pointer (some ⟨g, 0, none⟩)] w (RPost (.returned (.int .u64 (N : Int))) B g r false w) :=
  (rget_any h).mono fun e w' hp => by
    rcases hp with ⟨M, s, h1, h2, h3, h4, h5⟩ | ⟨h1, _⟩
    · obtain ⟨rfl, rfl⟩ := vp_app_inj N N M r s (Nat.le_refl _) h1
      exact ⟨h3, h4, h5⟩
    · have := h1 N r rfl
      omega
theorem rget_no {w : World} {B g : Nat} {l : List Nat} {bad : Bool} (h : RCur w B g l bad) (hN : bad = true ∨ ∀ N r, l = vp N ++ r → 18446744073709551616 ≤ N) :
    Calls Try.prog 33 #[.pointer (some ⟨g, 0, none⟩)] w (RPost (.returned (.int .u64 0)) B g [] true w) := by
  cases bad with
  | true => exact rget_bad h
  | false =>
    refine (rget_any h).mono fun e w' hp => ?_
    rcases hp with ⟨M, s, h1, h2, h3, h4, h5⟩ | ⟨h1, h2, h3, h4⟩
    · rcases hN with hN | hN
      · simp at hN
      · have := hN M s h1
        omega
    · exact ⟨h2, h3, h4⟩

set_option maxHeartbeats 400000 in
theorem rlen_app {w : World} {B g N : Nat} {r : List Nat} {m : Int} (h : RCur w B g (vp N ++ r) false) (hN : (N : Int) ≤ m) (hm : m ≤ 9223372036854775807) :
    Calls Try.prog 32 #[.pointer (some ⟨g, 0, none⟩), .int .i64 m] w (RPost (.returned (.int .i64 (N : Int))) B g r false w) := by
  have G := Lib.hid (rget_app h (by omega))
  go_enter Try.func32, Try.ntmps32
  go_wp2_with (go_at_call 33; refine G.out.mono ?_; rintro e w1 ⟨rfl, C1, g1⟩
               obtain ⟨A1, c1, hB, _⟩ := id C1
               have q1 := hB.cell 1
               simp at q1)
  go_ret
  exact ⟨rfl, C1, g1⟩
set_option maxHeartbeats 400000 in
theorem rlen_no {w : World} {B g : Nat} {l : List Nat} {bad : Bool} {m : Int} (h : RCur w B g l bad) (hN : bad = true ∨ ∀ N r, l = vp N ++ r → m < N) (hm0 : -9223372036854775808 ≤ m) (hm : m ≤ 9223372036854775807) :
    Calls Try.prog 32 #[.pointer (some ⟨g, 0, none⟩), .int .i64 m] w (RPost (.returned (.int .i64 0)) B g [] true w) := by
  by_cases hG : bad = true ∨ ∀ N r, l = vp N ++ r → 18446744073709551616 ≤ N
  · have G := Lib.hid (rget_no h hG)
    clear hG hN
    go_enter Try.func32, Try.ntmps32
    go_wp2_with (first
      | (go_at_call 33; refine G.out.mono ?_; rintro e w1 ⟨rfl, C1, g1⟩
         have hF := Lib.hid (rfail_any C1)
         obtain ⟨A1, c1, hB, _⟩ := id C1
         have q1 := hB.cell 1
         simp at q1)
      | (go_at_call 52; refine hF.out.mono ?_; rintro e w2 ⟨rfl, C2, g2⟩))
    go_ret
    exact ⟨rfl, C2, Far.trans g1 g2⟩
  · simp only [not_or, Classical.not_forall] at hG
    obtain ⟨hb, N, r, rfl, hlt⟩ := hG
    have hb' : bad = false := by simpa using hb
    subst hb'
    have hmN : m < N := by rcases hN with hN | hN; exact absurd hN hb; exact hN N r rfl
    have G := Lib.hid (rget_app h (by omega))
    clear hN hb
    go_enter Try.func32, Try.ntmps32
    by_cases hm1 : m < 0
    · go_wp2_with (first
        | (go_at_call 33; refine G.out.mono ?_; rintro e w1 ⟨rfl, C1, g1⟩
           have hF := Lib.hid (rfail_any C1)
           obtain ⟨A1, c1, hB, _⟩ := id C1
           have q1 := hB.cell 1
           simp at q1)
        | (go_at_call 52; refine hF.out.mono ?_; rintro e w2 ⟨rfl, C2, g2⟩))
      go_ret
      exact ⟨rfl, C2, Far.trans g1 g2⟩
    · go_wp2_with (first
        | (go_at_call 33; refine G.out.mono ?_; rintro e w1 ⟨rfl, C1, g1⟩
           have hF := Lib.hid (rfail_any C1)
           obtain ⟨A1, c1, hB, _⟩ := id C1
           have q1 := hB.cell 1
           simp at q1)
        | (go_at_call 52; refine hF.out.mono ?_; rintro e w2 ⟨rfl, C2, g2⟩))
      go_ret
      exact ⟨rfl, C2, Far.trans g1 g2⟩

end Go.Proofs.Ytlelepopdjoedaa
