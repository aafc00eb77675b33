/- Unpacking: the package bitpack and its answer. -/
import Derived.Test.YtlelepopdjoedaaPackB
import Derived.Test.YtlelepopdjoedaaUnpackM
import Derived.Outline

namespace Go.Proofs.Ytlelepopdjoedaa
open Go.RowKit Go.Hm

theorem optW_if {c : Prop} [Decidable c] {l : List Nat} {w w' : World} {e : Ending} (h : (c → OptW (some l) w e w') ∧ (¬ c → OptW none w e w')) : OptW (if c then some l else none) w e w' := by
  split
  · exact h.1 ‹_›
  · exact h.2 ‹_›

set_option maxHeartbeats 1000000 in
theorem unpack_good {w : World} {A : Option Addr} {m c : Nat} {b : List Nat} (x n : Nat) (h : Reads w w.heap.size 1 A m (nums .u8 b)) (h8 : ∀ x ∈ b, x < 256) (hx : x ≤ 64) (hn : n ≤ 65536) (hm : b.length = (x * n + 7) / 8) (hN : num b < 2 ^ (x * n)) :
    Calls Try.prog 47 #[.slice A m c, .int .i64 (x : Int), .int .i64 (n : Int)] w (OptW (some (unpk x n (num b))) w) := by
  obtain rfl := h.len
  have B1 := Lib.hid (bytes_anyN x n w hx hn)
  rw [← hm] at B1
  have hp : x * n ≤ 64 * 65536 := Nat.mul_le_mul hx hn
  obtain ⟨M, hM⟩ : ∃ M, M = x * n := ⟨_, rfl⟩
  rw [← hM] at hp hN hm
  have hMI : (x : Int) * (n : Int) = (M : Int) := by rw [hM, Int.natCast_mul]
  have NL := (num_last b h8 M (M % 8) hm rfl).1 hN
  obtain ⟨q, r, hqr, q1, q2, q3, d1, d2⟩ := eighths M (by omega)
  rw [← hqr.out.2] at NL
  have hl1 : b.length ≤ 524288 := by omega
  have hl2 : M ≤ 8 * b.length := by omega
  have HM := Lib.hid hM
  have Hm := Lib.hid hm
  clear hM hm hN d1
  by_cases hr : r = 0
  all_goals first
    | (subst hr
       clear NL)
    | (have hl0 : b.length - 1 < b.length := by have := Hm.out; have := hqr.out.2; omega
       obtain ⟨ad, rfl, hbl, hcell⟩ := h.num hl0
       have hr0 : (0 : Int) < (r : Int) := by omega
       have hlI : (1 : Int) ≤ (b.length : Int) := by omega
       have hL := NL.resolve_left hr
       generalize b.getD (b.length - 1) 0 = y at *
       have hz : ((y : Int) / 2 ^ r != 0) = false := by
         have e : ((y : Int) / 2 ^ r) = ((y / 2 ^ r : Nat) : Int) := by simp
         rw [e, hL]; rfl
       clear NL hL hr)
  all_goals
    go_enter Try.func47, Try.ntmps47
    go_wp2_with (first
      | (go_at_call 49; refine B1.out.mono ?_; rintro e w1 ⟨rfl, rfl⟩)
      | (refine wpList_mk elW rfl (.tmp 36) (.tmp 36) rfl (W := w) (B := w.heap.size) n n rfl rfl rfl rfl (by omega) (Below.refl _ _) (Nat.le_refl _) rfl (by omega) (by simp only [maxLen]; omega) ?_
         intro w1 hown1 hg1 hb1 hs1))
    go_loopw [10, 39] (fun a i wr => ∃ k m : Nat, k ≤ n ∧ m = x * k ∧ i = .int .i64 (k : Int) ∧ a = .int .i64 (m : Int) ∧ Own wr w.heap.size 34 (.slice (some ⟨w.heap.size, 0, none⟩) n n) (nums .u64 (unpk x k (num b) ++ List.replicate (n - k) 0)) ∧ Below w.heap.size w wr) (fun _ i _ => n - (intOf i).toNat)
    case atStart => exact ⟨0, 0, by omega, rfl, rfl, rfl, by simpa [unpk, nums_replicate] using hown1, hb1⟩
    case round =>
      obtain ⟨k, m, hk, hm, rfl, rfl, hown, hb⟩ := hrel
      by_cases hlt : k < n
      · rw [ul_zero x k (num b) n hlt] at hown
        have hmx : m + x ≤ M := by
          have h1 : x * (k + 1) ≤ x * n := Nat.mul_le_mul_left _ hlt
          rw [Nat.mul_succ] at h1
          have := HM.out
          omega
        have Hm := Lib.hid hm
        clear hm
        go_wp2
        obtain ⟨wo, rfl⟩ : ∃ wo : World, wo = wr := ⟨_, rfl⟩
        go_loopw [10, 43] (fun a i wr => ∃ j m' : Nat, j ≤ x ∧ m' = m + j ∧ i = .int .i64 (j : Int) ∧ a = .int .i64 (m' : Int) ∧ Own wr w.heap.size 34 (.slice (some ⟨w.heap.size, 0, none⟩) n n) (nums .u64 (ul x k j (num b) n)) ∧ Below w.heap.size w wr) (fun _ i _ => x - (intOf i).toNat)
        case atStart => exact ⟨0, m, by omega, rfl, rfl, rfl, hown, hb⟩
        case round =>
          obtain ⟨j, m', hj, hm', rfl, rfl, hown, hb⟩ := hrel
          by_cases hlj : j < x
          · have hm8 : m' < 8 * b.length := by omega
            obtain ⟨q, r, hqr, q1, q2, q3, d1, d2⟩ := eighths m' (by omega)
            obtain ⟨hg0, hgl, hc, hf, hset⟩ := hown.num0 (i := k) hlt
            have Hm' := Lib.hid hm'
            have Hset := Lib.hid hset
            clear hm' hset
            obtain ⟨ad1, e1, hbl1, hcb⟩ := (h.below hb).num (i := q) (by omega)
            first | (subst e1; skip) | (injection e1 with e1; subst e1)
            obtain ⟨t, ht⟩ : ∃ t, t = num b / 2 ^ m' % 2 := ⟨_, rfl⟩
            have hbit := bit_at b h8 m' q r hqr.out hm8
            have ht1 : t ≤ 1 := by omega
            have S := ul_step x k j (num b) n m' t (by rw [Hm'.out, Hm.out]) ht
            rw [ul_getD] at hc
            rw [← ht] at hbit
            have hv : num b / 2 ^ (x * k) % 2 ^ j < 2 ^ j := Nat.mod_lt _ (Nat.two_pow_pos _)
            generalize num b / 2 ^ (x * k) % 2 ^ j = v at *
            have hy := getD_lt b q h8
            generalize b.getD q 0 = y at *
            have O := or_bit64 v j t hv ht1 (by omega)
            obtain ⟨z, hz⟩ : ∃ z, z = v + t * 2 ^ j := ⟨_, rfl⟩
            rw [← hz] at O S
            have T1 := and_bit8 y r t hy hbit.symm
            have T2 : IntKind.u64.wrap (t : Int) = (t : Int) := by rw [IntKind.wrap_u64]; omega
            have HS := Lib.hid S
            have hq4 : (q : Int) < (b.length : Int) := by omega
            have hq5 : (0 : Int) ≤ (q : Int) := by omega
            have hq6 : (k : Int) < (n : Int) := by omega
            have hq7 : (0 : Int) ≤ (k : Int) := by omega
            clear S hz ht hbit hv
            go_wp2
            go_still_tail 18, (by kernel_rfl)
            go_wp2
            go_roundw
            case rel => exact ⟨j + 1, m' + 1, by omega, by have := Hm'.out; omega, by go_num, by go_num, by rw [← HS.out]; exact Hset.out z, by first | exact (hb.drew).setCell hg0 _ | exact hb.setCell hg0 _⟩
            case measure => simp [intOf]; omega
          · obtain rfl : j = x := by omega
            rw [ul_all] at hown
            go_wp2
            go_roundw
            case rel => exact ⟨k + 1, m', by omega, by rw [hm', Hm.out, Nat.mul_succ], by go_num, rfl, hown, hb⟩
            case measure => simp [intOf]; omega
      · obtain rfl : k = n := by omega
        rw [Nat.sub_self, List.replicate_zero, List.append_nil] at hown
        go_wp2
        go_ret2
        exact ⟨_, _, _, rfl, hown, hb⟩

set_option maxHeartbeats 1000000 in
theorem unpack_bad {w : World} {A : Option Addr} {m c : Nat} {b : List Nat} (x n : Int) (h : Reads w w.heap.size 1 A m (nums .u8 b)) (h8 : ∀ x ∈ b, x < 256) (hm : m ≤ 9223372036854775807) (hx0 : -9223372036854775808 ≤ x) (hx : x ≤ 9223372036854775807) (hn0 : -9223372036854775808 ≤ n) (hn : n ≤ 9223372036854775807)
    (hb : ¬ (0 ≤ x ∧ x ≤ 64 ∧ 0 ≤ n ∧ n ≤ 65536 ∧ b.length = (x.toNat * n.toNat + 7) / 8 ∧ num b < 2 ^ (x.toNat * n.toNat))) :
    Calls Try.prog 47 #[.slice A m c, .int .i64 x, .int .i64 n] w (OptW none w) := by
  obtain rfl := h.len
  have B1 := Lib.hid (bytes_any x n w hx0 hx hn0 hn)
  by_cases hs : (b.length : Int) = nby x n
  · have hg : 0 ≤ x ∧ x ≤ 64 ∧ 0 ≤ n ∧ n ≤ 65536 := by
      unfold nby at hs
      split at hs <;> omega
    obtain ⟨x, rfl⟩ := Int.eq_ofNat_of_zero_le hg.1
    obtain ⟨n, rfl⟩ := Int.eq_ofNat_of_zero_le hg.2.2.1
    rw [nby_nat x n (by omega) (by omega)] at hs B1
    have hs' : b.length = (x * n + 7) / 8 := by omega
    rw [← hs'] at B1
    obtain ⟨M, hM⟩ : ∃ M, M = x * n := ⟨_, rfl⟩
    have hp : x * n ≤ 64 * 65536 := Nat.mul_le_mul (by omega) (by omega)
    have hN : ¬ num b < 2 ^ M := by
      intro hN
      refine hb ⟨by omega, by omega, by omega, by omega, ?_, ?_⟩
      · simpa using hs'
      · simpa [← hM] using hN
    rw [← hM] at hp hs'
    have hMI : (x : Int) * (n : Int) = (M : Int) := by rw [hM, Int.natCast_mul]
    obtain ⟨q, r, hqr, q1, q2, q3, d1, d2⟩ := eighths M (by omega)
    have NL := (not_congr (num_last b h8 M r hs' hqr.out.2)).1 hN
    have hM8 := hqr.out.2
    have hr : ¬ r = 0 := fun e => NL (.inl e)
    have hL : ¬ b.getD (b.length - 1) 0 / 2 ^ r = 0 := fun e => NL (.inr e)
    have hl0 : b.length - 1 < b.length := by omega
    obtain ⟨ad, rfl, hbl, hcell⟩ := h.num hl0
    have hr0 : (0 : Int) < (r : Int) := by omega
    have hlI : (1 : Int) ≤ (b.length : Int) := by omega
    generalize b.getD (b.length - 1) 0 = y at *
    have hz : ((y : Int) / 2 ^ r != 0) = true := by
      have e : ((y : Int) / 2 ^ r) = ((y / 2 ^ r : Nat) : Int) := by simp
      rw [e, bne_iff_ne]; omega
    clear NL hL hr hM8 hN hs' hb hg hs d1
    have HM := Lib.hid hM
    clear hM
    go_enter Try.func47, Try.ntmps47
    go_wp2_with (first
      | (go_at_call 49; refine B1.out.mono ?_; rintro e w1 ⟨rfl, rfl⟩))
    go_ret2
    exact ⟨rfl, Below.refl _ _⟩
  · have hs1 : ((b.length : Int) != nby x n) = true := by rw [bne_iff_ne]; exact hs
    generalize nby x n = B at *
    clear hs hb
    go_enter Try.func47, Try.ntmps47
    go_wp2_with (first
      | (go_at_call 49; refine B1.out.mono ?_; rintro e w1 ⟨rfl, rfl⟩))
    go_ret2
    exact ⟨rfl, Below.refl _ _⟩
theorem unpack_any {w : World} {A : Option Addr} {m c : Nat} {b : List Nat} (x n : Int) (h : Reads w w.heap.size 1 A m (nums .u8 b)) (h8 : ∀ x ∈ b, x < 256) (hm : m ≤ 9223372036854775807) (hx0 : -9223372036854775808 ≤ x) (hx : x ≤ 9223372036854775807) (hn0 : -9223372036854775808 ≤ n) (hn : n ≤ 9223372036854775807) :
    Calls Try.prog 47 #[.slice A m c, .int .i64 x, .int .i64 n] w (OptW (unpackO b x n) w) := by
  unfold unpackO
  split
  · rename_i hg
    obtain ⟨x, rfl⟩ := Int.eq_ofNat_of_zero_le hg.1
    obtain ⟨n, rfl⟩ := Int.eq_ofNat_of_zero_le hg.2.2.1
    simp only [Int.toNat_natCast] at hg ⊢
    exact unpack_good x n h h8 (by omega) (by omega) hg.2.2.2.2.1 hg.2.2.2.2.2
  · rename_i hg
    exact unpack_bad x n h h8 hm hx0 hx hn0 hn hg

set_option maxHeartbeats 1000000 in
theorem runpack_if {w : World} {A : Option Addr} {m c : Nat} {b : List Nat} (x n : Nat) (h : Reads w w.heap.size 1 A m (nums .u8 b)) (h8 : ∀ x ∈ b, x < 256) (hx : x ≤ 64) (hn : n ≤ 65536) (hm : b.length = (x * n + 7) / 8) :
    Calls Try.prog 37 #[.slice A m c, .int .i64 (x : Int), .int .i64 (n : Int)] w (OptW (if num b < 2 ^ (x * n) then some (unpk x n (num b)) else none) w) := by
  obtain rfl := h.len
  have B1 := Lib.hid (rbytes_anyN x n w hx hn)
  rw [← hm] at B1
  have hp : x * n ≤ 64 * 65536 := Nat.mul_le_mul hx hn
  obtain ⟨M, hM⟩ : ∃ M, M = x * n := ⟨_, rfl⟩
  rw [← hM] at hp hm ⊢
  have hMI : (x : Int) * (n : Int) = (M : Int) := by rw [hM, Int.natCast_mul]
  have hl1 : b.length ≤ 524288 := by omega
  have hl2 : M ≤ 8 * b.length := by omega
  have HM := Lib.hid hM
  have Hm := Lib.hid hm
  clear hM hm
  generalize hO : (if num b < 2 ^ M then some (unpk x n (num b)) else none) = o
  have HO := Lib.hid hO
  clear hO
  go_enter Try.func37, Try.ntmps37
  go_wp2_with (first
    | (go_at_call 36; refine B1.out.mono ?_; rintro e w1 ⟨rfl, rfl⟩)
    | (refine wpList_mk elW rfl (.tmp 23) (.tmp 23) rfl (W := w) (B := w.heap.size) n n rfl rfl rfl rfl (by omega) (Below.refl _ _) (Nat.le_refl _) rfl (by omega) (by simp only [maxLen]; omega) ?_
       intro w1 hown1 hg1 hb1 hs1))
  go_loopw [10] (fun i wr => ∃ a : Nat, a ≤ 8 * b.length ∧ i = .int .i64 (a : Int) ∧ num b % 2 ^ a < 2 ^ M ∧ Own wr w.heap.size 34 (.slice (some ⟨w.heap.size, 0, none⟩) n n) (nums .u64 (unpk x n (num b % 2 ^ a))) ∧ Below w.heap.size w wr) (fun i _ => 8 * b.length - (intOf i).toNat)
  case atStart => exact ⟨0, by omega, rfl, by rw [Nat.pow_zero, Nat.mod_one]; exact Nat.two_pow_pos _, by simpa [Nat.mod_one, unpk_zero, nums_replicate] using hown1, hb1⟩
  case round =>
    obtain ⟨a, ha, rfl, hlo, hown, hb⟩ := hrel
    by_cases hlt : a < 8 * b.length
    · obtain ⟨q, r, hqr, q1, q2, q3, d1, d2⟩ := eighths a (by omega)
      obtain ⟨ad, rfl, hbl, hcb⟩ := (h.below hb).num (i := q) (by omega)
      obtain ⟨t, ht⟩ : ∃ t, t = num b / 2 ^ a % 2 := ⟨_, rfl⟩
      have hbit := bit_at b h8 a q r hqr.out hlt
      have ht1 : t ≤ 1 := by omega
      rw [← ht] at hbit
      have hy := getD_lt b q h8
      have hs := mod_succ_pow (num b) a
      rw [← ht, Nat.mul_comm] at hs
      generalize b.getD q 0 = y at *
      have hT : ((y : Int) / 2 ^ r).tmod 2 = (t : Int) := by
        have e : ((y : Int) / 2 ^ r) = ((y / 2 ^ r : Nat) : Int) := by simp
        rw [e]
        clear e
        generalize y / 2 ^ r = g at *
        rw [Int.tmod_eq_emod_of_nonneg (by omega)]
        omega
      obtain ⟨rfl, rfl⟩ := hqr.out
      by_cases h1 : t = 1
      · subst h1
        by_cases haM : M ≤ a
        · have hno : ¬ num b < 2 ^ M := by
            intro hh
            have h2 : 2 ^ M ≤ 2 ^ a := Nat.pow_le_pow_right (by omega) haM
            rw [Nat.div_eq_of_lt (by omega)] at ht
            omega
          have hO := HO.out
          rw [if_neg hno] at hO
          subst hO
          clear hno HO ht hbit hs hlo
          go_wp2
          go_ret2
          exact ⟨rfl, hb⟩
        · have hx0 : 0 < x := by
            rcases Nat.eq_zero_or_pos x with e | e
            · have := HM.out; rw [e, Nat.zero_mul] at this; omega
            · exact e
          have S := unpk_set x n (num b % 2 ^ a) a 1 hx0 (by rw [← HM.out]; omega) (Nat.mod_lt _ (Nat.two_pow_pos _)) (by omega)
          have hqn : a / x < n := Nat.div_lt_of_lt_mul (by rw [← HM.out]; omega)
          have hrx : a % x < x := Nat.mod_lt _ hx0
          obtain ⟨hg0, hgl, hc, hf, hset⟩ := hown.num0 (i := a / x) hqn
          have D1 := divN a x (by omega)
          have D2 : (a : Int).tmod (x : Int) = ((a % x : Nat) : Int) := by rw [Int.tmod_eq_emod_of_nonneg (by omega), ← Int.natCast_emod]
          generalize (unpk x n (num b % 2 ^ a)).getD (a / x) 0 = v at *
          generalize a / x = q2 at *
          generalize a % x = r2 at *
          have O := or_bit64 v r2 1 S.2 (by omega) (by omega)
          rw [show ((1 : Nat) : Int) = 1 from rfl, Int.one_mul] at O
          obtain ⟨z, hz⟩ : ∃ z, z = v + 1 * 2 ^ r2 := ⟨_, rfl⟩
          rw [← hz] at O S
          rw [← hs] at S
          have HS := Lib.hid S.1
          have Hset := Lib.hid hset
          have hlo2 : num b % 2 ^ (a + 1) < 2 ^ M := by
            have h2 : 2 ^ (a + 1) ≤ 2 ^ M := Nat.pow_le_pow_right (by omega) (by omega)
            have := Nat.mod_lt (num b) (Nat.two_pow_pos (a + 1))
            omega
          have Hlo := Lib.hid hlo2
          have hq4 : (q2 : Int) < (n : Int) := by omega
          have hq5 : (0 : Int) ≤ (q2 : Int) := by omega
          have hx1 : ((x : Int) == 0) = false := by rw [beq_eq_false_iff_ne]; omega
          have hx2 : ¬ (x : Int) = 0 := by omega
          have hx3 : ¬ x = 0 := by omega
          have hr64 : min r2 64 = r2 := by omega
          clear S hset hz hs ht hbit hlo hlo2
          go_wp2
          go_still_tail 17, (by kernel_rfl)
          go_wp2
          go_roundw
          case rel => exact ⟨a + 1, by omega, by go_num, Hlo.out, by rw [← HS.out]; exact Hset.out z, by first | exact (hb.drew).setCell hg0 _ | exact hb.setCell hg0 _⟩
          case measure => simp [intOf]; omega
      · obtain rfl : t = 0 := by omega
        have hs : num b % 2 ^ (a + 1) = num b % 2 ^ a := by omega
        rw [← hs] at hown hlo
        have Hlo := Lib.hid hlo
        clear ht hbit hs hlo
        go_wp2
        go_roundw
        case rel => exact ⟨a + 1, by omega, by go_num, Hlo.out, hown, hb⟩
        case measure => simp [intOf]; omega
    · obtain rfl : a = 8 * b.length := by omega
      have hbl := num_lt b h8
      rw [p256] at hbl
      rw [Nat.mod_eq_of_lt hbl] at hown hlo
      have hO := HO.out
      rw [if_pos hlo] at hO
      subst hO
      clear hlo HO
      go_wp2
      go_ret2
      exact ⟨_, _, _, rfl, hown, hb⟩

set_option maxHeartbeats 1000000 in
theorem runpack_bad {w : World} {A : Option Addr} {m c : Nat} {b : List Nat} (x n : Int) (h : Reads w w.heap.size 1 A m (nums .u8 b)) (hm : m ≤ 9223372036854775807) (hx0 : -9223372036854775808 ≤ x) (hx : x ≤ 9223372036854775807) (hn0 : -9223372036854775808 ≤ n) (hn : n ≤ 9223372036854775807)
    (hs : ¬ (b.length : Int) = nby x n) :
    Calls Try.prog 37 #[.slice A m c, .int .i64 x, .int .i64 n] w (OptW none w) := by
  obtain rfl := h.len
  have B1 := Lib.hid (rbytes_any x n w hx0 hx hn0 hn)
  generalize nby x n = B at *
  by_cases h0 : B < 0
  · clear hs
    go_enter Try.func37, Try.ntmps37
    go_wp2_with (first
      | (go_at_call 36; refine B1.out.mono ?_; rintro e w1 ⟨rfl, rfl⟩))
    go_ret2
    exact ⟨rfl, Below.refl _ _⟩
  · have hs1 : (B != (b.length : Int)) = true := by rw [bne_iff_ne]; exact fun e => hs e.symm
    have h1 : decide (B < 0) = false := by simpa using h0
    clear hs
    go_enter Try.func37, Try.ntmps37
    go_wp2_with (first
      | (go_at_call 36; refine B1.out.mono ?_; rintro e w1 ⟨rfl, rfl⟩))
    go_ret2
    exact ⟨rfl, Below.refl _ _⟩
theorem runpack_any {w : World} {A : Option Addr} {m c : Nat} {b : List Nat} (x n : Int) (h : Reads w w.heap.size 1 A m (nums .u8 b)) (h8 : ∀ x ∈ b, x < 256) (hm : m ≤ 9223372036854775807) (hx0 : -9223372036854775808 ≤ x) (hx : x ≤ 9223372036854775807) (hn0 : -9223372036854775808 ≤ n) (hn : n ≤ 9223372036854775807) :
    Calls Try.prog 37 #[.slice A m c, .int .i64 x, .int .i64 n] w (OptW (unpackO b x n) w) := by
  by_cases hs : (b.length : Int) = nby x n
  · have hg : 0 ≤ x ∧ x ≤ 64 ∧ 0 ≤ n ∧ n ≤ 65536 := by
      unfold nby at hs
      split at hs <;> omega
    obtain ⟨x, rfl⟩ := Int.eq_ofNat_of_zero_le hg.1
    obtain ⟨n, rfl⟩ := Int.eq_ofNat_of_zero_le hg.2.2.1
    rw [nby_nat x n (by omega) (by omega)] at hs
    have hs' : b.length = (x * n + 7) / 8 := by omega
    have := runpack_if (c := c) x n h h8 (by omega) (by omega) hs'
    unfold unpackO
    simp only [Int.toNat_natCast]
    by_cases hN : num b < 2 ^ (x * n)
    · rw [if_pos hN] at this
      rw [if_pos ⟨by omega, by omega, by omega, by omega, hs', hN⟩]
      exact this
    · rw [if_neg hN] at this
      rw [if_neg (fun hh => hN hh.2.2.2.2.2)]
      exact this
  · unfold unpackO
    rw [if_neg]
    · exact runpack_bad x n h hm hx0 hx hn0 hn hs
    · rintro ⟨h1, h2, h3, h4, h5, _⟩
      obtain ⟨x, rfl⟩ := Int.eq_ofNat_of_zero_le h1
      obtain ⟨n, rfl⟩ := Int.eq_ofNat_of_zero_le h3
      simp only [Int.toNat_natCast] at h5
      exact hs (by rw [nby_nat x n (by omega) (by omega), h5])

end Go.Proofs.Ytlelepopdjoedaa
