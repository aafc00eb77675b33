/- The package varint: what each function answers, as numbers and lists. -/
import Derived.Lib.BitFns
import Derived.Test.YtlelepopdjoedaaShelf
import Derived.Test.YtlelepopdjoedaaCurN

namespace Go.Hm

theorem bitLen_or1 (n : Nat) (h0 : n ≠ 0) (h : n < 18446744073709551616) : Lib.bitLen (n ||| 1) = Lib.bitLen n := by
  have e : (n ||| 1) / 2 = n / 2 := by rw [Nat.or_div_two]; simp
  have hlt : n ||| 1 < 2 ^ 64 := Nat.or_lt_two_pow h (by omega)
  have hne : n ||| 1 ≠ 0 := by intro e0; rw [e0] at e; have := Nat.right_le_or (n := n) (m := 1); omega
  rw [Lib.bitLen_half _ hne hlt, Lib.bitLen_half n h0 h, e]
theorem vp_bits : ∀ (k n : Nat), n < 2 ^ k → n ≠ 0 → n < 18446744073709551616 → (Lib.bitLen n + 6) / 7 = (vp n).length := by
  intro k
  induction k using Nat.strongRecOn with
  | ind k ih =>
    intro n hk h0 h
    by_cases hn : n < 128
    · have h1 := Lib.bitLen_le n 7 (by omega) hn
      have h2 := Lib.bitLen_half n h0 h
      rw [vp_lt hn]
      simp only [List.length_singleton]
      omega
    · have e : Lib.bitLen n = 7 + Lib.bitLen (n / 128) := Lib.bitLen_shift 7 n (by omega) h
      have hk7 : 7 < k := by
        refine Nat.lt_of_not_le fun hle => ?_
        have := Nat.pow_le_pow_right (n := 2) (by omega) hle
        omega
      have hd : n / 128 < 2 ^ (k - 7) := by
        refine Nat.div_lt_of_lt_mul ?_
        rw [show (128 : Nat) = 2 ^ 7 from rfl, ← Nat.pow_add, show 7 + (k - 7) = k by omega]
        exact hk
      have := ih (k - 7) (by omega) (n / 128) hd (by omega) (by omega)
      rw [vp_ge hn, List.length_cons, ← this, e]
      omega
theorem vp_size (n : Nat) (h : n < 18446744073709551616) : (Lib.bitLen (n ||| 1) + 6) / 7 = (vp n).length := by
  by_cases h0 : n = 0
  · subst h0; rw [vp_lt (by omega)]; decide
  · rw [bitLen_or1 n h0 h, vp_bits 64 n h h0 h]

theorem xor0_u64 (a : Nat) (h : a < 18446744073709551616) : bits .xor .u64 (a : Int) 0 = a := by
  have := u64_xor_nat a 0 h (by omega)
  simpa using this
theorem xor1_u64 (a : Nat) (h : a < 18446744073709551616) : bits .xor .u64 (a : Int) 18446744073709551615 = ((18446744073709551615 - a : Nat) : Int) := by
  show IntKind.u64.wrap ((BitVec.ofInt 64 (a : Int) ^^^ BitVec.ofInt 64 18446744073709551615).toNat : Int) = _
  rw [show BitVec.ofInt 64 18446744073709551615 = BitVec.allOnes 64 from by decide, BitVec.xor_allOnes, BitVec.toNat_not, ofInt_u64 a h, IntKind.wrap_u64]
  omega
theorem xor0_i64 (a : Nat) (h : a < 9223372036854775808) : bits .xor .i64 (a : Int) 0 = a := by
  show IntKind.i64.wrap ((BitVec.ofInt 64 (a : Int) ^^^ BitVec.ofInt 64 0).toNat : Int) = _
  rw [show BitVec.ofInt 64 0 = 0#64 from by decide, BitVec.xor_zero, ofInt_u64 a (by omega), IntKind.wrap_i64]
  omega
theorem xor1_i64 (a : Nat) (h : a < 9223372036854775808) : bits .xor .i64 (a : Int) (-1) = -(a : Int) - 1 := by
  show IntKind.i64.wrap ((BitVec.ofInt 64 (a : Int) ^^^ BitVec.ofInt 64 (-1)).toNat : Int) = _
  rw [show BitVec.ofInt 64 (-1) = BitVec.allOnes 64 from by decide, BitVec.xor_allOnes, BitVec.toNat_not, ofInt_u64 a (by omega), IntKind.wrap_i64]
  omega

/-- The signed numbers as unsigned ones, and back. -/
def zig (x : Int) : Nat := if x < 0 then (-(2 * x) - 1).toNat else (2 * x).toNat
def zag (n : Nat) : Int := if n % 2 = 0 then ((n / 2 : Nat) : Int) else -((n / 2 : Nat) : Int) - 1
theorem zag_zig (x : Int) : zag (zig x) = x := by unfold zig zag; split <;> split <;> omega
theorem zig_zag (n : Nat) : zig (zag n) = n := by unfold zig zag; split <;> split <;> omega

end Go.Hm

namespace Go.Proofs.Ytlelepopdjoedaa
open Go.RowKit Go.Hm

def IsSize (n : Nat) (w : World) (e : Ending) (w' : World) : Prop := e = .returned (.int .i64 ((vp n).length : Int)) ∧ w = w'

set_option maxHeartbeats 400000 in
theorem size_any (n : Nat) (w : World) (h : n < 18446744073709551616) : Calls Try.prog 40 #[.int .u64 n] w (IsSize n w) := by
  have e : bits .or .u64 (n : Int) 1 = ((n ||| 1 : Nat) : Int) := by
    have := u64_or_nat n 1 h (by omega)
    simpa using this
  have hlt : n ||| 1 < 2 ^ 64 := Nat.or_lt_two_pow h (by omega)
  have hv := vp_size n h
  have h10 := vp_len10 h
  have hb := Lib.bitLen_le (n ||| 1) 64 (by omega) hlt
  go_enter Try.func40, Try.ntmps40
  go_wp2_with (first
    | (go_at_call 53; refine (bits_Len64 ((n ||| 1 : Nat) : Int) _ (by omega) (by omega)).mono ?_; rintro e w' ⟨rfl, rfl⟩))
  go_ret
  exact ⟨by rw [← hv]; go_num, rfl⟩


def PutRel (w : World) (l : List Nat) (N : Nat) (nv v : Value) (wr : World) : Prop := ∃ N' D A c, nv = .int .u64 ((N' : Nat) : Int) ∧ N' ≤ N ∧ D.length + (vp N').length ≤ l.length + 10 ∧ v = .slice A D.length c ∧ D ++ vp N' = l ++ vp N ∧ Own wr w.heap.size 5 (.slice A D.length c) (nums .u8 D) ∧ Below w.heap.size w wr

set_option maxHeartbeats 400000 in
set_option maxRecDepth 100000 in
theorem put_any (A : Option Addr) (n c : Nat) (l : List Nat) (N : Nat) (w : World) (hr : Reads w w.heap.size 1 A n (nums .u8 l)) (hn : n ≤ 140737488355200) (hN : N ≤ 18446744073709551615) :
    Calls Try.prog 20 #[.slice A n c, .int .u64 N] w (BytesPost (l ++ vp N) w) := by
  obtain rfl : l.length = n := by have := hr.1; rw [nums_length] at this; omega
  have hsz := vp_len10 (n := N) (by omega)
  go_enter Try.func20, Try.ntmps20
  go_wp2_with (first
    | (go_at_call 40; refine (size_any N _ (by omega)).mono ?_; rintro e w' ⟨rfl, rfl⟩)
    | (refine wpList_mk elB rfl (.tmp 7) (.tmp 12) rfl (W := w) (B := w.heap.size) l.length (l.length + (vp N).length) rfl rfl rfl (by simp) (by omega) (Below.refl _ _) (Nat.le_refl _) rfl (by omega) (by simp only [maxLen]; omega) ?_
       intro w1 hown1 hg1 hb1 hs1)
    | (refine wpList_cp elB rfl (.tmp 14) (.tmp 15) rfl (W := w) (B := w.heap.size) hown1 (hr.grown_far hg1 (by simp)) rfl rfl l.length (Nat.min_self _) hb1 (Nat.le_refl _) (nums_oneCell _ _) ?_
       intro w2 hown2 hg2 hb2 hs2))
  go_frame
  go_loopw [1, 5] (PutRel w l N) (fun nv _ _ => (intOf nv).toNat)
  case atStart =>
    refine ⟨N, l, _, _, rfl, Nat.le_refl _, by omega, rfl, rfl, ?_, hb2⟩
    rw [List.take_of_length_le (by rw [nums_length]; omega), List.drop_of_length_le (by simp), List.append_nil] at hown2
    exact hown2
  case round =>
    obtain ⟨N', D, A', c', rfl, hN', hD, rfl, hDN, hown, hb⟩ := hrel
    have hb0 := hb.size
    by_cases hlt : N' < 128
    · go_wp2_with (first
        | (refine wpList_pushN elB rfl (.tmp 27) (.tmp 30) rfl (W := w) (B := w.heap.size) hown rfl rfl N' rfl hb (Nat.le_refl _) (by omega) (by omega) (by simp only [maxLen]; omega) ?_
           intro A3 c3 w3 _ _ hown3 hg3 hb3 _ _))
      go_ret
      rw [vp_lt hlt] at hDN
      rw [hDN] at hown3
      have hl' : D.length + 1 = (l ++ vp N).length := by rw [← hDN]; simp
      rw [hl'] at hown3 ⊢
      exact ⟨_, _, _, rfl, hown3, hb3⟩
    · have hu := or128 N'
      have Hu := Lib.hid hu
      clear hu
      have hv := vp_ge hlt
      have Hv := Lib.hid hv
      clear hv
      go_wp2_with (first
        | (refine wpList_pushN elB rfl (.tmp 19) (.tmp 23) rfl (W := w) (B := w.heap.size) hown rfl rfl (N' % 128 + 128) (by rw [Hu.out]) hb (Nat.le_refl _) (by omega) (by omega) (by simp only [maxLen]; omega) ?_
           intro A3 c3 w3 _ _ hown3 hg3 hb3 _ _))
      go_roundw
      case rel =>
        have hv' := Hv.out
        rw [hv', List.length_cons] at hD
        exact ⟨N' / 128, D ++ [N' % 128 + 128], A3, c3, by go_num, by omega, by simp; omega, by simp, by rw [← hDN, hv']; simp, by simpa using hown3, hb3⟩
      case measure => simp [intOf]; omega

def ZigPost (v : Value) (w : World) (e : Ending) (w' : World) : Prop := e = .returned v ∧ w = w'

end Go.Proofs.Ytlelepopdjoedaa
