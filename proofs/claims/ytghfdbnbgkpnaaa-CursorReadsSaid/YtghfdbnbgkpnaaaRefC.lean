/- Contracts of the document's own answer for layer 3. -/
import Derived.Test.YtghfdbnbgkpnaaaCurN
namespace Go.Proofs.Ytghfdbnbgkpnaaa
open Go.RowKit Go.Hm

set_option maxHeartbeats 400000 in
set_option maxRecDepth 100000 in
theorem rlow_any {w : World} {A : Option Addr} {n c : Nat} {l : List Nat} (x k0 : Nat) (h : Reads w w.heap.size 1 A n (nums .u8 l)) (hl : n ≤ 140737488355200) (hk0 : k0 ≤ 8) (hx : x ≤ 18446744073709551615) :
    Calls Try.prog 36 #[.slice A n c, .int .u64 (x : Int), .int .i64 (k0 : Int)] w (BytesPost (l ++ low x k0) w) := by
  obtain rfl := h.len
  go_enter Try.func36, Try.ntmps36
  go_wp2_with (first
    | (refine wpList_pushesN elB rfl (.tmp 9) (.tmp 10) rfl (W := w) (B := w.heap.size) (k := .u8) (l := []) (l2 := l) (c2 := c) (Own.empty _ _) ((h.alloc (Nat.le_refl _) _).more (by simp)) rfl rfl ((Below.refl _ _).alloc (Nat.le_refl _) _) (Nat.le_refl _) (by simp) (by omega) (by simp only [maxLen]; omega) ?_
       simp only [Nat.zero_add, List.nil_append]
       intro A1 c1 w1 _ _ o1 _ b1 _))
  have hs0 := b1.size
  go_loopw [1, 7, 8] (fun n v i wr => ∃ (k : Nat) (A : Option Addr) (c : Nat), k ≤ k0 ∧ i = .int .i64 (k : Int) ∧ n = .int .u64 ((x / 256 ^ k : Nat) : Int) ∧ v = .slice A (l.length + k) c ∧ Own wr w.heap.size 5 (.slice A (l.length + k) c) (nums .u8 (l ++ low x k)) ∧ Below w.heap.size w wr) (fun _ _ i _ => k0 - (intOf i).toNat)
  case atStart => exact ⟨0, _, _, by omega, rfl, by simp, rfl, by simpa [low] using o1, b1⟩
  case round =>
    obtain ⟨k, A', c', hk, rfl, rfl, rfl, hown, hb⟩ := hrel
    have hz := hb.size
    have hq : x / 256 ^ k ≤ x := Nat.div_le_self _ _
    generalize hy : x / 256 ^ k = y at *
    have Hy := Lib.hid hy
    clear hy
    by_cases hlt : k < k0
    · go_wp2_with (first
        | (refine wpList_pushN elB rfl (.tmp 17) (.tmp 20) rfl (W := w) (B := w.heap.size) hown rfl rfl (y % 256) (by simp) hb (Nat.le_refl _) (by omega) (by omega) (by simp only [maxLen]; omega) ?_
           intro A3 c3 w3 _ _ hown3 hg3 hb3 _ _))
      go_roundw
      case rel => exact ⟨k + 1, A3, c3, by omega, by go_num, by rw [Nat.pow_succ, ← Nat.div_div_eq_div_mul, Hy.out]; go_num, rfl, by rw [List.append_assoc, ← Hy.out] at hown3; exact hown3, hb3⟩
      case measure => simp [intOf]; omega
    · obtain rfl : k = k0 := by omega
      go_wp2
      go_ret
      exact ⟨A', _, c', rfl, hown, hb⟩
theorem rlow_of {w0 w : World} {A : Option Addr} {n c : Nat} {l : List Nat} (x k0 : Nat) (h : Reads w0 w0.heap.size 1 A n (nums .u8 l)) (hb : Below w0.heap.size w0 w) (hl : n ≤ 140737488355200) (hk0 : k0 ≤ 8) (hx : x ≤ 18446744073709551615) :
    Calls Try.prog 36 #[.slice A n c, .int .u64 (x : Int), .int .i64 (k0 : Int)] w (BytesPost (l ++ low x k0) w) :=
  rlow_any x k0 ((h.below hb).more hb.size) hl hk0 hx
theorem rlow4 {w0 w : World} {A : Option Addr} {n c : Nat} {l : List Nat} (x : Nat) (h : Reads w0 w0.heap.size 1 A n (nums .u8 l)) (hb : Below w0.heap.size w0 w) (hl : n ≤ 140737488355200) (hx : x ≤ 18446744073709551615) :
    Calls Try.prog 36 #[.slice A n c, .int .u64 (x : Int), .int .i64 4] w (BytesPost (l ++ low x 4) w) :=
  rlow_any x 4 ((h.below hb).more hb.size) hl (by omega) hx
theorem rlow8 {w0 w : World} {A : Option Addr} {n c : Nat} {l : List Nat} (x : Nat) (h : Reads w0 w0.heap.size 1 A n (nums .u8 l)) (hb : Below w0.heap.size w0 w) (hl : n ≤ 140737488355200) (hx : x ≤ 18446744073709551615) :
    Calls Try.prog 36 #[.slice A n c, .int .u64 (x : Int), .int .i64 8] w (BytesPost (l ++ low x 8) w) :=
  rlow_any x 8 ((h.below hb).more hb.size) hl (by omega) hx
end Go.Proofs.Ytghfdbnbgkpnaaa
