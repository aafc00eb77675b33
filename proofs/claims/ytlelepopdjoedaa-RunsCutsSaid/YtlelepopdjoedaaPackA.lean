/- The package bitpack and its answer: widths, byte counts, comparing. -/
import Derived.Lib.BitFns
import Derived.Test.YtlelepopdjoedaaShelf
import Derived.Test.YtlelepopdjoedaaCurN
import Derived.Test.YtlelepopdjoedaaSpec
import Derived.Test.YtlelepopdjoedaaUp
import Derived.Deep.QuietTactic
import Derived.BigQuiet

namespace Go.Hm
/-- The least width that holds each of l. -/
def wid (l : List Nat) : Nat := l.foldl (fun a x => max a (Lib.bitLen x)) 0
theorem bitLen_iff (n : Nat) : ∀ k, k ≤ 64 → n < 18446744073709551616 → (Lib.bitLen n ≤ k ↔ n < 2 ^ k) := by
  intro k hk hn
  refine ⟨fun h => ?_, fun h => Lib.bitLen_le n k hk h⟩
  induction k generalizing n with
  | zero =>
    by_cases h0 : n = 0
    · omega
    · have := Lib.bitLen_half n h0 hn
      omega
  | succ k ih =>
    by_cases h0 : n = 0
    · subst h0; exact Nat.two_pow_pos _
    · have h1 := Lib.bitLen_half n h0 hn
      have h2 := ih (n / 2) (by omega) (by omega) (by omega)
      rw [Nat.pow_succ]; omega
theorem bitLen64 (n : Nat) (hn : n < 18446744073709551616) : Lib.bitLen n ≤ 64 := Lib.bitLen_le n 64 (by omega) hn
theorem bitLen_or (a b : Nat) (ha : a < 18446744073709551616) (hb : b < 18446744073709551616) : Lib.bitLen (a ||| b) = max (Lib.bitLen a) (Lib.bitLen b) := by
  have hab : a ||| b < 18446744073709551616 := Nat.or_lt_two_pow (n := 64) ha hb
  have ha64 := bitLen64 a ha
  have hb64 := bitLen64 b hb
  have hab64 := bitLen64 _ hab
  have key : ∀ k, k ≤ 64 → (Lib.bitLen (a ||| b) ≤ k ↔ max (Lib.bitLen a) (Lib.bitLen b) ≤ k) := by
    intro k hk
    rw [bitLen_iff _ k hk hab, Nat.max_le, bitLen_iff a k hk ha, bitLen_iff b k hk hb]
    exact ⟨fun h => ⟨Nat.lt_of_le_of_lt Nat.left_le_or h, Nat.lt_of_le_of_lt Nat.right_le_or h⟩, fun h => Nat.or_lt_two_pow h.1 h.2⟩
  have h1 := (key _ hab64).1 (Nat.le_refl _)
  have h2 := (key (max (Lib.bitLen a) (Lib.bitLen b)) (by omega)).2 (Nat.le_refl _)
  omega
theorem wid_snoc (l : List Nat) (x : Nat) : wid (l ++ [x]) = max (wid l) (Lib.bitLen x) := by simp [wid]
/-- All bits that l has. -/
def ors (l : List Nat) : Nat := l.foldl (· ||| ·) 0
theorem ors_snoc (l : List Nat) (x : Nat) : ors (l ++ [x]) = ors l ||| x := by simp [ors]
theorem ors_both (k : Nat) (l : List Nat) (hk : k ≤ l.length) (hl : ∀ x ∈ l, x ≤ 18446744073709551615) : ors (l.take k) < 18446744073709551616 ∧ Lib.bitLen (ors (l.take k)) = wid (l.take k) := by
  induction k with
  | zero => simp [ors, wid]; decide
  | succ k ih =>
    obtain ⟨h1, h2⟩ := ih (by omega)
    have hx : l.getD k 0 ≤ 18446744073709551615 := by
      rw [List.getD_eq_getElem?_getD, List.getElem?_eq_getElem (by omega)]
      exact hl _ (List.getElem_mem (by omega))
    rw [take_snoc l k 0 (by omega), ors_snoc, wid_snoc]
    exact ⟨Nat.or_lt_two_pow (n := 64) h1 (by omega), by rw [bitLen_or _ _ h1 (by omega), h2]⟩
theorem wid_iff (l : List Nat) (k : Nat) (hk : k ≤ 64) (hl : ∀ x ∈ l, x ≤ 18446744073709551615) : wid l ≤ k ↔ ∀ x ∈ l, x < 2 ^ k := by
  have : ∀ (l : List Nat) a, (∀ x ∈ l, x ≤ 18446744073709551615) → (l.foldl (fun a x => max a (Lib.bitLen x)) a ≤ k ↔ a ≤ k ∧ ∀ x ∈ l, x < 2 ^ k) := by
    intro l
    induction l with
    | nil => intro a _; simp
    | cons y l ih =>
      intro a h
      rw [List.foldl_cons, ih _ (fun x hx => h x (by simp [hx])), Nat.max_le, bitLen_iff y k hk (by have := h y (by simp); omega)]
      simp [and_assoc]
  rw [wid, this l 0 hl]; simp
theorem wid_le (l : List Nat) (hl : ∀ x ∈ l, x ≤ 18446744073709551615) : wid l ≤ 64 := (wid_iff l 64 (by omega) hl).2 fun x hx => by have := hl x hx; omega

end Go.Hm

namespace Go.Proofs.Ytlelepopdjoedaa
open Go.RowKit Go.Hm

def IntPost (v : Int) (w : World) (e : Ending) (w' : World) : Prop := e = .returned (.int .i64 v) ∧ w = w'

set_option maxHeartbeats 400000 in
theorem width_any {w : World} {A : Option Addr} {n c : Nat} {L : List Nat} (h : Reads w w.heap.size 1 A n (nums .u64 L)) (hL : ∀ x ∈ L, x ≤ 18446744073709551615) (hn : n ≤ 9223372036854775807) :
    Calls Try.prog 41 #[.slice A n c] w (IntPost (wid L) w) := by
  obtain rfl := h.len
  go_enter Try.func41, Try.ntmps41
  go_wp2
  go_loop [3, 8] (fun v i => ∃ k : Nat, k ≤ L.length ∧ i = .int .i64 (k : Int) ∧ v = .int .u64 (ors (L.take k) : Int)) (fun _ i => L.length - (intOf i).toNat)
  case atStart => exact ⟨0, by omega, rfl, by simp [ors]⟩
  case round =>
    obtain ⟨k, hk, rfl, rfl⟩ := hrel
    have HO := ors_both k L hk hL
    by_cases hlt : k < L.length
    · obtain ⟨ad, rfl, hb, hcell⟩ := h.num hlt
      have HT := Lib.hid (take_snoc L k 0 hlt)
      have hl0 : L.getD k 0 ≤ 18446744073709551615 := by
        rw [List.getD_eq_getElem?_getD, List.getElem?_eq_getElem hlt]
        exact hL _ (List.getElem_mem hlt)
      generalize L.getD k 0 = y at *
      obtain ⟨h1, _⟩ := HO
      generalize hO : ors (L.take k) = o at *
      have HO := Lib.hid hO
      clear hO
      have hor := u64_or_nat o y h1 (by omega)
      have Hor := Lib.hid hor
      clear hor
      go_wp2
      go_round
      case rel => exact ⟨k + 1, by omega, by go_num, by rw [HT.out, ors_snoc, HO.out, Hor.out]⟩
      case measure => simp [intOf]; omega
    · obtain rfl : k = L.length := by omega
      rw [List.take_length] at *
      have LB := Lib.hid (bits_Len64 (ors L : Int) w (by omega) (by omega))
      have HO2 := Lib.hid HO.2
      clear HO
      go_wp2_with (go_at_call 53; refine LB.out.mono ?_; rintro e w' ⟨rfl, rfl⟩)
      go_ret
      exact ⟨by rw [← HO2.out]; rfl, rfl⟩

set_option maxHeartbeats 400000 in
set_option maxRecDepth 100000 in
theorem need_any (N : Nat) (w : World) (h : N < 18446744073709551616) : Calls Try.prog 43 #[.int .u64 N] w (IntPost (Lib.bitLen N) w) := by
  have hsz := bitLen64 N h
  obtain ⟨P, hP⟩ : ∃ P, P = Lib.bitLen N := ⟨_, rfl⟩
  rw [← hP] at hsz
  have HP := Lib.hid hP
  clear hP
  go_enter Try.func43, Try.ntmps43
  go_wp2
  go_loop [0, 3] (fun nv v => ∃ (N' k : Nat), nv = .int .u64 ((N' : Nat) : Int) ∧ N' ≤ N ∧ v = .int .i64 (k : Int) ∧ k + Lib.bitLen N' = P) (fun nv _ => (intOf nv).toNat)
  case atStart => exact ⟨N, 0, rfl, Nat.le_refl _, rfl, by rw [HP.out]; omega⟩
  case round =>
    obtain ⟨N', k, rfl, hN', rfl, hk⟩ := hrel
    by_cases hlt : N' = 0
    · subst hlt
      rw [show Lib.bitLen 0 = 0 by decide] at hk
      obtain rfl : k = P := by omega
      go_wp2
      go_ret
      exact ⟨by rw [← HP.out]; rfl, rfl⟩
    · have hv := Lib.bitLen_half N' hlt (by omega)
      have Hk := Lib.hid (show k + 1 + Lib.bitLen (N' / 2) = P by omega)
      have hk8 : k ≤ 64 := by omega
      have hpos : 0 < (N' : Int) := by omega
      clear hv hk hlt
      go_wp2
      go_round
      case rel => exact ⟨N' / 2, k + 1, by go_num, by omega, by go_num, Hk.out⟩
      case measure => simp [intOf]; omega

set_option maxHeartbeats 400000 in
theorem rwidth_any {w : World} {A : Option Addr} {n c : Nat} {L : List Nat} (h : Reads w w.heap.size 1 A n (nums .u64 L)) (hL : ∀ x ∈ L, x ≤ 18446744073709551615) (hn : n ≤ 9223372036854775807) :
    Calls Try.prog 24 #[.slice A n c] w (IntPost (wid L) w) := by
  obtain rfl := h.len
  go_enter Try.func24, Try.ntmps24
  go_wp2
  go_loop [3, 4] (fun v i => ∃ k : Nat, k ≤ L.length ∧ i = .int .i64 (k : Int) ∧ v = .int .i64 (wid (L.take k) : Int)) (fun _ i => L.length - (intOf i).toNat)
  case atStart => exact ⟨0, by omega, rfl, by simp [wid]⟩
  case round =>
    obtain ⟨k, hk, rfl, rfl⟩ := hrel
    by_cases hlt : k < L.length
    · obtain ⟨ad, rfl, hb, hcell⟩ := h.num hlt
      have HT := Lib.hid (take_snoc L k 0 hlt)
      have hl0 : L.getD k 0 ≤ 18446744073709551615 := by
        rw [List.getD_eq_getElem?_getD, List.getElem?_eq_getElem hlt]
        exact hL _ (List.getElem_mem hlt)
      generalize L.getD k 0 = y at *
      go_wp2_with (go_at_call 43; refine (need_any y w (by omega)).mono ?_; rintro e w' ⟨rfl, rfl⟩)
      go_round
      case rel => exact ⟨k + 1, by omega, by go_num, by rw [HT.out, wid_snoc]; go_num⟩
      case measure => simp [intOf]; omega
    · obtain rfl : k = L.length := by omega
      rw [List.take_length] at *
      go_wp2
      go_ret
      exact ⟨rfl, rfl⟩

/-- How many bytes; -1 where there are too many. -/
def nby (w n : Int) : Int := if w < 0 ∨ 64 < w ∨ n < 0 ∨ 65536 < n then -1 else (w * n + 7) / 8
theorem nby_nat (x n : Nat) (hx : x ≤ 64) (hn : n ≤ 65536) : nby (x : Int) (n : Int) = (((x * n + 7) / 8 : Nat) : Int) := by
  unfold nby; rw [if_neg (by omega), ← Int.natCast_mul]; omega
set_option maxHeartbeats 400000 in
theorem bytes_any (x n : Int) (w : World) (hx0 : -9223372036854775808 ≤ x) (hx : x ≤ 9223372036854775807) (hn0 : -9223372036854775808 ≤ n) (hn : n ≤ 9223372036854775807) : Calls Try.prog 49 #[.int .i64 x, .int .i64 n] w (IntPost (nby x n) w) := by
  by_cases hg : 0 ≤ x ∧ x ≤ 64 ∧ 0 ≤ n ∧ n ≤ 65536
  · obtain ⟨h1, h2, h3, h4⟩ := hg
    have p0 : 0 ≤ x * n := Int.mul_nonneg h1 h3
    have p1 : x * n ≤ 64 * 65536 := Int.mul_le_mul h2 h4 h3 (by omega)
    have e : nby x n = (x * n + 7) / 8 := by unfold nby; rw [if_neg (by omega)]
    rw [e]
    have w1 : wrap64 (x * n) = x * n := by unfold wrap64; omega
    have w2 : wrap64 (x * n + 7) = x * n + 7 := by unfold wrap64; omega
    have w3 : (x * n + 7).tdiv 8 = (x * n + 7) / 8 := Int.tdiv_eq_ediv_of_nonneg (by omega)
    have w4 : wrap64 ((x * n + 7) / 8) = (x * n + 7) / 8 := by unfold wrap64; omega
    clear e
    go_enter Try.func49, Try.ntmps49
    go_wp2
    all_goals first | (exfalso; omega) | go_ret
    exact ⟨rfl, rfl⟩
  · have e : nby x n = -1 := by unfold nby; rw [if_pos (by omega)]
    rw [e]
    clear e
    go_enter Try.func49, Try.ntmps49
    go_wp2
    all_goals first | (exfalso; omega) | go_ret
    all_goals exact ⟨rfl, rfl⟩
theorem bytes_anyN (x n : Nat) (w : World) (hx : x ≤ 64) (hn : n ≤ 65536) : Calls Try.prog 49 #[.int .i64 (x : Int), .int .i64 (n : Int)] w (IntPost ((x * n + 7) / 8 : Nat) w) := by
  have := bytes_any x n w (by omega) (by omega) (by omega) (by omega)
  rwa [nby_nat x n hx hn] at this
set_option maxHeartbeats 400000 in
theorem rbytes_any (x n : Int) (w : World) (hx0 : -9223372036854775808 ≤ x) (hx : x ≤ 9223372036854775807) (hn0 : -9223372036854775808 ≤ n) (hn : n ≤ 9223372036854775807) : Calls Try.prog 36 #[.int .i64 x, .int .i64 n] w (IntPost (nby x n) w) := by
  by_cases hg : 0 ≤ x ∧ x ≤ 64 ∧ 0 ≤ n ∧ n ≤ 65536
  · obtain ⟨h1, h2, h3, h4⟩ := hg
    have p0 : 0 ≤ x * n := Int.mul_nonneg h1 h3
    have p1 : x * n ≤ 64 * 65536 := Int.mul_le_mul h2 h4 h3 (by omega)
    have e : nby x n = (x * n + 7) / 8 := by unfold nby; rw [if_neg (by omega)]
    rw [e]
    have w1 : wrap64 (x * n) = x * n := by unfold wrap64; omega
    have w2 : wrap64 (x * n + 7) = x * n + 7 := by unfold wrap64; omega
    have w3 : (x * n + 7).tdiv 8 = (x * n + 7) / 8 := Int.tdiv_eq_ediv_of_nonneg (by omega)
    have w4 : wrap64 ((x * n + 7) / 8) = (x * n + 7) / 8 := by unfold wrap64; omega
    clear e
    go_enter Try.func36, Try.ntmps36
    go_wp2
    all_goals first | (exfalso; omega) | go_ret
    exact ⟨rfl, rfl⟩
  · have e : nby x n = -1 := by unfold nby; rw [if_pos (by omega)]
    rw [e]
    clear e
    go_enter Try.func36, Try.ntmps36
    go_wp2
    all_goals first | (exfalso; omega) | go_ret
    all_goals exact ⟨rfl, rfl⟩
theorem rbytes_anyN (x n : Nat) (w : World) (hx : x ≤ 64) (hn : n ≤ 65536) : Calls Try.prog 36 #[.int .i64 (x : Int), .int .i64 (n : Int)] w (IntPost ((x * n + 7) / 8 : Nat) w) := by
  have := rbytes_any x n w (by omega) (by omega) (by omega) (by omega)
  rwa [nby_nat x n hx hn] at this


def SamePost (b : Bool) (w : World) (e : Ending) (w' : World) : Prop := e = .returned (.bool b) ∧ Below w.heap.size w w'

theorem below_drewN {B : Nat} {a w : World} (h : Below B a w) (k : Nat) : Below B a (w.drewN k) := ⟨h.os, h.tape, h.output, h.size, h.block⟩

set_option maxHeartbeats 800000 in
theorem same_eq {w : World} {A A2 : Option Addr} {n c c2 : Nat} {L L2 : List Nat} (h : Reads w w.heap.size 1 A n (nums .u64 L)) (h2 : Reads w w.heap.size 1 A2 n (nums .u64 L2)) (hn : n ≤ 9223372036854775807) :
    Calls Try.prog 17 #[.slice A n c, .slice A2 n c2] w (SamePost (decide (L = L2)) w) := by
  have l1 := Lib.hid h.len
  have l2 := Lib.hid h2.len
  go_enter Try.func17, Try.ntmps17
  go_wp2
  go_loopw [5] (fun i wr => ∃ k : Nat, k ≤ n ∧ i = .int .i64 (k : Int) ∧ L.take k = L2.take k ∧ Below w.heap.size w wr) (fun i _ => n - (intOf i).toNat)
  case atStart => exact ⟨0, by omega, rfl, rfl, Below.refl _ _⟩
  case round =>
    obtain ⟨k, hk, rfl, hT, hb⟩ := hrel
    by_cases hlt : k < n
    · obtain ⟨ad, rfl, hbk, hcell⟩ := (h.below hb).num hlt
      obtain ⟨ad2, rfl, hbk2, hcell2⟩ := (h2.below hb).num hlt
      have T1 := take_snoc L k 0 (by rw [← l1.out]; exact hlt)
      have T2 := take_snoc L2 k 0 (by rw [← l2.out]; exact hlt)
      have hkk : (0 : Int) ≤ (k : Int) := by omega
      have hk1 : (k : Int) < (n : Int) := by omega
      by_cases he : L.getD k 0 = L2.getD k 0
      · have hT' : L.take (k + 1) = L2.take (k + 1) := by rw [T1, T2, hT, he]
        have HT' := Lib.hid hT'
        rw [← he] at hcell2
        clear he T1 T2 hT hT'
        generalize L.getD k 0 = y at *
        go_wp2
        go_quiet (fail)
        go_wp2
        go_roundw
        case rel => exact ⟨k + 1, by omega, by go_num, HT'.out, below_drewN hb _⟩
        case measure => simp [intOf]; omega
      · have hno : ¬ L = L2 := fun e => he (by rw [e])
        rw [decide_eq_false hno]
        have hbe : (((L.getD k 0 : Nat) : Int) == ((L2.getD k 0 : Nat) : Int)) = false := by rw [beq_eq_false_iff_ne]; omega
        clear T1 T2 hT he
        generalize L.getD k 0 = y at *
        generalize L2.getD k 0 = z at *
        go_wp2
        go_quiet (fail)
        go_wp2
        go_ret
        exact ⟨rfl, below_drewN hb _⟩
    · obtain rfl : k = n := by omega
      have he : L = L2 := by
        rw [l1.out, List.take_length, ← l1.out, l2.out, List.take_length] at hT
        exact hT
      have HE := Lib.hid he
      clear he hT
      go_wp2
      go_ret
      exact ⟨by rw [decide_eq_true HE.out]; rfl, hb⟩

set_option maxHeartbeats 800000 in
theorem same_any {w : World} {A A2 : Option Addr} {n c n2 c2 : Nat} {L L2 : List Nat} (h : Reads w w.heap.size 1 A n (nums .u64 L)) (h2 : Reads w w.heap.size 1 A2 n2 (nums .u64 L2)) (hn : n ≤ 9223372036854775807) (hn2 : n2 ≤ 9223372036854775807) :
    Calls Try.prog 17 #[.slice A n c, .slice A2 n2 c2] w (SamePost (decide (L = L2)) w) := by
  by_cases hl : n = n2
  · subst hl
    exact same_eq h h2 hn
  · have hno : ¬ L = L2 := fun e => hl (by rw [h.len, h2.len, e])
    rw [decide_eq_false hno]
    clear hno h h2
    go_enter Try.func17, Try.ntmps17
    go_wp2
    go_ret
    exact ⟨rfl, Below.refl _ _⟩

end Go.Proofs.Ytlelepopdjoedaa
