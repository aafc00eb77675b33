/- Contracts of package cursor: numbers. -/
import Derived.Test.YtghfdbnbgkpnaaaCur
namespace Go.Proofs.Ytghfdbnbgkpnaaa
open Go.RowKit Go.Hm

set_option maxHeartbeats 400000 in
theorem num_u8_good {w : World} {g : Nat} {l : List Nat} (n : Nat) (h : Cur w g l false) (hn : n ≤ l.length) (hs : n ≤ 1) :
    Calls Try.prog 61 #[.pointer (some ⟨g, 0, none⟩), .int .i64 (n : Int)] w (CurPost (.returned (.int .u8 (num (l.take n) : Int))) g (l.drop n) false w) := by
  have hlt : (l.take n).length = n := by rw [List.length_take]; omega
  have N := Lib.hid (next_good h hn)
  have h8 : ∀ x ∈ l.take n, x < 256 := by
    obtain ⟨A, c, _, _, _, _, h5, _⟩ := h
    exact fun x hx => h5 x (List.mem_of_mem_take hx)
  unfold NextPost at N
  generalize l.take n = T at *
  generalize hD : l.drop n = D at *
  clear hD h hn
  go_enter Try.func61, Try.ntmps61
  go_wp2_with (first
    | (go_at_call 64; refine N.out.mono ?_; rintro e w1 ⟨A', c', rfl, k1, k2, k3⟩
       have k4 := k1.1))
  clear N
  subst hlt
  go_loop [5, 12] (fun v i => ∃ k : Nat, k ≤ T.length ∧ i = .int .i64 (k : Int) ∧ v = .int .u8 (num (T.take k) : Int)) (fun _ i => T.length - (intOf i).toNat)
  case atStart => exact ⟨0, by omega, rfl, by simp [num]⟩
  case round =>
    obtain ⟨k, hk, rfl, rfl⟩ := hrel
    by_cases hlt' : k < T.length
    · obtain ⟨ad, rfl, hb, hcell⟩ := k4.num hlt'
      have S := Lib.hid (num_step_u8 T k hlt' hs h8)
      generalize T.getD k 0 = x at *
      go_wp2
      go_round
      case rel => exact ⟨k + 1, by omega, by go_num, by rw [S.out]⟩
      case measure => simp [intOf]; omega
    · obtain rfl : k = T.length := by omega
      go_wp2
      go_ret
      exact ⟨rfl, k2, k3⟩

set_option maxHeartbeats 400000 in
theorem num_u8_bad {w : World} {g : Nat} {l : List Nat} {bad : Bool} {n : Int} (h : Cur w g l bad) (hn : bad = true ∨ n < 0 ∨ (l.length : Int) < n) (h1 : -9223372036854775808 ≤ n) (h2 : n ≤ 9223372036854775807) :
    Calls Try.prog 61 #[.pointer (some ⟨g, 0, none⟩), .int .i64 n] w (CurPost (.returned (.int .u8 0)) g [] true w) := by
  have HN := Lib.hid (next_bad h hn h1 h2)
  clear hn h1 h2 h
  go_enter Try.func61, Try.ntmps61
  go_wp2_with (first
    | (go_at_call 64; refine HN.out.mono ?_; rintro e w1 ⟨rfl, k1, k2⟩))
  refine wp_loop_rounds 1 ?_
  rw [rounds_succ]
  go_wp2
  go_ret
  exact ⟨rfl, k1, k2⟩

set_option maxHeartbeats 400000 in
theorem byte_good {w : World} {g : Nat} {l : List Nat} (h : Cur w g l false) (hn : 1 ≤ l.length) :
    Calls Try.prog 22 #[.pointer (some ⟨g, 0, none⟩)] w (CurPost (.returned (.int .u8 (num (l.take 1) : Int))) g (l.drop 1) false w) := by
  have N := Lib.hid (num_u8_good 1 h hn (by omega))
  go_enter Try.func22, Try.ntmps22
  go_wp2_with (go_at_call 61; refine N.out.mono ?_; rintro e w1 ⟨rfl, k1, k2⟩)
  go_ret
  exact ⟨rfl, k1, k2⟩

set_option maxHeartbeats 400000 in
theorem byte_bad {w : World} {g : Nat} {l : List Nat} {bad : Bool} (h : Cur w g l bad) (hn : bad = true ∨ l.length < 1) :
    Calls Try.prog 22 #[.pointer (some ⟨g, 0, none⟩)] w (CurPost (.returned (.int .u8 0)) g [] true w) := by
  have N := Lib.hid (num_u8_bad (n := 1) h (by rcases hn with hn | hn; exact .inl hn; exact .inr (.inr (by omega))) (by omega) (by omega))
  clear hn
  go_enter Try.func22, Try.ntmps22
  go_wp2_with (go_at_call 61; refine N.out.mono ?_; rintro e w1 ⟨rfl, k1, k2⟩)
  go_ret
  exact ⟨rfl, k1, k2⟩

set_option maxHeartbeats 400000 in
theorem num_u32_good {w : World} {g : Nat} {l : List Nat} (n : Nat) (h : Cur w g l false) (hn : n ≤ l.length) (hs : n ≤ 4) :
    Calls Try.prog 62 #[.pointer (some ⟨g, 0, none⟩), .int .i64 (n : Int)] w (CurPost (.returned (.int .u32 (num (l.take n) : Int))) g (l.drop n) false w) := by
  have hlt : (l.take n).length = n := by rw [List.length_take]; omega
  have N := Lib.hid (next_good h hn)
  have h8 : ∀ x ∈ l.take n, x < 256 := by
    obtain ⟨A, c, _, _, _, _, h5, _⟩ := h
    exact fun x hx => h5 x (List.mem_of_mem_take hx)
  unfold NextPost at N
  generalize l.take n = T at *
  generalize hD : l.drop n = D at *
  clear hD h hn
  go_enter Try.func62, Try.ntmps62
  go_wp2_with (first
    | (go_at_call 64; refine N.out.mono ?_; rintro e w1 ⟨A', c', rfl, k1, k2, k3⟩
       have k4 := k1.1))
  clear N
  subst hlt
  go_loop [5, 12] (fun v i => ∃ k : Nat, k ≤ T.length ∧ i = .int .i64 (k : Int) ∧ v = .int .u32 (num (T.take k) : Int)) (fun _ i => T.length - (intOf i).toNat)
  case atStart => exact ⟨0, by omega, rfl, by simp [num]⟩
  case round =>
    obtain ⟨k, hk, rfl, rfl⟩ := hrel
    by_cases hlt' : k < T.length
    · obtain ⟨ad, rfl, hb, hcell⟩ := k4.num hlt'
      have S := Lib.hid (num_step_u32 T k hlt' hs h8)
      generalize T.getD k 0 = x at *
      go_wp2
      go_round
      case rel => exact ⟨k + 1, by omega, by go_num, by rw [S.out]⟩
      case measure => simp [intOf]; omega
    · obtain rfl : k = T.length := by omega
      go_wp2
      go_ret
      exact ⟨rfl, k2, k3⟩

set_option maxHeartbeats 400000 in
theorem num_u32_bad {w : World} {g : Nat} {l : List Nat} {bad : Bool} {n : Int} (h : Cur w g l bad) (hn : bad = true ∨ n < 0 ∨ (l.length : Int) < n) (h1 : -9223372036854775808 ≤ n) (h2 : n ≤ 9223372036854775807) :
    Calls Try.prog 62 #[.pointer (some ⟨g, 0, none⟩), .int .i64 n] w (CurPost (.returned (.int .u32 0)) g [] true w) := by
  have HN := Lib.hid (next_bad h hn h1 h2)
  clear hn h1 h2 h
  go_enter Try.func62, Try.ntmps62
  go_wp2_with (first
    | (go_at_call 64; refine HN.out.mono ?_; rintro e w1 ⟨rfl, k1, k2⟩))
  refine wp_loop_rounds 1 ?_
  rw [rounds_succ]
  go_wp2
  go_ret
  exact ⟨rfl, k1, k2⟩

set_option maxHeartbeats 400000 in
theorem u32_good {w : World} {g : Nat} {l : List Nat} (h : Cur w g l false) (hn : 4 ≤ l.length) :
    Calls Try.prog 24 #[.pointer (some ⟨g, 0, none⟩)] w (CurPost (.returned (.int .u32 (num (l.take 4) : Int))) g (l.drop 4) false w) := by
  have N := Lib.hid (num_u32_good 4 h hn (by omega))
  go_enter Try.func24, Try.ntmps24
  go_wp2_with (go_at_call 62; refine N.out.mono ?_; rintro e w1 ⟨rfl, k1, k2⟩)
  go_ret
  exact ⟨rfl, k1, k2⟩

set_option maxHeartbeats 400000 in
theorem u32_bad {w : World} {g : Nat} {l : List Nat} {bad : Bool} (h : Cur w g l bad) (hn : bad = true ∨ l.length < 4) :
    Calls Try.prog 24 #[.pointer (some ⟨g, 0, none⟩)] w (CurPost (.returned (.int .u32 0)) g [] true w) := by
  have N := Lib.hid (num_u32_bad (n := 4) h (by rcases hn with hn | hn; exact .inl hn; exact .inr (.inr (by omega))) (by omega) (by omega))
  clear hn
  go_enter Try.func24, Try.ntmps24
  go_wp2_with (go_at_call 62; refine N.out.mono ?_; rintro e w1 ⟨rfl, k1, k2⟩)
  go_ret
  exact ⟨rfl, k1, k2⟩

set_option maxHeartbeats 400000 in
theorem num_u64_good {w : World} {g : Nat} {l : List Nat} (n : Nat) (h : Cur w g l false) (hn : n ≤ l.length) (hs : n ≤ 8) :
    Calls Try.prog 63 #[.pointer (some ⟨g, 0, none⟩), .int .i64 (n : Int)] w (CurPost (.returned (.int .u64 (num (l.take n) : Int))) g (l.drop n) false w) := by
  have hlt : (l.take n).length = n := by rw [List.length_take]; omega
  have N := Lib.hid (next_good h hn)
  have h8 : ∀ x ∈ l.take n, x < 256 := by
    obtain ⟨A, c, _, _, _, _, h5, _⟩ := h
    exact fun x hx => h5 x (List.mem_of_mem_take hx)
  unfold NextPost at N
  generalize l.take n = T at *
  generalize hD : l.drop n = D at *
  clear hD h hn
  go_enter Try.func63, Try.ntmps63
  go_wp2_with (first
    | (go_at_call 64; refine N.out.mono ?_; rintro e w1 ⟨A', c', rfl, k1, k2, k3⟩
       have k4 := k1.1))
  clear N
  subst hlt
  go_loop [5, 12] (fun v i => ∃ k : Nat, k ≤ T.length ∧ i = .int .i64 (k : Int) ∧ v = .int .u64 (num (T.take k) : Int)) (fun _ i => T.length - (intOf i).toNat)
  case atStart => exact ⟨0, by omega, rfl, by simp [num]⟩
  case round =>
    obtain ⟨k, hk, rfl, rfl⟩ := hrel
    by_cases hlt' : k < T.length
    · obtain ⟨ad, rfl, hb, hcell⟩ := k4.num hlt'
      have S := Lib.hid (num_step_u64 T k hlt' hs h8)
      generalize T.getD k 0 = x at *
      go_wp2
      go_round
      case rel => exact ⟨k + 1, by omega, by go_num, by rw [S.out]⟩
      case measure => simp [intOf]; omega
    · obtain rfl : k = T.length := by omega
      go_wp2
      go_ret
      exact ⟨rfl, k2, k3⟩

set_option maxHeartbeats 400000 in
theorem num_u64_bad {w : World} {g : Nat} {l : List Nat} {bad : Bool} {n : Int} (h : Cur w g l bad) (hn : bad = true ∨ n < 0 ∨ (l.length : Int) < n) (h1 : -9223372036854775808 ≤ n) (h2 : n ≤ 9223372036854775807) :
    Calls Try.prog 63 #[.pointer (some ⟨g, 0, none⟩), .int .i64 n] w (CurPost (.returned (.int .u64 0)) g [] true w) := by
  have HN := Lib.hid (next_bad h hn h1 h2)
  clear hn h1 h2 h
  go_enter Try.func63, Try.ntmps63
  go_wp2_with (first
    | (go_at_call 64; refine HN.out.mono ?_; rintro e w1 ⟨rfl, k1, k2⟩))
  refine wp_loop_rounds 1 ?_
  rw [rounds_succ]
  go_wp2
  go_ret
  exact ⟨rfl, k1, k2⟩

set_option maxHeartbeats 400000 in
theorem u64_good {w : World} {g : Nat} {l : List Nat} (h : Cur w g l false) (hn : 8 ≤ l.length) :
    Calls Try.prog 25 #[.pointer (some ⟨g, 0, none⟩)] w (CurPost (.returned (.int .u64 (num (l.take 8) : Int))) g (l.drop 8) false w) := by
  have N := Lib.hid (num_u64_good 8 h hn (by omega))
  go_enter Try.func25, Try.ntmps25
  go_wp2_with (go_at_call 63; refine N.out.mono ?_; rintro e w1 ⟨rfl, k1, k2⟩)
  go_ret
  exact ⟨rfl, k1, k2⟩

set_option maxHeartbeats 400000 in
theorem u64_bad {w : World} {g : Nat} {l : List Nat} {bad : Bool} (h : Cur w g l bad) (hn : bad = true ∨ l.length < 8) :
    Calls Try.prog 25 #[.pointer (some ⟨g, 0, none⟩)] w (CurPost (.returned (.int .u64 0)) g [] true w) := by
  have N := Lib.hid (num_u64_bad (n := 8) h (by rcases hn with hn | hn; exact .inl hn; exact .inr (.inr (by omega))) (by omega) (by omega))
  clear hn
  go_enter Try.func25, Try.ntmps25
  go_wp2_with (go_at_call 63; refine N.out.mono ?_; rintro e w1 ⟨rfl, k1, k2⟩)
  go_ret
  exact ⟨rfl, k1, k2⟩

/-- What a call answers that lays bytes: l, in memory of its own. -/
def BytesPost (l : List Nat) (w : World) (e : Ending) (w' : World) : Prop :=
  ∃ A n c, e = .returned (.slice A n c) ∧ Own w' w.heap.size 5 (.slice A n c) (nums .u8 l) ∧ Below w.heap.size w w'

set_option maxHeartbeats 400000 in
theorem put_u32 {w : World} {A : Option Addr} {n c : Nat} {l : List Nat} (x : Nat) (h : Reads w w.heap.size 1 A n (nums .u8 l)) (hl : n ≤ 140737488355200) :
    Calls Try.prog 65 #[.slice A n c, .int .u32 (x : Int), .int .i64 4] w (BytesPost (l ++ low x 4) w) := by
  obtain rfl := h.len
  go_enter Try.func65, Try.ntmps65
  go_wp2_with (first
    | (refine wpList_mk elB rfl (.tmp 10) (.tmp 14) rfl (W := w) (B := w.heap.size) l.length (l.length + 4) rfl rfl rfl (by simp) (by omega) (Below.refl _ _) (Nat.le_refl _) rfl (by omega) (by simp only [maxLen]; omega) ?_
       intro w1 hown1 hg1 hb1 hs1)
    | (refine wpList_cp elB rfl (.tmp 16) (.tmp 17) rfl (W := w) (B := w.heap.size) hown1 (h.grown_far hg1 (by simp)) rfl rfl l.length (Nat.min_self _) hb1 (Nat.le_refl _) (nums_oneCell _ _) ?_
       intro w2 hown2 hg2 hb2 hs2))
  rw [List.take_of_length_le (by rw [nums_length]; omega), List.drop_of_length_le (by simp), List.append_nil] at hown2
  have hs0 := hb2.size
  clear hown1 hg1 hb1 hs1 hg2 hs2
  go_loopw [7, 20] (fun v i wr => ∃ (k : Nat) (A : Option Addr) (c : Nat), k ≤ 4 ∧ i = .int .i64 (k : Int) ∧ v = .slice A (l.length + k) c ∧ Own wr w.heap.size 5 (.slice A (l.length + k) c) (nums .u8 (l ++ low x k)) ∧ Below w.heap.size w wr) (fun _ i _ => 4 - (intOf i).toNat)
  case atStart => exact ⟨0, _, _, by omega, rfl, rfl, by simpa [low] using hown2, hb2⟩
  case round =>
    obtain ⟨k, A', c', hk, rfl, rfl, hown, hb⟩ := hrel
    have hz := hb.size
    by_cases hlt : k < 4
    · have S := Lib.hid (byte_at x k)
      have hlen : (l ++ low x k).length = l.length + k := by rw [List.length_append, low_len]
      have HL := Lib.hid hlen
      clear hlen
      go_wp2_with (first
        | (refine wpList_pushN elB rfl (.tmp 23) (.tmp 29) rfl (W := w) (B := w.heap.size) hown rfl rfl (x / 256 ^ k % 256) (by rw [S.out]) hb (Nat.le_refl _) (by omega) (by omega) (by simp only [maxLen]; omega) ?_
           intro A3 c3 w3 _ _ hown3 hg3 hb3 _ _))
      go_roundw
      case rel => exact ⟨k + 1, A3, c3, by omega, by go_num, rfl, by rw [List.append_assoc] at hown3; exact hown3, hb3⟩
      case measure => simp [intOf]; omega
    · obtain rfl : k = 4 := by omega
      go_wp2
      go_ret
      exact ⟨A', _, c', rfl, hown, hb⟩

set_option maxHeartbeats 400000 in
theorem lay_u32 {w : World} {A : Option Addr} {n c : Nat} {l : List Nat} (x : Nat) (h : Reads w w.heap.size 1 A n (nums .u8 l)) (hl : n ≤ 140737488355200) :
    Calls Try.prog 34 #[.slice A n c, .int .u32 (x : Int)] w (BytesPost (l ++ low x 4) w) := by
  obtain rfl := h.len
  go_enter Try.func34, Try.ntmps34
  go_wp2_with (go_at_call 65; refine (put_u32 x h hl).mono ?_; rintro e w1 ⟨A', n', c', rfl, k1, k2⟩)
  go_ret
  exact ⟨A', n', c', rfl, k1, k2⟩

set_option maxHeartbeats 400000 in
theorem put_u64 {w : World} {A : Option Addr} {n c : Nat} {l : List Nat} (x : Nat) (h : Reads w w.heap.size 1 A n (nums .u8 l)) (hl : n ≤ 140737488355200) :
    Calls Try.prog 66 #[.slice A n c, .int .u64 (x : Int), .int .i64 8] w (BytesPost (l ++ low x 8) w) := by
  obtain rfl := h.len
  go_enter Try.func66, Try.ntmps66
  go_wp2_with (first
    | (refine wpList_mk elB rfl (.tmp 10) (.tmp 14) rfl (W := w) (B := w.heap.size) l.length (l.length + 8) rfl rfl rfl (by simp) (by omega) (Below.refl _ _) (Nat.le_refl _) rfl (by omega) (by simp only [maxLen]; omega) ?_
       intro w1 hown1 hg1 hb1 hs1)
    | (refine wpList_cp elB rfl (.tmp 16) (.tmp 17) rfl (W := w) (B := w.heap.size) hown1 (h.grown_far hg1 (by simp)) rfl rfl l.length (Nat.min_self _) hb1 (Nat.le_refl _) (nums_oneCell _ _) ?_
       intro w2 hown2 hg2 hb2 hs2))
  rw [List.take_of_length_le (by rw [nums_length]; omega), List.drop_of_length_le (by simp), List.append_nil] at hown2
  have hs0 := hb2.size
  clear hown1 hg1 hb1 hs1 hg2 hs2
  go_loopw [7, 20] (fun v i wr => ∃ (k : Nat) (A : Option Addr) (c : Nat), k ≤ 8 ∧ i = .int .i64 (k : Int) ∧ v = .slice A (l.length + k) c ∧ Own wr w.heap.size 5 (.slice A (l.length + k) c) (nums .u8 (l ++ low x k)) ∧ Below w.heap.size w wr) (fun _ i _ => 8 - (intOf i).toNat)
  case atStart => exact ⟨0, _, _, by omega, rfl, rfl, by simpa [low] using hown2, hb2⟩
  case round =>
    obtain ⟨k, A', c', hk, rfl, rfl, hown, hb⟩ := hrel
    have hz := hb.size
    by_cases hlt : k < 8
    · have S := Lib.hid (byte_at x k)
      have hlen : (l ++ low x k).length = l.length + k := by rw [List.length_append, low_len]
      have HL := Lib.hid hlen
      clear hlen
      go_wp2_with (first
        | (refine wpList_pushN elB rfl (.tmp 23) (.tmp 29) rfl (W := w) (B := w.heap.size) hown rfl rfl (x / 256 ^ k % 256) (by rw [S.out]) hb (Nat.le_refl _) (by omega) (by omega) (by simp only [maxLen]; omega) ?_
           intro A3 c3 w3 _ _ hown3 hg3 hb3 _ _))
      go_roundw
      case rel => exact ⟨k + 1, A3, c3, by omega, by go_num, rfl, by rw [List.append_assoc] at hown3; exact hown3, hb3⟩
      case measure => simp [intOf]; omega
    · obtain rfl : k = 8 := by omega
      go_wp2
      go_ret
      exact ⟨A', _, c', rfl, hown, hb⟩

set_option maxHeartbeats 400000 in
theorem lay_u64 {w : World} {A : Option Addr} {n c : Nat} {l : List Nat} (x : Nat) (h : Reads w w.heap.size 1 A n (nums .u8 l)) (hl : n ≤ 140737488355200) :
    Calls Try.prog 35 #[.slice A n c, .int .u64 (x : Int)] w (BytesPost (l ++ low x 8) w) := by
  obtain rfl := h.len
  go_enter Try.func35, Try.ntmps35
  go_wp2_with (go_at_call 66; refine (put_u64 x h hl).mono ?_; rintro e w1 ⟨A', n', c', rfl, k1, k2⟩)
  go_ret
  exact ⟨A', n', c', rfl, k1, k2⟩

def TakeApp (g : Nat) (a b : List Nat) (w : World) (e : Ending) (w' : World) : Prop :=
  ∃ A c, e = .returned (.slice A a.length c) ∧ Own w' w.heap.size 5 (.slice A a.length c) (nums .u8 a) ∧ Cur w' g b false ∧ w.grownBy w' (some g)
theorem take_app {w : World} {g : Nat} {a b : List Nat} (h : Cur w g (a ++ b) false) (hs : a.length ≤ 140737488355328) :
    Calls Try.prog 26 #[.pointer (some ⟨g, 0, none⟩), .int .i64 (a.length : Int)] w (TakeApp g a b w) :=
  (take_good h (by rw [List.length_append]; omega) hs).mono fun e w' ⟨A, c, h1, h2, h3, h4⟩ => ⟨A, c, h1, by rwa [List.take_left] at h2, by rwa [List.drop_left] at h3, h4⟩
theorem u32_app {w : World} {g x : Nat} {b : List Nat} (h : Cur w g (low x 4 ++ b) false) (hx : x < 4294967296) :
    Calls Try.prog 24 #[.pointer (some ⟨g, 0, none⟩)] w (CurPost (.returned (.int .u32 (x : Int))) g b false w) := by
  have := u32_good h (by rw [List.length_append, low_len]; omega)
  rwa [List.take_left' (low_len x 4), List.drop_left' (low_len x 4), num_low_of_lt (by omega)] at this
theorem u64_app {w : World} {g x : Nat} {b : List Nat} (h : Cur w g (low x 8 ++ b) false) (hx : x < 18446744073709551616) :
    Calls Try.prog 25 #[.pointer (some ⟨g, 0, none⟩)] w (CurPost (.returned (.int .u64 (x : Int))) g b false w) := by
  have := u64_good h (by rw [List.length_append, low_len]; omega)
  rwa [List.take_left' (low_len x 8), List.drop_left' (low_len x 8), num_low_of_lt (by omega)] at this
theorem byte_app {w : World} {g x : Nat} {b : List Nat} (h : Cur w g (x :: b) false) :
    Calls Try.prog 22 #[.pointer (some ⟨g, 0, none⟩)] w (CurPost (.returned (.int .u8 (x : Int))) g b false w) := by
  have := byte_good h (by simp)
  simpa [num] using this
end Go.Proofs.Ytghfdbnbgkpnaaa
