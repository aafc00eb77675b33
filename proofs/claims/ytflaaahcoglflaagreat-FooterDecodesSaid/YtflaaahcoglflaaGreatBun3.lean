/- Texts merged, for a claim has at most 60 files: StaD, Shelf, By, Lays, CurN, PackA, PackM, PackB, UnpackM, Unpack, PackO, Var, PlnM, PlnA. -/
import Derived.BigQuiet
import Derived.Deep.QuietTactic
import Derived.Lib.BitFns
import Derived.Outline
import Derived.Shelf.Strconv.Itoa0
import Derived.StillTailTactics
import Derived.Test.YtflaaahcoglflaaGreatBun1
import Derived.Test.YtflaaahcoglflaaGreatBun2
import Derived.Test.YtflaaahcoglflaaGreatProg
/- The contracts of stat.May and stat.Right. -/

namespace Go.Proofs.YtflaaahcoglflaaGreat
open Go.RowKit Go.Hm
/-- A stat whose cells are plain data. -/
def statFine (s : StatS) : Prop := (s.2.2.1.2.2.1.length ≤ 140737488351232 ∧ ∀ z ∈ s.2.2.1.2.2.1, z < 256) ∧ s.2.2.2.2.2.1.length ≤ 140737488351232 ∧ ∀ z ∈ s.2.2.2.2.2.1, z < 256
set_option maxHeartbeats 4000000 in
set_option maxRecDepth 100000 in
theorem sright_any {w : World} {t : Int} {s : StatS} (hf : statFine s) : Calls Tryz.prog 54 #[.int .i64 t, statA s] w (NewPost (.bool (rightS t s)) w) := by
  obtain ⟨M, hM⟩ : ∃ M, M = rightS t s := ⟨_, rfl⟩
  rw [← hM]
  unfold rightS at hM
  obtain ⟨n, b, p, q⟩ := s
  obtain ⟨⟨hf1, hf2⟩, hf3, hf4⟩ := hf
  dsimp only at hM hf1 hf2 hf3 hf4
  have E : ∀ W, (binOp .eql 37 (statA (n, false, p, q)) (statA (n, false, cell0, cell0))).run Tryz.prog W = .ok (.bool (decide (p = cell0) && decide (q = cell0))) W := fun W => by
    rw [eqStat_any]
    have : eqS (n, false, p, q) (n, false, cell0, cell0) = (decide (p = cell0) && decide (q = cell0)) := by
      rw [Bool.eq_iff_iff, eqS_is hf2 hf4 (by simp [cell0]) (by simp [cell0])]
      simp
    rw [this]
  have HN := fun (h1 : rightB p t false = true) (h2 : rightB q t false = true) (W : World) => compareA_any (w := W) (t := t) (a := p) (b := q) (right_near h1) (right_near h2)
  have R1 := fun (W : World) => cright_any (w := W) (b := p.1) (n := p.2.1) (s := p.2.2.1) (x := p.2.2.2.1) (y := p.2.2.2.2) (cn := []) (t := t) (nu := false) hf1
  have R2 := fun (W : World) => cright_any (w := W) (b := q.1) (n := q.2.1) (s := q.2.2.1) (x := q.2.2.2.1) (y := q.2.2.2.2) (cn := []) (t := t) (nu := false) hf3
  generalize (decide (p = cell0) && decide (q = cell0)) = eq at *
  generalize cmpD t p q = o at *
  obtain ⟨p1, p2, p3, p4, p5⟩ := p
  obtain ⟨q1, q2, q3, q4, q5⟩ := q
  dsimp only at R1 R2 hM
  generalize rightB (p1, p2, p3, p4, p5) t false = m1 at *
  generalize rightB (q1, q2, q3, q4, q5) t false = m2 at *
  have E : ∀ W, (binOp .eql 37 (.agg #[.int .i64 n, .bool false, .bool p1, .int .i64 p2, .string (bstr p3), .int .i64 p4, .int .i64 p5, .bool q1, .int .i64 q2, .string (bstr q3), .int .i64 q4, .int .i64 q5]) (.agg #[.int .i64 n, .bool false, .bool false, .int .i64 0, .string ⟨#[]⟩, .int .i64 0, .int .i64 0, .bool false, .int .i64 0, .string ⟨#[]⟩, .int .i64 0, .int .i64 0])).run Tryz.prog W = .ok (.bool eq) W := E
  have R1 : Hid (∀ W, Calls Tryz.prog 65 #[.agg #[.bool p1, .int .i64 p2, .string (bstr p3), .int .i64 p4, .int .i64 p5], .agg #[.string ⟨#[]⟩, .int .i64 t, .bool false]] W (NewPost (.bool m1) W)) := Lib.hid R1
  have R2 : Hid (∀ W, Calls Tryz.prog 65 #[.agg #[.bool q1, .int .i64 q2, .string (bstr q3), .int .i64 q4, .int .i64 q5], .agg #[.string ⟨#[]⟩, .int .i64 t, .bool false]] W (NewPost (.bool m2) W)) := Lib.hid R2
  unfold cellA cellV at HN
  dsimp only at HN
  have HN := Lib.hid HN
  show Calls Tryz.prog 54 #[.int .i64 t, .agg #[.int .i64 n, .bool b, .bool p1, .int .i64 p2, .string (bstr p3), .int .i64 p4, .int .i64 p5, .bool q1, .int .i64 q2, .string (bstr q3), .int .i64 q4, .int .i64 q5]] w (NewPost (.bool M) w)
  have B0 := Blk.new w 37 #[.int .i64 n, .bool b, .bool p1, .int .i64 p2, .string (bstr p3), .int .i64 p4, .int .i64 p5, .bool q1, .int .i64 q2, .string (bstr q3), .int .i64 q4, .int .i64 q5]
  have hb : New w (w.alloc (.cells #[.int .i64 n, .bool b, .bool p1, .int .i64 p2, .string (bstr p3), .int .i64 p4, .int .i64 p5, .bool q1, .int .i64 q2, .string (bstr q3), .int .i64 q4, .int .i64 q5] 37)) := (Below.refl _ _).alloc (Nat.le_refl _) _
  have HB0 := Lib.hid B0
  have Hb := Lib.hid hb
  obtain ⟨x0, x1, x2, x3, x4, x5, x6, x7, x8, x9, x10, x11⟩ := cells12 B0
  clear B0 hb hf1 hf2 hf3 hf4
  by_cases hr : t < 0 ∨ 3 < t ∨ n < 0 ∨ 65536 < n
  · rw [if_pos hr] at hM
    have HM := Lib.hid hM
    clear hM E
    by_cases h1 : t < 0
    all_goals try by_cases h2 : 3 < t
    all_goals try by_cases h3 : n < 0
    all_goals try (have h4 : 65536 < n := by omega)
    all_goals
      clear hr
      go_enter Tryz.func54, Tryz.ntmps54
      go_wp2
      go_ret
      exact ⟨by rw [HM.out]; rfl, Hb.out⟩
  rw [if_neg hr] at hM
  have h1 : ¬ t < 0 := by omega
  have h2 : ¬ 3 < t := by omega
  have h3 : ¬ n < 0 := by omega
  have h4 : ¬ 65536 < n := by omega
  clear hr
  cases b with
  | false =>
    rw [if_neg (by simp)] at hM
    have HM := Lib.hid hM
    clear hM
    go_enter Tryz.func54, Tryz.ntmps54
    go_wp2
    go_ret
    exact ⟨by rw [HM.out]; rfl, Hb.out⟩
  | true =>
    rw [if_pos rfl] at hM
    have HM := Lib.hid hM
    clear hM E
    go_enter Tryz.func54, Tryz.ntmps54
    go_wp2_with fail
    refine (R1.out _).mono ?_
    rintro e w1 ⟨rfl, b1⟩
    have B0 := (HB0.out.alloc _).below b1 (by simp; omega)
    have BC := (Blk.new _ _ _).below b1 (by simp)
    have hl := New.trans (New.trans Hb.out ((Below.refl _ _).alloc (Nat.le_refl _) _)) b1
    simp only [World.size_alloc] at BC
    clear x0 x1 x2 x3 x4 x5 x6 x7 x8 x9 x10 x11 HB0 Hb b1
    obtain ⟨x0, x1, x2, x3, x4, x5, x6, x7, x8, x9, x10, x11⟩ := cells12 B0
    obtain ⟨y0, y1, y2⟩ := ccells BC
    cases m1 with
    | false =>
      go_wp2_with fail
      go_ret
      exact ⟨by rw [HM.out]; rfl, hl⟩
    | true =>
      go_wp2_with fail
      refine (R2.out _).mono ?_
      rintro e w2 ⟨rfl, b2⟩
      replace B0 := B0.below b2 B0.lt
      replace hl := New.trans hl b2
      clear x0 x1 x2 x3 x4 x5 x6 x7 x8 x9 x10 x11 b2 y0 y1 y2 BC
      obtain ⟨x0, x1, x2, x3, x4, x5, x6, x7, x8, x9, x10, x11⟩ := cells12 B0
      cases m2 with
      | false =>
        go_wp2_with fail
        go_ret
        exact ⟨by rw [HM.out]; rfl, hl⟩
      | true =>
        have C := Lib.hid (HN.out (by trivial) (by trivial))
        go_wp2_with fail
        refine (C.out _).mono ?_
        rintro e w3 ⟨rfl, b3⟩
        go_wp2
        go_ret
        exact ⟨by rw [HM.out]; rfl, New.trans hl b3⟩

end Go.Proofs.YtflaaahcoglflaaGreat
/- bits.Len64's contract, laid at this seat (the fields are the program's own facts). -/

namespace Go.Proofs.YtflaaahcoglflaaGreat
open Go.Shelf
def lays129_ren : Go.Shelf.Ren := ⟨fun | 129 => 64 | n => n, fun | 53 => 78 | 3 => 3 | 4 => 4 | 46 => 94 | 5 => 5 | 9 => 9 | n => n, fun | n => n⟩
theorem lays129 : Go.Proofs.Lays.n129 Tryz.prog lays129_ren := {
  mixed := by kernel_rfl
  f129 := Tryz.func64.trans (congrArg some (by kernel_rfl))
  t3 := Tryz.underlying3
  a3 := Tryz.isAgg3
  z3 := Tryz.sizeOf3
  v3 := Tryz.zeroValue3
  t4 := Tryz.underlying4
  a4 := Tryz.isAgg4
  z4 := Tryz.sizeOf4
  v4 := Tryz.zeroValue4
  t5 := Tryz.underlying5
  a5 := Tryz.isAgg5
  z5 := Tryz.sizeOf5
  v5 := Tryz.zeroValue5
  t9 := Tryz.underlying9
  a9 := Tryz.isAgg9
  z9 := Tryz.sizeOf9
  v9 := Tryz.zeroValue9
  t46 := Tryz.underlying94
  a46 := Tryz.isAgg94
  z46 := Tryz.sizeOf94
  v46 := Tryz.zeroValue94
  t53 := Tryz.underlying78
  a53 := Tryz.isAgg78
  z53 := Tryz.sizeOf78
  v53 := Tryz.zeroValue78 }
theorem bits_Len64 (x : Int) (w : World) (h0 : 0 ≤ x) (h1 : x ≤ 18446744073709551615) :
    Calls Tryz.prog 64 #[.int .u64 x] w fun e w' => e = .returned (.int .i64 (Lib.bitLen x.toNat)) ∧ w' = w := Any.bits_Len64 lays129 x w h0 h1

end Go.Proofs.YtflaaahcoglflaaGreat
/- What a call answers that lays bytes. -/

namespace Go.Proofs.YtflaaahcoglflaaGreat
open Go.RowKit Go.Hm
/-- What a call answers that lays bytes: l, in memory of its own. -/
def BytesPost (l : List Nat) (w : World) (e : Ending) (w' : World) : Prop :=
  ∃ A n c, e = .returned (.slice A n c) ∧ Own w' w.heap.size 5 (.slice A n c) (nums .u8 l) ∧ Below w.heap.size w w'

end Go.Proofs.YtflaaahcoglflaaGreat
/- Contracts of package cursor: laying numbers. -/

namespace Go.Proofs.YtflaaahcoglflaaGreat
open Go.RowKit Go.Hm


set_option maxHeartbeats 1000000 in
set_option maxRecDepth 100000 in
theorem put_u64 {w : World} {A : Option Addr} {n c : Nat} {l : List Nat} (x : Nat) (h : Reads w w.heap.size 1 A n (nums .u8 l)) (hl : n ≤ 140737488355200) :
    Calls Tryz.prog 98 #[.slice A n c, .int .u64 (x : Int), .int .i64 8] w (BytesPost (l ++ low x 8) w) := by
  obtain rfl := h.len
  go_enter Tryz.func98, Tryz.ntmps98
  go_wp2_with (first
    | (refine wpList_mk elB rfl (.tmp 10) (.tmp 14) rfl (W := w) (B := w.heap.size) l.length (l.length + 8) rfl rfl rfl (by simp) (by omega) (Below.refl _ _) (Nat.le_refl _) rfl (by omega) (by simp only [maxLen]; omega) ?_
       intro w1 hown1 hg1 hb1 hs1)
    | (refine wpList_cp elB rfl (.tmp 16) (.tmp 17) rfl (W := w) (B := w.heap.size) hown1 (h.grown_far hg1 (by simp)) rfl rfl l.length (Nat.min_self _) hb1 (Nat.le_refl _) (nums_oneCell _ _) ?_
       intro w2 hown2 hg2 hb2 hs2))
  rw [List.take_of_length_le (by rw [nums_length]; omega), List.drop_of_length_le (by simp), List.append_nil] at hown2
  have hs0 := hb2.size
  clear hown1 hg1 hb1 hs1 hg2 hs2
  go_loopw [7, 20] (fun v i wr => ∃ (k : Nat) (A : Option Addr) (c : Nat), k ≤ 8 ∧ i = .int .i64 (k : Int) ∧ v = .slice A (l.length + k) c ∧ Own wr w.heap.size 5 (.slice A (l.length + k) c) (nums .u8 (l ++ low x k)) ∧ Below w.heap.size w wr) (fun _ i _ => 8 - (intOf i).toNat)
  case atStart => exact ⟨0, _, _, by omega, rfl, rfl, by simpa [low] using hown2, hb2⟩
  case round =>
    obtain ⟨k, A', c', hk, rfl, rfl, hown, hb⟩ := hrel
    have hz := hb.size
    by_cases hlt : k < 8
    · have S := Lib.hid (byte_at x k)
      have hlen : (l ++ low x k).length = l.length + k := by rw [List.length_append, low_len]
      have HL := Lib.hid hlen
      clear hlen
      go_wp2_with (first
        | (refine wpList_pushN elB rfl (.tmp 23) (.tmp 29) rfl (W := w) (B := w.heap.size) hown rfl rfl (x / 256 ^ k % 256) (by rw [S.out]) hb (Nat.le_refl _) (by omega) (by omega) (by simp only [maxLen]; omega) ?_
           intro A3 c3 w3 _ _ hown3 hg3 hb3 _ _))
      go_roundw
      case rel => exact ⟨k + 1, A3, c3, by omega, by go_num, rfl, by rw [List.append_assoc] at hown3; exact hown3, hb3⟩
      case measure => simp [intOf]; omega
    · obtain rfl : k = 8 := by omega
      go_wp2
      go_ret
      exact ⟨A', _, c', rfl, hown, hb⟩

set_option maxHeartbeats 1000000 in
set_option maxRecDepth 100000 in
theorem lay_u64 {w : World} {A : Option Addr} {n c : Nat} {l : List Nat} (x : Nat) (h : Reads w w.heap.size 1 A n (nums .u8 l)) (hl : n ≤ 140737488355200) :
    Calls Tryz.prog 85 #[.slice A n c, .int .u64 (x : Int)] w (BytesPost (l ++ low x 8) w) := by
  obtain rfl := h.len
  go_enter Tryz.func85, Tryz.ntmps85
  go_wp2_with (go_at_call 98; refine (put_u64 x h hl).mono ?_; rintro e w1 ⟨A', n', c', rfl, k1, k2⟩)
  go_ret
  exact ⟨A', n', c', rfl, k1, k2⟩

end Go.Proofs.YtflaaahcoglflaaGreat
/- Contracts of package cursor: numbers. -/

namespace Go.Proofs.YtflaaahcoglflaaGreat
open Go.RowKit Go.Hm

set_option maxHeartbeats 400000 in
theorem num_u8_good {w : World} {g : Nat} {l : List Nat} (n : Nat) (h : Cur w g l false) (hn : n ≤ l.length) (hs : n ≤ 1) :
    Calls Tryz.prog 57 #[.pointer (some ⟨g, 0, none⟩), .int .i64 (n : Int)] w (CurPost (.returned (.int .u8 (num (l.take n) : Int))) g (l.drop n) false w) := by
  have hlt : (l.take n).length = n := by rw [List.length_take]; omega
  have N := Lib.hid (next_good h hn)
  have h8 : ∀ x ∈ l.take n, x < 256 := by
    obtain ⟨A, c, _, _, _, _, h5, _⟩ := h
    exact fun x hx => h5 x (List.mem_of_mem_take hx)
  unfold NextPost at N
  generalize l.take n = T at *
  generalize hD : l.drop n = D at *
  clear hD h hn
  go_enter Tryz.func57, Tryz.ntmps57
  go_wp2_with (first
    | (go_at_call 56; refine N.out.mono ?_; rintro e w1 ⟨A', c', rfl, k1, k2, k3⟩
       have k4 := k1.1))
  clear N
  subst hlt
  go_loop [5, 12] (fun v i => ∃ k : Nat, k ≤ T.length ∧ i = .int .i64 (k : Int) ∧ v = .int .u8 (num (T.take k) : Int)) (fun _ i => T.length - (intOf i).toNat)
  case atStart => exact ⟨0, by omega, rfl, by simp [num]⟩
  case round =>
    obtain ⟨k, hk, rfl, rfl⟩ := hrel
    by_cases hlt' : k < T.length
    · obtain ⟨ad, rfl, hb, hcell⟩ := k4.num hlt'
      have S := Lib.hid (num_step_u8 T k hlt' hs h8)
      generalize T.getD k 0 = x at *
      go_wp2
      go_round
      case rel => exact ⟨k + 1, by omega, by go_num, by rw [S.out]⟩
      case measure => simp [intOf]; omega
    · obtain rfl : k = T.length := by omega
      go_wp2
      go_ret
      exact ⟨rfl, k2, k3⟩

set_option maxHeartbeats 400000 in
theorem num_u8_bad {w : World} {g : Nat} {l : List Nat} {bad : Bool} {n : Int} (h : Cur w g l bad) (hn : bad = true ∨ n < 0 ∨ (l.length : Int) < n) (h1 : -9223372036854775808 ≤ n) (h2 : n ≤ 9223372036854775807) :
    Calls Tryz.prog 57 #[.pointer (some ⟨g, 0, none⟩), .int .i64 n] w (CurPost (.returned (.int .u8 0)) g [] true w) := by
  have HN := Lib.hid (next_bad h hn h1 h2)
  clear hn h1 h2 h
  go_enter Tryz.func57, Tryz.ntmps57
  go_wp2_with (first
    | (go_at_call 56; refine HN.out.mono ?_; rintro e w1 ⟨rfl, k1, k2⟩))
  refine wp_loop_rounds 1 ?_
  rw [rounds_succ]
  go_wp2
  go_ret
  exact ⟨rfl, k1, k2⟩

set_option maxHeartbeats 400000 in
theorem byte_good {w : World} {g : Nat} {l : List Nat} (h : Cur w g l false) (hn : 1 ≤ l.length) :
    Calls Tryz.prog 48 #[.pointer (some ⟨g, 0, none⟩)] w (CurPost (.returned (.int .u8 (num (l.take 1) : Int))) g (l.drop 1) false w) := by
  have N := Lib.hid (num_u8_good 1 h hn (by omega))
  go_enter Tryz.func48, Tryz.ntmps48
  go_wp2_with (go_at_call 57; refine N.out.mono ?_; rintro e w1 ⟨rfl, k1, k2⟩)
  go_ret
  exact ⟨rfl, k1, k2⟩

set_option maxHeartbeats 400000 in
theorem byte_bad {w : World} {g : Nat} {l : List Nat} {bad : Bool} (h : Cur w g l bad) (hn : bad = true ∨ l.length < 1) :
    Calls Tryz.prog 48 #[.pointer (some ⟨g, 0, none⟩)] w (CurPost (.returned (.int .u8 0)) g [] true w) := by
  have N := Lib.hid (num_u8_bad (n := 1) h (by rcases hn with hn | hn; exact .inl hn; exact .inr (.inr (by omega))) (by omega) (by omega))
  clear hn
  go_enter Tryz.func48, Tryz.ntmps48
  go_wp2_with (go_at_call 57; refine N.out.mono ?_; rintro e w1 ⟨rfl, k1, k2⟩)
  go_ret
  exact ⟨rfl, k1, k2⟩


set_option maxHeartbeats 400000 in
theorem num_u64_good {w : World} {g : Nat} {l : List Nat} (n : Nat) (h : Cur w g l false) (hn : n ≤ l.length) (hs : n ≤ 8) :
    Calls Tryz.prog 104 #[.pointer (some ⟨g, 0, none⟩), .int .i64 (n : Int)] w (CurPost (.returned (.int .u64 (num (l.take n) : Int))) g (l.drop n) false w) := by
  have hlt : (l.take n).length = n := by rw [List.length_take]; omega
  have N := Lib.hid (next_good h hn)
  have h8 : ∀ x ∈ l.take n, x < 256 := by
    obtain ⟨A, c, _, _, _, _, h5, _⟩ := h
    exact fun x hx => h5 x (List.mem_of_mem_take hx)
  unfold NextPost at N
  generalize l.take n = T at *
  generalize hD : l.drop n = D at *
  clear hD h hn
  go_enter Tryz.func104, Tryz.ntmps104
  go_wp2_with (first
    | (go_at_call 56; refine N.out.mono ?_; rintro e w1 ⟨A', c', rfl, k1, k2, k3⟩
       have k4 := k1.1))
  clear N
  subst hlt
  go_loop [5, 12] (fun v i => ∃ k : Nat, k ≤ T.length ∧ i = .int .i64 (k : Int) ∧ v = .int .u64 (num (T.take k) : Int)) (fun _ i => T.length - (intOf i).toNat)
  case atStart => exact ⟨0, by omega, rfl, by simp [num]⟩
  case round =>
    obtain ⟨k, hk, rfl, rfl⟩ := hrel
    by_cases hlt' : k < T.length
    · obtain ⟨ad, rfl, hb, hcell⟩ := k4.num hlt'
      have S := Lib.hid (num_step_u64 T k hlt' hs h8)
      generalize T.getD k 0 = x at *
      go_wp2
      go_round
      case rel => exact ⟨k + 1, by omega, by go_num, by rw [S.out]⟩
      case measure => simp [intOf]; omega
    · obtain rfl : k = T.length := by omega
      go_wp2
      go_ret
      exact ⟨rfl, k2, k3⟩

set_option maxHeartbeats 400000 in
theorem num_u64_bad {w : World} {g : Nat} {l : List Nat} {bad : Bool} {n : Int} (h : Cur w g l bad) (hn : bad = true ∨ n < 0 ∨ (l.length : Int) < n) (h1 : -9223372036854775808 ≤ n) (h2 : n ≤ 9223372036854775807) :
    Calls Tryz.prog 104 #[.pointer (some ⟨g, 0, none⟩), .int .i64 n] w (CurPost (.returned (.int .u64 0)) g [] true w) := by
  have HN := Lib.hid (next_bad h hn h1 h2)
  clear hn h1 h2 h
  go_enter Tryz.func104, Tryz.ntmps104
  go_wp2_with (first
    | (go_at_call 56; refine HN.out.mono ?_; rintro e w1 ⟨rfl, k1, k2⟩))
  refine wp_loop_rounds 1 ?_
  rw [rounds_succ]
  go_wp2
  go_ret
  exact ⟨rfl, k1, k2⟩

set_option maxHeartbeats 400000 in
theorem u64_good {w : World} {g : Nat} {l : List Nat} (h : Cur w g l false) (hn : 8 ≤ l.length) :
    Calls Tryz.prog 100 #[.pointer (some ⟨g, 0, none⟩)] w (CurPost (.returned (.int .u64 (num (l.take 8) : Int))) g (l.drop 8) false w) := by
  have N := Lib.hid (num_u64_good 8 h hn (by omega))
  go_enter Tryz.func100, Tryz.ntmps100
  go_wp2_with (go_at_call 104; refine N.out.mono ?_; rintro e w1 ⟨rfl, k1, k2⟩)
  go_ret
  exact ⟨rfl, k1, k2⟩

set_option maxHeartbeats 400000 in
theorem u64_bad {w : World} {g : Nat} {l : List Nat} {bad : Bool} (h : Cur w g l bad) (hn : bad = true ∨ l.length < 8) :
    Calls Tryz.prog 100 #[.pointer (some ⟨g, 0, none⟩)] w (CurPost (.returned (.int .u64 0)) g [] true w) := by
  have N := Lib.hid (num_u64_bad (n := 8) h (by rcases hn with hn | hn; exact .inl hn; exact .inr (.inr (by omega))) (by omega) (by omega))
  clear hn
  go_enter Tryz.func100, Tryz.ntmps100
  go_wp2_with (go_at_call 104; refine N.out.mono ?_; rintro e w1 ⟨rfl, k1, k2⟩)
  go_ret
  exact ⟨rfl, k1, k2⟩

def TakeApp (g : Nat) (a b : List Nat) (w : World) (e : Ending) (w' : World) : Prop :=
  ∃ A c, e = .returned (.slice A a.length c) ∧ Own w' w.heap.size 5 (.slice A a.length c) (nums .u8 a) ∧ Cur w' g b false ∧ w.grownBy w' (some g)
theorem take_app {w : World} {g : Nat} {a b : List Nat} (h : Cur w g (a ++ b) false) (hs : a.length ≤ 140737488355328) :
    Calls Tryz.prog 47 #[.pointer (some ⟨g, 0, none⟩), .int .i64 (a.length : Int)] w (TakeApp g a b w) :=
  (take_good h (by rw [List.length_append]; omega) hs).mono fun e w' ⟨A, c, h1, h2, h3, h4⟩ => ⟨A, c, h1, by rwa [List.take_left] at h2, by rwa [List.drop_left] at h3, h4⟩
theorem u64_app {w : World} {g x : Nat} {b : List Nat} (h : Cur w g (low x 8 ++ b) false) (hx : x < 18446744073709551616) :
    Calls Tryz.prog 100 #[.pointer (some ⟨g, 0, none⟩)] w (CurPost (.returned (.int .u64 (x : Int))) g b false w) := by
  have := u64_good h (by rw [List.length_append, low_len]; omega)
  rwa [List.take_left' (low_len x 8), List.drop_left' (low_len x 8), num_low_of_lt (by omega)] at this
theorem byte_app {w : World} {g x : Nat} {b : List Nat} (h : Cur w g (x :: b) false) :
    Calls Tryz.prog 48 #[.pointer (some ⟨g, 0, none⟩)] w (CurPost (.returned (.int .u8 (x : Int))) g b false w) := by
  have := byte_good h (by simp)
  simpa [num] using this

end Go.Proofs.YtflaaahcoglflaaGreat
/- The package bitpack and its answer: widths, byte counts, comparing. -/

namespace Go.Hm
/-- The least width that holds each of l. -/
def wid (l : List Nat) : Nat := l.foldl (fun a x => max a (Lib.bitLen x)) 0
theorem bitLen_iff (n : Nat) : ∀ k, k ≤ 64 → n < 18446744073709551616 → (Lib.bitLen n ≤ k ↔ n < 2 ^ k) := by
  intro k hk hn
  refine ⟨fun h => ?_, fun h => Lib.bitLen_le n k hk h⟩
  induction k generalizing n with
  | zero =>
    by_cases h0 : n = 0
    · omega
    · have := Lib.bitLen_half n h0 hn
      omega
  | succ k ih =>
    by_cases h0 : n = 0
    · subst h0; exact Nat.two_pow_pos _
    · have h1 := Lib.bitLen_half n h0 hn
      have h2 := ih (n / 2) (by omega) (by omega) (by omega)
      rw [Nat.pow_succ]; omega
theorem bitLen64 (n : Nat) (hn : n < 18446744073709551616) : Lib.bitLen n ≤ 64 := Lib.bitLen_le n 64 (by omega) hn
theorem bitLen_or (a b : Nat) (ha : a < 18446744073709551616) (hb : b < 18446744073709551616) : Lib.bitLen (a ||| b) = max (Lib.bitLen a) (Lib.bitLen b) := by
  have hab : a ||| b < 18446744073709551616 := Nat.or_lt_two_pow (n := 64) ha hb
  have ha64 := bitLen64 a ha
  have hb64 := bitLen64 b hb
  have hab64 := bitLen64 _ hab
  have key : ∀ k, k ≤ 64 → (Lib.bitLen (a ||| b) ≤ k ↔ max (Lib.bitLen a) (Lib.bitLen b) ≤ k) := by
    intro k hk
    rw [bitLen_iff _ k hk hab, Nat.max_le, bitLen_iff a k hk ha, bitLen_iff b k hk hb]
    exact ⟨fun h => ⟨Nat.lt_of_le_of_lt Nat.left_le_or h, Nat.lt_of_le_of_lt Nat.right_le_or h⟩, fun h => Nat.or_lt_two_pow h.1 h.2⟩
  have h1 := (key _ hab64).1 (Nat.le_refl _)
  have h2 := (key (max (Lib.bitLen a) (Lib.bitLen b)) (by omega)).2 (Nat.le_refl _)
  omega
theorem wid_snoc (l : List Nat) (x : Nat) : wid (l ++ [x]) = max (wid l) (Lib.bitLen x) := by simp [wid]
/-- All bits that l has. -/
def ors (l : List Nat) : Nat := l.foldl (· ||| ·) 0
theorem ors_snoc (l : List Nat) (x : Nat) : ors (l ++ [x]) = ors l ||| x := by simp [ors]
theorem ors_both (k : Nat) (l : List Nat) (hk : k ≤ l.length) (hl : ∀ x ∈ l, x ≤ 18446744073709551615) : ors (l.take k) < 18446744073709551616 ∧ Lib.bitLen (ors (l.take k)) = wid (l.take k) := by
  induction k with
  | zero => simp [ors, wid]; decide
  | succ k ih =>
    obtain ⟨h1, h2⟩ := ih (by omega)
    have hx : l.getD k 0 ≤ 18446744073709551615 := by
      rw [List.getD_eq_getElem?_getD, List.getElem?_eq_getElem (by omega)]
      exact hl _ (List.getElem_mem (by omega))
    rw [take_snoc l k 0 (by omega), ors_snoc, wid_snoc]
    exact ⟨Nat.or_lt_two_pow (n := 64) h1 (by omega), by rw [bitLen_or _ _ h1 (by omega), h2]⟩
theorem wid_iff (l : List Nat) (k : Nat) (hk : k ≤ 64) (hl : ∀ x ∈ l, x ≤ 18446744073709551615) : wid l ≤ k ↔ ∀ x ∈ l, x < 2 ^ k := by
  have : ∀ (l : List Nat) a, (∀ x ∈ l, x ≤ 18446744073709551615) → (l.foldl (fun a x => max a (Lib.bitLen x)) a ≤ k ↔ a ≤ k ∧ ∀ x ∈ l, x < 2 ^ k) := by
    intro l
    induction l with
    | nil => intro a _; simp
    | cons y l ih =>
      intro a h
      rw [List.foldl_cons, ih _ (fun x hx => h x (by simp [hx])), Nat.max_le, bitLen_iff y k hk (by have := h y (by simp); omega)]
      simp [and_assoc]
  rw [wid, this l 0 hl]; simp
theorem wid_le (l : List Nat) (hl : ∀ x ∈ l, x ≤ 18446744073709551615) : wid l ≤ 64 := (wid_iff l 64 (by omega) hl).2 fun x hx => by have := hl x hx; omega

end Go.Hm

namespace Go.Proofs.YtflaaahcoglflaaGreat
open Go.RowKit Go.Hm

def IntPost (v : Int) (w : World) (e : Ending) (w' : World) : Prop := e = .returned (.int .i64 v) ∧ w = w'

set_option maxHeartbeats 400000 in
theorem width_any {w : World} {A : Option Addr} {n c : Nat} {L : List Nat} (h : Reads w w.heap.size 1 A n (nums .u64 L)) (hL : ∀ x ∈ L, x ≤ 18446744073709551615) (hn : n ≤ 9223372036854775807) :
    Calls Tryz.prog 97 #[.slice A n c] w (IntPost (wid L) w) := by
  obtain rfl := h.len
  go_enter Tryz.func97, Tryz.ntmps97
  go_wp2
  go_loop [3, 8] (fun v i => ∃ k : Nat, k ≤ L.length ∧ i = .int .i64 (k : Int) ∧ v = .int .u64 (ors (L.take k) : Int)) (fun _ i => L.length - (intOf i).toNat)
  case atStart => exact ⟨0, by omega, rfl, by simp [ors]⟩
  case round =>
    obtain ⟨k, hk, rfl, rfl⟩ := hrel
    have HO := ors_both k L hk hL
    by_cases hlt : k < L.length
    · obtain ⟨ad, rfl, hb, hcell⟩ := h.num hlt
      have HT := Lib.hid (take_snoc L k 0 hlt)
      have hl0 : L.getD k 0 ≤ 18446744073709551615 := by
        rw [List.getD_eq_getElem?_getD, List.getElem?_eq_getElem hlt]
        exact hL _ (List.getElem_mem hlt)
      generalize L.getD k 0 = y at *
      obtain ⟨h1, _⟩ := HO
      generalize hO : ors (L.take k) = o at *
      have HO := Lib.hid hO
      clear hO
      have hor := u64_or_nat o y h1 (by omega)
      have Hor := Lib.hid hor
      clear hor
      go_wp2
      go_round
      case rel => exact ⟨k + 1, by omega, by go_num, by rw [HT.out, ors_snoc, HO.out, Hor.out]⟩
      case measure => simp [intOf]; omega
    · obtain rfl : k = L.length := by omega
      rw [List.take_length] at *
      have LB := Lib.hid (bits_Len64 (ors L : Int) w (by omega) (by omega))
      have HO2 := Lib.hid HO.2
      clear HO
      go_wp2_with (go_at_call 64; refine LB.out.mono ?_; rintro e w' ⟨rfl, rfl⟩)
      go_ret
      exact ⟨by rw [← HO2.out]; rfl, rfl⟩



/-- How many bytes; -1 where there are too many. -/
def nby (w n : Int) : Int := if w < 0 ∨ 64 < w ∨ n < 0 ∨ 65536 < n then -1 else (w * n + 7) / 8
theorem nby_nat (x n : Nat) (hx : x ≤ 64) (hn : n ≤ 65536) : nby (x : Int) (n : Int) = (((x * n + 7) / 8 : Nat) : Int) := by
  unfold nby; rw [if_neg (by omega), ← Int.natCast_mul]; omega
set_option maxHeartbeats 400000 in
theorem bytes_any (x n : Int) (w : World) (hx0 : -9223372036854775808 ≤ x) (hx : x ≤ 9223372036854775807) (hn0 : -9223372036854775808 ≤ n) (hn : n ≤ 9223372036854775807) : Calls Tryz.prog 96 #[.int .i64 x, .int .i64 n] w (IntPost (nby x n) w) := by
  by_cases hg : 0 ≤ x ∧ x ≤ 64 ∧ 0 ≤ n ∧ n ≤ 65536
  · obtain ⟨h1, h2, h3, h4⟩ := hg
    have p0 : 0 ≤ x * n := Int.mul_nonneg h1 h3
    have p1 : x * n ≤ 64 * 65536 := Int.mul_le_mul h2 h4 h3 (by omega)
    have e : nby x n = (x * n + 7) / 8 := by unfold nby; rw [if_neg (by omega)]
    rw [e]
    have w1 : wrap64 (x * n) = x * n := by unfold wrap64; omega
    have w2 : wrap64 (x * n + 7) = x * n + 7 := by unfold wrap64; omega
    have w3 : (x * n + 7).tdiv 8 = (x * n + 7) / 8 := Int.tdiv_eq_ediv_of_nonneg (by omega)
    have w4 : wrap64 ((x * n + 7) / 8) = (x * n + 7) / 8 := by unfold wrap64; omega
    clear e
    go_enter Tryz.func96, Tryz.ntmps96
    go_wp2
    all_goals first | (exfalso; omega) | go_ret
    exact ⟨rfl, rfl⟩
  · have e : nby x n = -1 := by unfold nby; rw [if_pos (by omega)]
    rw [e]
    clear e
    go_enter Tryz.func96, Tryz.ntmps96
    go_wp2
    all_goals first | (exfalso; omega) | go_ret
    all_goals exact ⟨rfl, rfl⟩
theorem bytes_anyN (x n : Nat) (w : World) (hx : x ≤ 64) (hn : n ≤ 65536) : Calls Tryz.prog 96 #[.int .i64 (x : Int), .int .i64 (n : Int)] w (IntPost ((x * n + 7) / 8 : Nat) w) := by
  have := bytes_any x n w (by omega) (by omega) (by omega) (by omega)
  rwa [nby_nat x n hx hn] at this
set_option maxHeartbeats 400000 in
theorem rbytes_any (x n : Int) (w : World) (hx0 : -9223372036854775808 ≤ x) (hx : x ≤ 9223372036854775807) (hn0 : -9223372036854775808 ≤ n) (hn : n ≤ 9223372036854775807) : Calls Tryz.prog 74 #[.int .i64 x, .int .i64 n] w (IntPost (nby x n) w) := by
  by_cases hg : 0 ≤ x ∧ x ≤ 64 ∧ 0 ≤ n ∧ n ≤ 65536
  · obtain ⟨h1, h2, h3, h4⟩ := hg
    have p0 : 0 ≤ x * n := Int.mul_nonneg h1 h3
    have p1 : x * n ≤ 64 * 65536 := Int.mul_le_mul h2 h4 h3 (by omega)
    have e : nby x n = (x * n + 7) / 8 := by unfold nby; rw [if_neg (by omega)]
    rw [e]
    have w1 : wrap64 (x * n) = x * n := by unfold wrap64; omega
    have w2 : wrap64 (x * n + 7) = x * n + 7 := by unfold wrap64; omega
    have w3 : (x * n + 7).tdiv 8 = (x * n + 7) / 8 := Int.tdiv_eq_ediv_of_nonneg (by omega)
    have w4 : wrap64 ((x * n + 7) / 8) = (x * n + 7) / 8 := by unfold wrap64; omega
    clear e
    go_enter Tryz.func74, Tryz.ntmps74
    go_wp2
    all_goals first | (exfalso; omega) | go_ret
    exact ⟨rfl, rfl⟩
  · have e : nby x n = -1 := by unfold nby; rw [if_pos (by omega)]
    rw [e]
    clear e
    go_enter Tryz.func74, Tryz.ntmps74
    go_wp2
    all_goals first | (exfalso; omega) | go_ret
    all_goals exact ⟨rfl, rfl⟩
theorem rbytes_anyN (x n : Nat) (w : World) (hx : x ≤ 64) (hn : n ≤ 65536) : Calls Tryz.prog 74 #[.int .i64 (x : Int), .int .i64 (n : Int)] w (IntPost ((x * n + 7) / 8 : Nat) w) := by
  have := rbytes_any x n w (by omega) (by omega) (by omega) (by omega)
  rwa [nby_nat x n hx hn] at this


end Go.Proofs.YtflaaahcoglflaaGreat
/- Numbers packed into bytes, as plain lists. No program is named here. -/

namespace Go.Hm

/-- Numbers of w bits, one behind the other, as one number. -/
def pk (w : Nat) : List Nat → Nat
  | [] => 0
  | x :: l => x + 2 ^ w * pk w l
theorem pk_snoc (w : Nat) (l : List Nat) (x : Nat) : pk w (l ++ [x]) = pk w l + 2 ^ (w * l.length) * x := by
  induction l with
  | nil => simp [pk]
  | cons a l ih =>
    simp only [List.cons_append, pk, ih, List.length_cons]
    rw [Nat.mul_add, Nat.mul_succ, Nat.pow_add]
    simp only [Nat.mul_comm, Nat.mul_left_comm, Nat.add_assoc]
theorem pk_lt (w : Nat) (l : List Nat) (h : ∀ x ∈ l, x < 2 ^ w) : pk w l < 2 ^ (w * l.length) := by
  induction l with
  | nil => simp [pk]
  | cons a l ih =>
    have h1 := ih fun x hx => h x (by simp [hx])
    have h2 := h a (by simp)
    simp only [pk, List.length_cons]
    rw [Nat.mul_succ, Nat.pow_add, Nat.mul_comm (2 ^ (w * l.length))]
    have : 2 ^ w * (pk w l + 1) ≤ 2 ^ w * 2 ^ (w * l.length) := Nat.mul_le_mul_left _ h1
    rw [Nat.mul_add] at this
    omega
/-- The numbers of w bits that a number is made of. -/
def unpk (w : Nat) : Nat → Nat → List Nat
  | 0, _ => []
  | n + 1, B => unpk w n B ++ [B / 2 ^ (w * n) % 2 ^ w]
theorem unpk_len (w n B : Nat) : (unpk w n B).length = n := by induction n <;> simp_all [unpk]
theorem unpk_lt (w n B : Nat) : ∀ x ∈ unpk w n B, x < 2 ^ w := by
  induction n with
  | zero => intro x hx; simp [unpk] at hx
  | succ n ih =>
    intro x hx
    simp only [unpk, List.mem_append, List.mem_singleton] at hx
    rcases hx with hx | hx
    · exact ih x hx
    · subst hx; exact Nat.mod_lt _ (Nat.two_pow_pos w)
theorem unpk_getD (w n B i : Nat) (h : i < n) : (unpk w n B).getD i 0 = B / 2 ^ (w * i) % 2 ^ w := by
  induction n with
  | zero => omega
  | succ n ih =>
    rw [unpk, List.getD_eq_getElem?_getD]
    by_cases hi : i < n
    · rw [List.getElem?_append_left (by rw [unpk_len]; exact hi), ← List.getD_eq_getElem?_getD, ih hi]
    · obtain rfl : i = n := by omega
      rw [List.getElem?_append_right (by rw [unpk_len]; exact Nat.le_refl _), unpk_len]
      simp
theorem pk_unpk (w n B : Nat) : pk w (unpk w n B) = B % 2 ^ (w * n) := by
  induction n with
  | zero => simp [unpk, pk, Nat.mod_one]
  | succ n ih => rw [unpk, pk_snoc, ih, unpk_len, Nat.mul_succ, Nat.pow_add, Nat.mod_mul]
theorem unpk_pk (w : Nat) (l : List Nat) (h : ∀ x ∈ l, x < 2 ^ w) (B : Nat) (hB : B % 2 ^ (w * l.length) = pk w l) : unpk w l.length B = l := by
  have key : ∀ (m : List Nat), (∀ x ∈ m, x < 2 ^ w) → ∀ i, i < m.length → pk w m / 2 ^ (w * i) % 2 ^ w = m.getD i 0 := by
    intro m
    induction m with
    | nil => intro _ i hi; simp at hi
    | cons a m ih =>
      intro hm i hi
      have ha := hm a (by simp)
      cases i with
      | zero => simp [pk, Nat.add_mul_mod_self_left, Nat.mod_eq_of_lt ha]
      | succ i =>
        rw [pk, Nat.mul_succ, Nat.add_comm (w * i), Nat.pow_add, ← Nat.div_div_eq_div_mul, Nat.add_mul_div_left _ _ (Nat.two_pow_pos w), Nat.div_eq_of_lt ha, Nat.zero_add, ih (fun x hx => hm x (by simp [hx])) i (by simpa using hi)]
        simp
  refine List.ext_getElem (unpk_len _ _ _) fun i h1 h2 => ?_
  have e1 : (unpk w l.length B).getD i 0 = (unpk w l.length B)[i] := by rw [List.getD_eq_getElem?_getD, List.getElem?_eq_getElem h1]; rfl
  have e2 : l.getD i 0 = l[i] := by rw [List.getD_eq_getElem?_getD, List.getElem?_eq_getElem h2]; rfl
  rw [← e1, ← e2, unpk_getD w l.length B i h2, ← key l h i h2, ← hB]
  have hs : w * l.length = w * i + (w + w * (l.length - i - 1)) := by
    have e : l.length = i + (1 + (l.length - i - 1)) := by omega
    conv => lhs; rw [e]
    rw [Nat.mul_add, Nat.mul_add, Nat.mul_one]
  rw [hs, Nat.pow_add, Nat.mod_mul_right_div_self, Nat.pow_add, Nat.mod_mul_right_mod]

/-- A list that is as long and has the same numbers. -/
theorem low_getD (X s i : Nat) (h : i < s) : (low X s).getD i 0 = X / 256 ^ i % 256 := by
  induction s with
  | zero => omega
  | succ s ih =>
    rw [low, List.getD_eq_getElem?_getD]
    by_cases hi : i < s
    · rw [List.getElem?_append_left (by rw [low_len]; exact hi), ← List.getD_eq_getElem?_getD, ih hi]
    · obtain rfl : i = s := by omega
      rw [List.getElem?_append_right (by rw [low_len]; exact Nat.le_refl _), low_len]
      simp
theorem low_num (b : List Nat) (h : ∀ x ∈ b, x < 256) : low (num b) b.length = b := by
  have key : ∀ (m : List Nat), (∀ x ∈ m, x < 256) → ∀ i, i < m.length → num m / 256 ^ i % 256 = m.getD i 0 := by
    intro m
    induction m with
    | nil => intro _ i hi; simp at hi
    | cons a m ih =>
      intro hm i hi
      have ha := hm a (by simp)
      cases i with
      | zero => simp [num]; omega
      | succ i =>
        rw [num, Nat.pow_succ, Nat.mul_comm (256 ^ i), ← Nat.div_div_eq_div_mul, show (a + 256 * num m) / 256 = num m by omega, ih (fun x hx => hm x (by simp [hx])) i (by simpa using hi)]
        simp
  refine List.ext_getElem (low_len _ _) fun i h1 h2 => ?_
  have e1 : (low (num b) b.length).getD i 0 = (low (num b) b.length)[i] := by rw [List.getD_eq_getElem?_getD, List.getElem?_eq_getElem h1]; rfl
  have e2 : b.getD i 0 = b[i] := by rw [List.getD_eq_getElem?_getD, List.getElem?_eq_getElem h2]; rfl
  rw [← e1, ← e2, low_getD _ _ _ h2, key b h i h2]
theorem num_byte (b : List Nat) (h : ∀ x ∈ b, x < 256) (i : Nat) (hi : i < b.length) : b.getD i 0 = num b / 256 ^ i % 256 := by
  have := low_getD (num b) b.length i hi
  rwa [low_num b h] at this
theorem low_zero (s : Nat) : low 0 s = List.replicate s 0 := by
  induction s with
  | zero => rfl
  | succ s ih => rw [low, ih, List.replicate_succ']; simp
theorem p256 (k : Nat) : (256 : Nat) ^ k = 2 ^ (8 * k) := by rw [show (256 : Nat) = 2 ^ 8 from rfl, ← Nat.pow_mul]

/-- One more bit, above all that there are. -/
theorem low_set (X s a c : Nat) (ha : a < 8 * s) (hX : X < 2 ^ a) (hc : c ≤ 1) :
    (low X s).set (a / 8) ((low X s).getD (a / 8) 0 + c * 2 ^ (a % 8)) = low (X + c * 2 ^ a) s ∧ (low X s).getD (a / 8) 0 < 2 ^ (a % 8) ∧ (low X s).getD (a / 8) 0 + c * 2 ^ (a % 8) < 256 := by
  have hq : a / 8 < s := by omega
  have ea : 2 ^ a = 256 ^ (a / 8) * 2 ^ (a % 8) := by rw [p256, ← Nat.pow_add]; congr 1; omega
  have hr : 2 ^ (a % 8) ≤ 2 ^ 7 := Nat.pow_le_pow_right (by omega) (by omega)
  have h0 : X / 256 ^ (a / 8) < 2 ^ (a % 8) := by
    apply Nat.div_lt_of_lt_mul
    rw [← ea]; exact hX
  have hb : (low X s).getD (a / 8) 0 = X / 256 ^ (a / 8) := by
    rw [low_getD _ _ _ hq]; exact Nat.mod_eq_of_lt (by omega)
  have hcc : c * 2 ^ (a % 8) ≤ 2 ^ (a % 8) := by
    calc c * 2 ^ (a % 8) ≤ 1 * 2 ^ (a % 8) := Nat.mul_le_mul_right _ hc
      _ = _ := Nat.one_mul _
  have hlt : X / 256 ^ (a / 8) + c * 2 ^ (a % 8) < 256 := by omega
  refine ⟨?_, by rw [hb]; exact h0, by rw [hb]; exact hlt⟩
  refine List.ext_getElem (by simp [low_len]) fun i h1 h2 => ?_
  have h2' : i < s := by rwa [low_len] at h2
  have h1' : i < (low X s).length := by rwa [low_len]
  have e2 : (low (X + c * 2 ^ a) s)[i] = (X + c * 2 ^ a) / 256 ^ i % 256 := by
    rw [← low_getD _ _ _ h2', List.getD_eq_getElem?_getD, List.getElem?_eq_getElem h2]; rfl
  have e1 : (low X s)[i]'h1' = X / 256 ^ i % 256 := by
    rw [← low_getD _ _ _ h2', List.getD_eq_getElem?_getD, List.getElem?_eq_getElem h1']; rfl
  rw [e2, List.getElem_set]
  by_cases hi : a / 8 = i
  · subst hi
    rw [if_pos rfl, hb, ea, show c * (256 ^ (a / 8) * 2 ^ (a % 8)) = 256 ^ (a / 8) * (c * 2 ^ (a % 8)) from Nat.mul_left_comm _ _ _, Nat.add_mul_div_left _ _ (Nat.pow_pos (by omega)), Nat.mod_eq_of_lt hlt]
  · rw [if_neg hi, e1]
    rcases Nat.lt_or_gt_of_ne hi with hlt' | hgt
    · have hp : 2 ^ (a + 1) ≤ 256 ^ i := by rw [p256]; exact Nat.pow_le_pow_right (by omega) (by omega)
      have hca : c * 2 ^ a ≤ 2 ^ a := by
        calc c * 2 ^ a ≤ 1 * 2 ^ a := Nat.mul_le_mul_right _ hc
          _ = _ := Nat.one_mul _
      rw [Nat.pow_succ] at hp
      rw [Nat.div_eq_of_lt (by omega), Nat.div_eq_of_lt (by omega)]
    · have es : 2 ^ a = 256 ^ i * (256 * 2 ^ (a - 8 * (i + 1))) := by
        rw [p256, show (256 : Nat) = 2 ^ 8 from rfl, ← Nat.pow_add, ← Nat.pow_add]; congr 1; omega
      rw [es, show c * (256 ^ i * (256 * 2 ^ (a - 8 * (i + 1)))) = 256 ^ i * (256 * (c * 2 ^ (a - 8 * (i + 1)))) by simp only [Nat.mul_left_comm], Nat.add_mul_div_left _ _ (Nat.pow_pos (by omega)), Nat.add_mul_mod_self_left]
theorem mod_succ_pow (y j : Nat) : y % 2 ^ (j + 1) = y % 2 ^ j + 2 ^ j * (y / 2 ^ j % 2) := by rw [Nat.pow_succ, Nat.mod_mul]
theorem part_lt {X m : Nat} (y j : Nat) (hX : X < 2 ^ m) : X + y % 2 ^ j * 2 ^ m < 2 ^ (m + j) := by
  have h1 : y % 2 ^ j < 2 ^ j := Nat.mod_lt _ (Nat.two_pow_pos _)
  have h2 : (y % 2 ^ j + 1) * 2 ^ m ≤ 2 ^ j * 2 ^ m := Nat.mul_le_mul_right _ h1
  rw [Nat.add_mul, Nat.one_mul] at h2
  rw [Nat.pow_add, Nat.mul_comm (2 ^ m)]
  omega
theorem pack_step {X m : Nat} (s y j a q r t : Nat) (hX : X < 2 ^ m) (ha : a = m + j) (hs : a < 8 * s) (hq : q = a / 8 ∧ r = a % 8) (ht : t = y / 2 ^ j % 2) :
    (low (X + y % 2 ^ j * 2 ^ m) s).getD q 0 < 2 ^ r ∧ (low (X + y % 2 ^ j * 2 ^ m) s).set q ((low (X + y % 2 ^ j * 2 ^ m) s).getD q 0 + t * 2 ^ r) = low (X + y % 2 ^ (j + 1) * 2 ^ m) s := by
  obtain ⟨rfl, rfl⟩ := hq
  have h := low_set (X + y % 2 ^ j * 2 ^ m) s a t hs (by rw [ha]; exact part_lt y j hX) (by omega)
  refine ⟨h.2.1, h.1.trans ?_⟩
  congr 1
  rw [mod_succ_pow, Nat.add_mul, ht, ha, Nat.pow_add, Nat.add_assoc]
  congr 2
  rw [Nat.mul_comm (2 ^ m), ← Nat.mul_assoc, Nat.mul_comm (y / 2 ^ j % 2)]

end Go.Hm
/- Packing: the package bitpack and its answer. -/

namespace Go.Proofs.YtflaaahcoglflaaGreat
open Go.RowKit Go.Hm

/-- What is packed. -/
def packO (L : List Nat) (x : Int) : Option (List Nat) :=
  if 0 ≤ x ∧ x ≤ 64 ∧ L.length ≤ 65536 ∧ (wid L : Int) ≤ x then some (low (pk x.toNat L) ((x.toNat * L.length + 7) / 8)) else none
/-- What is unpacked. -/
def unpackO (b : List Nat) (x n : Int) : Option (List Nat) :=
  if 0 ≤ x ∧ x ≤ 64 ∧ 0 ≤ n ∧ n ≤ 65536 ∧ b.length = (x.toNat * n.toNat + 7) / 8 ∧ num b < 2 ^ (x.toNat * n.toNat) then some (unpk x.toNat n.toNat (num b)) else none

set_option maxHeartbeats 1000000 in
set_option maxRecDepth 100000 in
theorem pack_good {w : World} {A : Option Addr} {n c : Nat} {L : List Nat} (x : Nat) (h : Reads w w.heap.size 1 A n (nums .u64 L)) (hL : ∀ x ∈ L, x ≤ 18446744073709551615) (hn : n ≤ 65536) (hx : x ≤ 64) (hw : wid L ≤ x) :
    Calls Tryz.prog 84 #[.slice A n c, .int .i64 (x : Int)] w (OptB (some (low (pk x L) ((x * n + 7) / 8))) w) := by
  obtain rfl := h.len
  obtain ⟨s, hs⟩ : ∃ s, s = (x * L.length + 7) / 8 := ⟨_, rfl⟩
  have hp : x * L.length ≤ 64 * 65536 := Nat.mul_le_mul hx hn
  have hs1 : s ≤ 524288 := by omega
  have hs2 : x * L.length ≤ 8 * s := by omega
  have B1 := Lib.hid (bytes_anyN x L.length w hx hn)
  rw [← hs] at B1 ⊢
  have W1 := Lib.hid (width_any (c := c) h hL (by omega))
  have HS := Lib.hid hs2
  clear hs hs2 hp
  go_enter Tryz.func84, Tryz.ntmps84
  go_wp2_with (first
    | (go_at_call 96; refine B1.out.mono ?_; rintro e w1 ⟨rfl, rfl⟩)
    | (go_at_call 97; refine W1.out.mono ?_; rintro e w1 ⟨rfl, rfl⟩)
    | (refine wpList_mk elB rfl (.tmp 24) (.tmp 24) rfl (W := w) (B := w.heap.size) s s rfl rfl rfl rfl (by omega) (Below.refl _ _) (Nat.le_refl _) rfl (by omega) (by simp only [maxLen]; omega) ?_
       intro w1 hown1 hg1 hb1 hs1))
  go_loopw [8, 28] (fun a i wr => ∃ k m : Nat, k ≤ L.length ∧ m = x * k ∧ i = .int .i64 (k : Int) ∧ a = .int .i64 (m : Int) ∧ Own wr w.heap.size 5 (.slice (some ⟨w.heap.size, 0, none⟩) s s) (nums .u8 (low (pk x (L.take k)) s)) ∧ Below w.heap.size w wr) (fun _ i _ => L.length - (intOf i).toNat)
  case atStart => exact ⟨0, 0, by omega, rfl, rfl, rfl, by simpa [pk, low_zero, nums_replicate] using hown1, hb1⟩
  case round =>
    obtain ⟨k, m, hk, hm, rfl, rfl, hown, hb⟩ := hrel
    by_cases hlt : k < L.length
    · obtain ⟨ad, rfl, hbl, hcell⟩ := (h.below hb).num hlt
      have hy : L.getD k 0 < 2 ^ x := (wid_iff L x hx hL).1 hw _ (by rw [List.getD_eq_getElem?_getD, List.getElem?_eq_getElem hlt]; exact List.getElem_mem hlt)
      have hl0 : L.getD k 0 ≤ 18446744073709551615 := by
        rw [List.getD_eq_getElem?_getD, List.getElem?_eq_getElem hlt]
        exact hL _ (List.getElem_mem hlt)
      have HT := Lib.hid (take_snoc L k 0 hlt)
      have hX := pk_lt x (L.take k) (fun z hz => (wid_iff L x hx hL).1 hw z (List.mem_of_mem_take hz))
      rw [List.length_take, Nat.min_eq_left (by omega), ← hm] at hX
      have hmx : m + x ≤ 8 * s := by
        have h1 : x * (k + 1) ≤ x * L.length := Nat.mul_le_mul_left _ hlt
        rw [Nat.mul_succ] at h1
        have := HS.out
        omega
      generalize L.getD k 0 = y at *
      generalize hpk : pk x (L.take k) = X at *
      have HP := Lib.hid hpk
      clear hpk
      have Hm := Lib.hid hm
      have HX := Lib.hid hX
      have HY := Lib.hid hy
      clear hm hX hy
      go_wp2
      obtain ⟨wo, rfl⟩ : ∃ wo : World, wo = wr := ⟨_, rfl⟩
      go_loopw [8, 33] (fun a i wr => ∃ j m' : Nat, j ≤ x ∧ m' = m + j ∧ i = .int .i64 (j : Int) ∧ a = .int .i64 (m' : Int) ∧ Own wr w.heap.size 5 (.slice (some ⟨w.heap.size, 0, none⟩) s s) (nums .u8 (low (X + y % 2 ^ j * 2 ^ m) s)) ∧ Below w.heap.size w wr) (fun _ i _ => x - (intOf i).toNat)
      case atStart => exact ⟨0, m, by omega, rfl, rfl, rfl, by simpa [Nat.mod_one] using hown, hb⟩
      case round =>
        obtain ⟨j, m', hj, hm', rfl, rfl, hown, hb⟩ := hrel
        by_cases hlj : j < x
        · have hm8 : m' < 8 * s := by omega
          obtain ⟨q, r, hqr, q1, q2, q3, d1, d2⟩ := eighths m' (by omega)
          obtain ⟨hg0, hgl, hc, hf, hset⟩ := hown.num0 (i := q) (by omega)
          have Hm' := Lib.hid hm'
          have Hset := Lib.hid hset
          clear hm' hset
          generalize hbb : (low (X + y % 2 ^ j * 2 ^ m) s).getD q 0 = bb at *
          have Hbb := Lib.hid hbb
          clear hbb
          obtain ⟨t, ht, t1, t2, t3⟩ := bit64 y j hl0
          have hq4 : (q : Int) < (s : Int) := by omega
          have hq5 : (0 : Int) ≤ (q : Int) := by omega
          have P := pack_step s y j m' q r t HX.out Hm'.out hm8 hqr.out ht.out
          rw [Hbb.out] at P
          obtain ⟨z, hz⟩ : ∃ z, z = bb + t * 2 ^ r := ⟨_, rfl⟩
          have O := or_bit8 bb r t P.1 t1 q2
          rw [← hz] at O P
          have HP := Lib.hid P.2
          clear P hz
          go_wp2
          go_still_tail 15, (by kernel_rfl)
          go_wp2
          go_roundw
          case rel => exact ⟨j + 1, m' + 1, by omega, by have := Hm'.out; omega, by go_num, by go_num, by rw [← HP.out]; exact Hset.out z, by first | exact (hb.drew).setCell hg0 _ | exact hb.setCell hg0 _⟩
          case measure => simp [intOf]; omega
        · obtain rfl : j = x := by omega
          go_wp2
          go_roundw
          case rel => exact ⟨k + 1, m', by omega, by rw [hm', Hm.out, Nat.mul_succ], by go_num, rfl, by
            rw [HT.out, pk_snoc, List.length_take, Nat.min_eq_left (by omega), ← Hm.out, HP.out]
            rw [Nat.mod_eq_of_lt HY.out, Nat.mul_comm] at hown
            exact hown, hb⟩
          case measure => simp [intOf]; omega
    · obtain rfl : k = L.length := by omega
      rw [List.take_length] at hown
      go_wp2
      go_ret2
      exact ⟨_, _, _, rfl, hown, hb⟩

set_option maxHeartbeats 1000000 in
set_option maxRecDepth 100000 in
theorem pack_bad {w : World} {A : Option Addr} {n c : Nat} {L : List Nat} (x : Int) (h : Reads w w.heap.size 1 A n (nums .u64 L)) (hL : ∀ x ∈ L, x ≤ 18446744073709551615) (hn : n ≤ 9223372036854775807) (hx0 : -9223372036854775808 ≤ x) (hx : x ≤ 9223372036854775807)
    (hb : ¬ (0 ≤ x ∧ x ≤ 64 ∧ L.length ≤ 65536 ∧ (wid L : Int) ≤ x)) :
    Calls Tryz.prog 84 #[.slice A n c, .int .i64 x] w (OptB none w) := by
  obtain rfl := h.len
  have B1 := Lib.hid (bytes_any x L.length w hx0 hx (by omega) (by omega))
  have W1 := Lib.hid (width_any (c := c) h hL (by omega))
  by_cases hs : 0 ≤ x ∧ x ≤ 64 ∧ L.length ≤ 65536
  · have hy : x < (wid L : Int) := by omega
    have h0 : 0 ≤ nby x L.length := by
      unfold nby
      rw [if_neg (by omega)]
      have : 0 ≤ x * (L.length : Int) := Int.mul_nonneg (by omega) (by omega)
      omega
    clear hb hs
    generalize nby x L.length = B at *
    generalize wid L = W at *
    go_enter Tryz.func84, Tryz.ntmps84
    go_wp2_with (first
      | (go_at_call 96; refine B1.out.mono ?_; rintro e w1 ⟨rfl, rfl⟩)
      | (go_at_call 97; refine W1.out.mono ?_; rintro e w1 ⟨rfl, rfl⟩))
    go_ret2
    exact ⟨rfl, Below.refl _ _⟩
  · have h0 : nby x L.length = -1 := by unfold nby; rw [if_pos (by omega)]
    rw [h0] at B1
    clear hb hs h0
    go_enter Tryz.func84, Tryz.ntmps84
    go_wp2_with (first
      | (go_at_call 96; refine B1.out.mono ?_; rintro e w1 ⟨rfl, rfl⟩))
    go_ret2
    exact ⟨rfl, Below.refl _ _⟩
theorem pack_any {w : World} {A : Option Addr} {n c : Nat} {L : List Nat} (x : Int) (h : Reads w w.heap.size 1 A n (nums .u64 L)) (hL : ∀ x ∈ L, x ≤ 18446744073709551615) (hn : n ≤ 9223372036854775807) (hx0 : -9223372036854775808 ≤ x) (hx : x ≤ 9223372036854775807) :
    Calls Tryz.prog 84 #[.slice A n c, .int .i64 x] w (OptB (packO L x) w) := by
  have hl := h.len
  unfold packO
  split
  · rename_i hg
    obtain ⟨y, rfl⟩ := Int.eq_ofNat_of_zero_le hg.1
    have := pack_good (c := c) y h hL (by omega) (by omega) (by omega)
    rw [hl] at this ⊢
    exact this
  · rename_i hg
    exact pack_bad x h hL hn hx0 hx hg

end Go.Proofs.YtflaaahcoglflaaGreat
/- Numbers taken out of bytes, as plain lists. No program is named here. -/

namespace Go.Hm
/-- p numbers, k bits of the next one, and nothing yet of the others. -/
def ul (w p k B n : Nat) : List Nat := unpk w p B ++ (B / 2 ^ (w * p) % 2 ^ k) :: List.replicate (n - p - 1) 0
theorem ul_zero (w p B n : Nat) (h : p < n) : unpk w p B ++ List.replicate (n - p) 0 = ul w p 0 B n := by
  rw [ul, show n - p = (n - p - 1) + 1 by omega, List.replicate_succ, Nat.pow_zero, Nat.mod_one]
  rfl
theorem ul_all (w p B n : Nat) : ul w p w B n = unpk w (p + 1) B ++ List.replicate (n - (p + 1)) 0 := by
  rw [ul, unpk, List.append_assoc, show n - p - 1 = n - (p + 1) by omega]
  rfl
theorem ul_len (w p k B n : Nat) (h : p < n) : (ul w p k B n).length = n := by
  rw [ul, List.length_append, unpk_len, List.length_cons, List.length_replicate]; omega
theorem ul_getD (w p k B n : Nat) : (ul w p k B n).getD p 0 = B / 2 ^ (w * p) % 2 ^ k := by
  rw [ul, List.getD_eq_getElem?_getD, List.getElem?_append_right (by rw [unpk_len]; exact Nat.le_refl _), unpk_len]
  simp
theorem ul_step (w p k B n a t : Nat) (ha : a = w * p + k) (ht : t = B / 2 ^ a % 2) : (ul w p k B n).set p (B / 2 ^ (w * p) % 2 ^ k + t * 2 ^ k) = ul w p (k + 1) B n := by
  have e : B / 2 ^ (w * p) % 2 ^ (k + 1) = B / 2 ^ (w * p) % 2 ^ k + t * 2 ^ k := by
    rw [mod_succ_pow, Nat.div_div_eq_div_mul, ← Nat.pow_add, ← ha, ← ht, Nat.mul_comm t]
  rw [ul, ul, e, List.set_append_right _ _ (by rw [unpk_len]; exact Nat.le_refl _), unpk_len, Nat.sub_self]
  rfl
theorem bit_at (b : List Nat) (h : ∀ x ∈ b, x < 256) (a q r : Nat) (hq : q = a / 8 ∧ r = a % 8) (ha : a < 8 * b.length) : b.getD q 0 / 2 ^ r % 2 = num b / 2 ^ a % 2 := by
  obtain ⟨rfl, rfl⟩ := hq
  rw [num_byte b h _ (by omega)]
  have e : (256 : Nat) = 2 ^ (a % 8) * 2 ^ (8 - a % 8) := by rw [← Nat.pow_add, show a % 8 + (8 - a % 8) = 8 by omega]
  have e2 : 2 ^ (8 - a % 8) = 2 * 2 ^ (7 - a % 8) := by rw [← Nat.pow_succ']; congr 1; omega
  rw [show num b / 256 ^ (a / 8) % 256 = num b / 256 ^ (a / 8) % (2 ^ (a % 8) * 2 ^ (8 - a % 8)) by rw [← e], Nat.mod_mul_right_div_self, e2, Nat.mod_mul_right_mod, Nat.div_div_eq_div_mul, p256, ← Nat.pow_add]
  congr 3
  omega
/-- Whether what is left of the last byte is 0. -/
theorem num_last (b : List Nat) (h : ∀ x ∈ b, x < 256) (M r : Nat) (hl : b.length = (M + 7) / 8) (hr : r = M % 8) : num b < 2 ^ M ↔ (r = 0 ∨ b.getD (b.length - 1) 0 / 2 ^ r = 0) := by
  have hb := num_lt b h
  by_cases h0 : r = 0
  · have : M = 8 * b.length := by omega
    rw [p256, ← this] at hb
    simp [h0, hb]
  · have hl2 : b.length - 1 < b.length := by omega
    have hM : M = 8 * (b.length - 1) + r := by omega
    have e := num_byte b h _ hl2
    have hlt : num b / 256 ^ (b.length - 1) < 256 := by
      apply Nat.div_lt_of_lt_mul
      rw [← Nat.pow_succ, show (b.length - 1).succ = b.length by omega]
      exact hb
    rw [Nat.mod_eq_of_lt hlt] at e
    rw [e, hM, Nat.pow_add, ← p256]
    constructor
    · intro hh
      exact .inr (Nat.div_eq_of_lt (Nat.div_lt_of_lt_mul hh))
    · rintro (hh | hh)
      · exact absurd hh h0
      · have h1 : num b / 256 ^ (b.length - 1) < 2 ^ r := by
          rcases Nat.lt_or_ge (num b / 256 ^ (b.length - 1)) (2 ^ r) with h2 | h2
          · exact h2
          · have := Nat.div_pos h2 (Nat.two_pow_pos r)
            omega
        rw [Nat.mul_comm]
        exact (Nat.div_lt_iff_lt_mul (Nat.pow_pos (by omega))).1 h1
theorem or_bit64 (v k t : Nat) (hv : v < 2 ^ k) (ht : t ≤ 1) (hk : k < 64) : bits .or .u64 (v : Int) (IntKind.u64.wrap ((t : Int) * 2 ^ k)) = ((v + t * 2 ^ k : Nat) : Int) := by
  have h7 : 2 ^ (k + 1) ≤ 2 ^ 64 := Nat.pow_le_pow_right (by omega) (by omega)
  rw [Nat.pow_succ] at h7
  have hq : t * 2 ^ k ≤ 1 * 2 ^ k := Nat.mul_le_mul_right _ ht
  have e : IntKind.u64.wrap ((t : Int) * 2 ^ k) = ((t * 2 ^ k : Nat) : Int) := by
    have e2 : ((t * 2 ^ k : Nat) : Int) = (t : Int) * 2 ^ k := by simp
    rw [← e2, IntKind.wrap_u64]; omega
  rw [e, u64_or_nat _ _ (by omega) (by omega), Nat.or_comm, ← Nat.mul_comm (2 ^ k), ← Nat.two_pow_add_eq_or_of_lt hv, Nat.add_comm]

/-- One more bit, above all that there are. -/
theorem unpk_set (w n X a c : Nat) (hw : 0 < w) (ha : a < w * n) (hX : X < 2 ^ a) (hc : c ≤ 1) :
    (unpk w n X).set (a / w) ((unpk w n X).getD (a / w) 0 + c * 2 ^ (a % w)) = unpk w n (X + c * 2 ^ a) ∧ (unpk w n X).getD (a / w) 0 < 2 ^ (a % w) := by
  have hq : a / w < n := Nat.div_lt_of_lt_mul ha
  have hr := Nat.mod_lt a hw
  have hda := Nat.div_add_mod a w
  have ea : 2 ^ a = 2 ^ (w * (a / w)) * 2 ^ (a % w) := by rw [← Nat.pow_add, hda]
  have hrw : 2 ^ (a % w + 1) ≤ 2 ^ w := Nat.pow_le_pow_right (by omega) (by omega)
  rw [Nat.pow_succ] at hrw
  have h0 : X / 2 ^ (w * (a / w)) < 2 ^ (a % w) := by
    apply Nat.div_lt_of_lt_mul
    rw [← ea]; exact hX
  have hb : (unpk w n X).getD (a / w) 0 = X / 2 ^ (w * (a / w)) := by
    rw [unpk_getD _ _ _ _ hq]; exact Nat.mod_eq_of_lt (by omega)
  have hcc : c * 2 ^ (a % w) ≤ 1 * 2 ^ (a % w) := Nat.mul_le_mul_right _ hc
  have hlt : X / 2 ^ (w * (a / w)) + c * 2 ^ (a % w) < 2 ^ w := by omega
  refine ⟨?_, by rw [hb]; exact h0⟩
  refine List.ext_getElem (by simp [unpk_len]) fun i h1 h2 => ?_
  have h2' : i < n := by rwa [unpk_len] at h2
  have h1' : i < (unpk w n X).length := by rwa [unpk_len]
  have e2 : (unpk w n (X + c * 2 ^ a))[i] = (X + c * 2 ^ a) / 2 ^ (w * i) % 2 ^ w := by
    rw [← unpk_getD _ _ _ _ h2', List.getD_eq_getElem?_getD, List.getElem?_eq_getElem h2]; rfl
  have e1 : (unpk w n X)[i]'h1' = X / 2 ^ (w * i) % 2 ^ w := by
    rw [← unpk_getD _ _ _ _ h2', List.getD_eq_getElem?_getD, List.getElem?_eq_getElem h1']; rfl
  rw [e2, List.getElem_set]
  by_cases hi : a / w = i
  · subst hi
    rw [if_pos rfl, hb, ea, show c * (2 ^ (w * (a / w)) * 2 ^ (a % w)) = 2 ^ (w * (a / w)) * (c * 2 ^ (a % w)) from Nat.mul_left_comm _ _ _, Nat.add_mul_div_left _ _ (Nat.two_pow_pos _), Nat.mod_eq_of_lt hlt]
  · rw [if_neg hi, e1]
    rcases Nat.lt_or_gt_of_ne hi with hlt' | hgt
    · have hwi : w * (a / w + 1) ≤ w * i := Nat.mul_le_mul_left _ hlt'
      rw [Nat.mul_succ] at hwi
      have hp : 2 ^ (a + 1) ≤ 2 ^ (w * i) := Nat.pow_le_pow_right (by omega) (by omega)
      have hca : c * 2 ^ a ≤ 1 * 2 ^ a := Nat.mul_le_mul_right _ hc
      rw [Nat.pow_succ] at hp
      rw [Nat.div_eq_of_lt (by omega), Nat.div_eq_of_lt (by omega)]
    · have hwi : w * (i + 1) ≤ w * (a / w) := Nat.mul_le_mul_left _ hgt
      rw [Nat.mul_succ] at hwi
      have es : 2 ^ a = 2 ^ (w * i) * (2 ^ w * 2 ^ (a - (w * i + w))) := by
        rw [← Nat.pow_add, ← Nat.pow_add]; congr 1; omega
      rw [es, show c * (2 ^ (w * i) * (2 ^ w * 2 ^ (a - (w * i + w)))) = 2 ^ (w * i) * (2 ^ w * (c * 2 ^ (a - (w * i + w)))) by simp only [Nat.mul_left_comm], Nat.add_mul_div_left _ _ (Nat.two_pow_pos _), Nat.add_mul_mod_self_left]
theorem unpk_zero (w n : Nat) : unpk w n 0 = List.replicate n 0 := by
  induction n with
  | zero => rfl
  | succ n ih => rw [unpk, ih, List.replicate_succ']; simp
theorem and_bit8 (y r t : Nat) (hy : y < 256) (ht : t = y / 2 ^ r % 2) : bits .and .u8 ((y : Int) / 2 ^ r) 1 = (t : Int) := by
  have h1 : y / 2 ^ r ≤ y := Nat.div_le_self _ _
  have := u8_and_nat (y / 2 ^ r) 1 (by omega) (by omega)
  rw [Nat.and_one_is_mod, ← ht] at this
  rw [← this]
  congr 1

end Go.Hm
/- Unpacking: the package bitpack and its answer. -/

namespace Go.Proofs.YtflaaahcoglflaaGreat
open Go.RowKit Go.Hm

theorem optW_if {c : Prop} [Decidable c] {l : List Nat} {w w' : World} {e : Ending} (h : (c → OptW (some l) w e w') ∧ (¬ c → OptW none w e w')) : OptW (if c then some l else none) w e w' := by
  split
  · exact h.1 ‹_›
  · exact h.2 ‹_›

set_option maxHeartbeats 1000000 in
set_option maxRecDepth 100000 in
theorem unpack_good {w : World} {A : Option Addr} {m c : Nat} {b : List Nat} (x n : Nat) (h : Reads w w.heap.size 1 A m (nums .u8 b)) (h8 : ∀ x ∈ b, x < 256) (hx : x ≤ 64) (hn : n ≤ 65536) (hm : b.length = (x * n + 7) / 8) (hN : num b < 2 ^ (x * n)) :
    Calls Tryz.prog 99 #[.slice A m c, .int .i64 (x : Int), .int .i64 (n : Int)] w (OptW (some (unpk x n (num b))) w) := by
  obtain rfl := h.len
  have B1 := Lib.hid (bytes_anyN x n w hx hn)
  rw [← hm] at B1
  have hp : x * n ≤ 64 * 65536 := Nat.mul_le_mul hx hn
  obtain ⟨M, hM⟩ : ∃ M, M = x * n := ⟨_, rfl⟩
  rw [← hM] at hp hN hm
  have hMI : (x : Int) * (n : Int) = (M : Int) := by rw [hM, Int.natCast_mul]
  have NL := (num_last b h8 M (M % 8) hm rfl).1 hN
  obtain ⟨q, r, hqr, q1, q2, q3, d1, d2⟩ := eighths M (by omega)
  rw [← hqr.out.2] at NL
  have hl1 : b.length ≤ 524288 := by omega
  have hl2 : M ≤ 8 * b.length := by omega
  have HM := Lib.hid hM
  have Hm := Lib.hid hm
  clear hM hm hN d1
  by_cases hr : r = 0
  all_goals first
    | (subst hr
       clear NL)
    | (have hl0 : b.length - 1 < b.length := by have := Hm.out; have := hqr.out.2; omega
       obtain ⟨ad, rfl, hbl, hcell⟩ := h.num hl0
       have hr0 : (0 : Int) < (r : Int) := by omega
       have hlI : (1 : Int) ≤ (b.length : Int) := by omega
       have hL := NL.resolve_left hr
       generalize b.getD (b.length - 1) 0 = y at *
       have hz : ((y : Int) / 2 ^ r != 0) = false := by
         have e : ((y : Int) / 2 ^ r) = ((y / 2 ^ r : Nat) : Int) := by simp
         rw [e, hL]; rfl
       clear NL hL hr)
  all_goals
    go_enter Tryz.func99, Tryz.ntmps99
    go_wp2_with (first
      | (go_at_call 96; refine B1.out.mono ?_; rintro e w1 ⟨rfl, rfl⟩)
      | (refine wpList_mk elW rfl (.tmp 36) (.tmp 36) rfl (W := w) (B := w.heap.size) n n rfl rfl rfl rfl (by omega) (Below.refl _ _) (Nat.le_refl _) rfl (by omega) (by simp only [maxLen]; omega) ?_
         intro w1 hown1 hg1 hb1 hs1))
    go_loopw [10, 39] (fun a i wr => ∃ k m : Nat, k ≤ n ∧ m = x * k ∧ i = .int .i64 (k : Int) ∧ a = .int .i64 (m : Int) ∧ Own wr w.heap.size 78 (.slice (some ⟨w.heap.size, 0, none⟩) n n) (nums .u64 (unpk x k (num b) ++ List.replicate (n - k) 0)) ∧ Below w.heap.size w wr) (fun _ i _ => n - (intOf i).toNat)
    case atStart => exact ⟨0, 0, by omega, rfl, rfl, rfl, by simpa [unpk, nums_replicate] using hown1, hb1⟩
    case round =>
      obtain ⟨k, m, hk, hm, rfl, rfl, hown, hb⟩ := hrel
      by_cases hlt : k < n
      · rw [ul_zero x k (num b) n hlt] at hown
        have hmx : m + x ≤ M := by
          have h1 : x * (k + 1) ≤ x * n := Nat.mul_le_mul_left _ hlt
          rw [Nat.mul_succ] at h1
          have := HM.out
          omega
        have Hm := Lib.hid hm
        clear hm
        go_wp2
        obtain ⟨wo, rfl⟩ : ∃ wo : World, wo = wr := ⟨_, rfl⟩
        go_loopw [10, 43] (fun a i wr => ∃ j m' : Nat, j ≤ x ∧ m' = m + j ∧ i = .int .i64 (j : Int) ∧ a = .int .i64 (m' : Int) ∧ Own wr w.heap.size 78 (.slice (some ⟨w.heap.size, 0, none⟩) n n) (nums .u64 (ul x k j (num b) n)) ∧ Below w.heap.size w wr) (fun _ i _ => x - (intOf i).toNat)
        case atStart => exact ⟨0, m, by omega, rfl, rfl, rfl, hown, hb⟩
        case round =>
          obtain ⟨j, m', hj, hm', rfl, rfl, hown, hb⟩ := hrel
          by_cases hlj : j < x
          · have hm8 : m' < 8 * b.length := by omega
            obtain ⟨q, r, hqr, q1, q2, q3, d1, d2⟩ := eighths m' (by omega)
            obtain ⟨hg0, hgl, hc, hf, hset⟩ := hown.num0 (i := k) hlt
            have Hm' := Lib.hid hm'
            have Hset := Lib.hid hset
            clear hm' hset
            obtain ⟨ad1, e1, hbl1, hcb⟩ := (h.below hb).num (i := q) (by omega)
            first | (subst e1; skip) | (injection e1 with e1; subst e1)
            obtain ⟨t, ht⟩ : ∃ t, t = num b / 2 ^ m' % 2 := ⟨_, rfl⟩
            have hbit := bit_at b h8 m' q r hqr.out hm8
            have ht1 : t ≤ 1 := by omega
            have S := ul_step x k j (num b) n m' t (by rw [Hm'.out, Hm.out]) ht
            rw [ul_getD] at hc
            rw [← ht] at hbit
            have hv : num b / 2 ^ (x * k) % 2 ^ j < 2 ^ j := Nat.mod_lt _ (Nat.two_pow_pos _)
            generalize num b / 2 ^ (x * k) % 2 ^ j = v at *
            have hy := getD_lt b q h8
            generalize b.getD q 0 = y at *
            have O := or_bit64 v j t hv ht1 (by omega)
            obtain ⟨z, hz⟩ : ∃ z, z = v + t * 2 ^ j := ⟨_, rfl⟩
            rw [← hz] at O S
            have T1 := and_bit8 y r t hy hbit.symm
            have T2 : IntKind.u64.wrap (t : Int) = (t : Int) := by rw [IntKind.wrap_u64]; omega
            have HS := Lib.hid S
            have hq4 : (q : Int) < (b.length : Int) := by omega
            have hq5 : (0 : Int) ≤ (q : Int) := by omega
            have hq6 : (k : Int) < (n : Int) := by omega
            have hq7 : (0 : Int) ≤ (k : Int) := by omega
            clear S hz ht hbit hv
            go_wp2
            go_still_tail 18, (by kernel_rfl)
            go_wp2
            go_roundw
            case rel => exact ⟨j + 1, m' + 1, by omega, by have := Hm'.out; omega, by go_num, by go_num, by rw [← HS.out]; exact Hset.out z, by first | exact (hb.drew).setCell hg0 _ | exact hb.setCell hg0 _⟩
            case measure => simp [intOf]; omega
          · obtain rfl : j = x := by omega
            rw [ul_all] at hown
            go_wp2
            go_roundw
            case rel => exact ⟨k + 1, m', by omega, by rw [hm', Hm.out, Nat.mul_succ], by go_num, rfl, hown, hb⟩
            case measure => simp [intOf]; omega
      · obtain rfl : k = n := by omega
        rw [Nat.sub_self, List.replicate_zero, List.append_nil] at hown
        go_wp2
        go_ret2
        exact ⟨_, _, _, rfl, hown, hb⟩

set_option maxHeartbeats 1000000 in
set_option maxRecDepth 100000 in
theorem unpack_bad {w : World} {A : Option Addr} {m c : Nat} {b : List Nat} (x n : Int) (h : Reads w w.heap.size 1 A m (nums .u8 b)) (h8 : ∀ x ∈ b, x < 256) (hm : m ≤ 9223372036854775807) (hx0 : -9223372036854775808 ≤ x) (hx : x ≤ 9223372036854775807) (hn0 : -9223372036854775808 ≤ n) (hn : n ≤ 9223372036854775807)
    (hb : ¬ (0 ≤ x ∧ x ≤ 64 ∧ 0 ≤ n ∧ n ≤ 65536 ∧ b.length = (x.toNat * n.toNat + 7) / 8 ∧ num b < 2 ^ (x.toNat * n.toNat))) :
    Calls Tryz.prog 99 #[.slice A m c, .int .i64 x, .int .i64 n] w (OptW none w) := by
  obtain rfl := h.len
  have B1 := Lib.hid (bytes_any x n w hx0 hx hn0 hn)
  by_cases hs : (b.length : Int) = nby x n
  · have hg : 0 ≤ x ∧ x ≤ 64 ∧ 0 ≤ n ∧ n ≤ 65536 := by
      unfold nby at hs
      split at hs <;> omega
    obtain ⟨x, rfl⟩ := Int.eq_ofNat_of_zero_le hg.1
    obtain ⟨n, rfl⟩ := Int.eq_ofNat_of_zero_le hg.2.2.1
    rw [nby_nat x n (by omega) (by omega)] at hs B1
    have hs' : b.length = (x * n + 7) / 8 := by omega
    rw [← hs'] at B1
    obtain ⟨M, hM⟩ : ∃ M, M = x * n := ⟨_, rfl⟩
    have hp : x * n ≤ 64 * 65536 := Nat.mul_le_mul (by omega) (by omega)
    have hN : ¬ num b < 2 ^ M := by
      intro hN
      refine hb ⟨by omega, by omega, by omega, by omega, ?_, ?_⟩
      · simpa using hs'
      · simpa [← hM] using hN
    rw [← hM] at hp hs'
    have hMI : (x : Int) * (n : Int) = (M : Int) := by rw [hM, Int.natCast_mul]
    obtain ⟨q, r, hqr, q1, q2, q3, d1, d2⟩ := eighths M (by omega)
    have NL := (not_congr (num_last b h8 M r hs' hqr.out.2)).1 hN
    have hM8 := hqr.out.2
    have hr : ¬ r = 0 := fun e => NL (.inl e)
    have hL : ¬ b.getD (b.length - 1) 0 / 2 ^ r = 0 := fun e => NL (.inr e)
    have hl0 : b.length - 1 < b.length := by omega
    obtain ⟨ad, rfl, hbl, hcell⟩ := h.num hl0
    have hr0 : (0 : Int) < (r : Int) := by omega
    have hlI : (1 : Int) ≤ (b.length : Int) := by omega
    generalize b.getD (b.length - 1) 0 = y at *
    have hz : ((y : Int) / 2 ^ r != 0) = true := by
      have e : ((y : Int) / 2 ^ r) = ((y / 2 ^ r : Nat) : Int) := by simp
      rw [e, bne_iff_ne]; omega
    clear NL hL hr hM8 hN hs' hb hg hs d1
    have HM := Lib.hid hM
    clear hM
    go_enter Tryz.func99, Tryz.ntmps99
    go_wp2_with (first
      | (go_at_call 96; refine B1.out.mono ?_; rintro e w1 ⟨rfl, rfl⟩))
    go_ret2
    exact ⟨rfl, Below.refl _ _⟩
  · have hs1 : ((b.length : Int) != nby x n) = true := by rw [bne_iff_ne]; exact hs
    generalize nby x n = B at *
    clear hs hb
    go_enter Tryz.func99, Tryz.ntmps99
    go_wp2_with (first
      | (go_at_call 96; refine B1.out.mono ?_; rintro e w1 ⟨rfl, rfl⟩))
    go_ret2
    exact ⟨rfl, Below.refl _ _⟩
theorem unpack_any {w : World} {A : Option Addr} {m c : Nat} {b : List Nat} (x n : Int) (h : Reads w w.heap.size 1 A m (nums .u8 b)) (h8 : ∀ x ∈ b, x < 256) (hm : m ≤ 9223372036854775807) (hx0 : -9223372036854775808 ≤ x) (hx : x ≤ 9223372036854775807) (hn0 : -9223372036854775808 ≤ n) (hn : n ≤ 9223372036854775807) :
    Calls Tryz.prog 99 #[.slice A m c, .int .i64 x, .int .i64 n] w (OptW (unpackO b x n) w) := by
  unfold unpackO
  split
  · rename_i hg
    obtain ⟨x, rfl⟩ := Int.eq_ofNat_of_zero_le hg.1
    obtain ⟨n, rfl⟩ := Int.eq_ofNat_of_zero_le hg.2.2.1
    simp only [Int.toNat_natCast] at hg ⊢
    exact unpack_good x n h h8 (by omega) (by omega) hg.2.2.2.2.1 hg.2.2.2.2.2
  · rename_i hg
    exact unpack_bad x n h h8 hm hx0 hx hn0 hn hg

set_option maxHeartbeats 1000000 in
set_option maxRecDepth 100000 in
theorem runpack_if {w : World} {A : Option Addr} {m c : Nat} {b : List Nat} (x n : Nat) (h : Reads w w.heap.size 1 A m (nums .u8 b)) (h8 : ∀ x ∈ b, x < 256) (hx : x ≤ 64) (hn : n ≤ 65536) (hm : b.length = (x * n + 7) / 8) :
    Calls Tryz.prog 59 #[.slice A m c, .int .i64 (x : Int), .int .i64 (n : Int)] w (OptW (if num b < 2 ^ (x * n) then some (unpk x n (num b)) else none) w) := by
  obtain rfl := h.len
  have B1 := Lib.hid (rbytes_anyN x n w hx hn)
  rw [← hm] at B1
  have hp : x * n ≤ 64 * 65536 := Nat.mul_le_mul hx hn
  obtain ⟨M, hM⟩ : ∃ M, M = x * n := ⟨_, rfl⟩
  rw [← hM] at hp hm ⊢
  have hMI : (x : Int) * (n : Int) = (M : Int) := by rw [hM, Int.natCast_mul]
  have hl1 : b.length ≤ 524288 := by omega
  have hl2 : M ≤ 8 * b.length := by omega
  have HM := Lib.hid hM
  have Hm := Lib.hid hm
  clear hM hm
  generalize hO : (if num b < 2 ^ M then some (unpk x n (num b)) else none) = o
  have HO := Lib.hid hO
  clear hO
  go_enter Tryz.func59, Tryz.ntmps59
  go_wp2_with (first
    | (go_at_call 74; refine B1.out.mono ?_; rintro e w1 ⟨rfl, rfl⟩)
    | (refine wpList_mk elW rfl (.tmp 23) (.tmp 23) rfl (W := w) (B := w.heap.size) n n rfl rfl rfl rfl (by omega) (Below.refl _ _) (Nat.le_refl _) rfl (by omega) (by simp only [maxLen]; omega) ?_
       intro w1 hown1 hg1 hb1 hs1))
  go_loopw [10] (fun i wr => ∃ a : Nat, a ≤ 8 * b.length ∧ i = .int .i64 (a : Int) ∧ num b % 2 ^ a < 2 ^ M ∧ Own wr w.heap.size 78 (.slice (some ⟨w.heap.size, 0, none⟩) n n) (nums .u64 (unpk x n (num b % 2 ^ a))) ∧ Below w.heap.size w wr) (fun i _ => 8 * b.length - (intOf i).toNat)
  case atStart => exact ⟨0, by omega, rfl, by rw [Nat.pow_zero, Nat.mod_one]; exact Nat.two_pow_pos _, by simpa [Nat.mod_one, unpk_zero, nums_replicate] using hown1, hb1⟩
  case round =>
    obtain ⟨a, ha, rfl, hlo, hown, hb⟩ := hrel
    by_cases hlt : a < 8 * b.length
    · obtain ⟨q, r, hqr, q1, q2, q3, d1, d2⟩ := eighths a (by omega)
      obtain ⟨ad, rfl, hbl, hcb⟩ := (h.below hb).num (i := q) (by omega)
      obtain ⟨t, ht⟩ : ∃ t, t = num b / 2 ^ a % 2 := ⟨_, rfl⟩
      have hbit := bit_at b h8 a q r hqr.out hlt
      have ht1 : t ≤ 1 := by omega
      rw [← ht] at hbit
      have hy := getD_lt b q h8
      have hs := mod_succ_pow (num b) a
      rw [← ht, Nat.mul_comm] at hs
      generalize b.getD q 0 = y at *
      have hT : ((y : Int) / 2 ^ r).tmod 2 = (t : Int) := by
        have e : ((y : Int) / 2 ^ r) = ((y / 2 ^ r : Nat) : Int) := by simp
        rw [e]
        clear e
        generalize y / 2 ^ r = g at *
        rw [Int.tmod_eq_emod_of_nonneg (by omega)]
        omega
      obtain ⟨rfl, rfl⟩ := hqr.out
      by_cases h1 : t = 1
      · subst h1
        by_cases haM : M ≤ a
        · have hno : ¬ num b < 2 ^ M := by
            intro hh
            have h2 : 2 ^ M ≤ 2 ^ a := Nat.pow_le_pow_right (by omega) haM
            rw [Nat.div_eq_of_lt (by omega)] at ht
            omega
          have hO := HO.out
          rw [if_neg hno] at hO
          subst hO
          clear hno HO ht hbit hs hlo
          go_wp2
          go_ret2
          exact ⟨rfl, hb⟩
        · have hx0 : 0 < x := by
            rcases Nat.eq_zero_or_pos x with e | e
            · have := HM.out; rw [e, Nat.zero_mul] at this; omega
            · exact e
          have S := unpk_set x n (num b % 2 ^ a) a 1 hx0 (by rw [← HM.out]; omega) (Nat.mod_lt _ (Nat.two_pow_pos _)) (by omega)
          have hqn : a / x < n := Nat.div_lt_of_lt_mul (by rw [← HM.out]; omega)
          have hrx : a % x < x := Nat.mod_lt _ hx0
          obtain ⟨hg0, hgl, hc, hf, hset⟩ := hown.num0 (i := a / x) hqn
          have D1 := divN a x (by omega)
          have D2 : (a : Int).tmod (x : Int) = ((a % x : Nat) : Int) := by rw [Int.tmod_eq_emod_of_nonneg (by omega), ← Int.natCast_emod]
          generalize (unpk x n (num b % 2 ^ a)).getD (a / x) 0 = v at *
          generalize a / x = q2 at *
          generalize a % x = r2 at *
          have O := or_bit64 v r2 1 S.2 (by omega) (by omega)
          rw [show ((1 : Nat) : Int) = 1 from rfl, Int.one_mul] at O
          obtain ⟨z, hz⟩ : ∃ z, z = v + 1 * 2 ^ r2 := ⟨_, rfl⟩
          rw [← hz] at O S
          rw [← hs] at S
          have HS := Lib.hid S.1
          have Hset := Lib.hid hset
          have hlo2 : num b % 2 ^ (a + 1) < 2 ^ M := by
            have h2 : 2 ^ (a + 1) ≤ 2 ^ M := Nat.pow_le_pow_right (by omega) (by omega)
            have := Nat.mod_lt (num b) (Nat.two_pow_pos (a + 1))
            omega
          have Hlo := Lib.hid hlo2
          have hq4 : (q2 : Int) < (n : Int) := by omega
          have hq5 : (0 : Int) ≤ (q2 : Int) := by omega
          have hx1 : ((x : Int) == 0) = false := by rw [beq_eq_false_iff_ne]; omega
          have hx2 : ¬ (x : Int) = 0 := by omega
          have hx3 : ¬ x = 0 := by omega
          have hr64 : min r2 64 = r2 := by omega
          clear S hset hz hs ht hbit hlo hlo2
          go_wp2
          go_still_tail 17, (by kernel_rfl)
          go_wp2
          go_roundw
          case rel => exact ⟨a + 1, by omega, by go_num, Hlo.out, by rw [← HS.out]; exact Hset.out z, by first | exact (hb.drew).setCell hg0 _ | exact hb.setCell hg0 _⟩
          case measure => simp [intOf]; omega
      · obtain rfl : t = 0 := by omega
        have hs : num b % 2 ^ (a + 1) = num b % 2 ^ a := by omega
        rw [← hs] at hown hlo
        have Hlo := Lib.hid hlo
        clear ht hbit hs hlo
        go_wp2
        go_roundw
        case rel => exact ⟨a + 1, by omega, by go_num, Hlo.out, hown, hb⟩
        case measure => simp [intOf]; omega
    · obtain rfl : a = 8 * b.length := by omega
      have hbl := num_lt b h8
      rw [p256] at hbl
      rw [Nat.mod_eq_of_lt hbl] at hown hlo
      have hO := HO.out
      rw [if_pos hlo] at hO
      subst hO
      clear hlo HO
      go_wp2
      go_ret2
      exact ⟨_, _, _, rfl, hown, hb⟩

set_option maxHeartbeats 1000000 in
set_option maxRecDepth 100000 in
theorem runpack_bad {w : World} {A : Option Addr} {m c : Nat} {b : List Nat} (x n : Int) (h : Reads w w.heap.size 1 A m (nums .u8 b)) (hm : m ≤ 9223372036854775807) (hx0 : -9223372036854775808 ≤ x) (hx : x ≤ 9223372036854775807) (hn0 : -9223372036854775808 ≤ n) (hn : n ≤ 9223372036854775807)
    (hs : ¬ (b.length : Int) = nby x n) :
    Calls Tryz.prog 59 #[.slice A m c, .int .i64 x, .int .i64 n] w (OptW none w) := by
  obtain rfl := h.len
  have B1 := Lib.hid (rbytes_any x n w hx0 hx hn0 hn)
  generalize nby x n = B at *
  by_cases h0 : B < 0
  · clear hs
    go_enter Tryz.func59, Tryz.ntmps59
    go_wp2_with (first
      | (go_at_call 74; refine B1.out.mono ?_; rintro e w1 ⟨rfl, rfl⟩))
    go_ret2
    exact ⟨rfl, Below.refl _ _⟩
  · have hs1 : (B != (b.length : Int)) = true := by rw [bne_iff_ne]; exact fun e => hs e.symm
    have h1 : decide (B < 0) = false := by simpa using h0
    clear hs
    go_enter Tryz.func59, Tryz.ntmps59
    go_wp2_with (first
      | (go_at_call 74; refine B1.out.mono ?_; rintro e w1 ⟨rfl, rfl⟩))
    go_ret2
    exact ⟨rfl, Below.refl _ _⟩
theorem runpack_any {w : World} {A : Option Addr} {m c : Nat} {b : List Nat} (x n : Int) (h : Reads w w.heap.size 1 A m (nums .u8 b)) (h8 : ∀ x ∈ b, x < 256) (hm : m ≤ 9223372036854775807) (hx0 : -9223372036854775808 ≤ x) (hx : x ≤ 9223372036854775807) (hn0 : -9223372036854775808 ≤ n) (hn : n ≤ 9223372036854775807) :
    Calls Tryz.prog 59 #[.slice A m c, .int .i64 x, .int .i64 n] w (OptW (unpackO b x n) w) := by
  by_cases hs : (b.length : Int) = nby x n
  · have hg : 0 ≤ x ∧ x ≤ 64 ∧ 0 ≤ n ∧ n ≤ 65536 := by
      unfold nby at hs
      split at hs <;> omega
    obtain ⟨x, rfl⟩ := Int.eq_ofNat_of_zero_le hg.1
    obtain ⟨n, rfl⟩ := Int.eq_ofNat_of_zero_le hg.2.2.1
    rw [nby_nat x n (by omega) (by omega)] at hs
    have hs' : b.length = (x * n + 7) / 8 := by omega
    have := runpack_if (c := c) x n h h8 (by omega) (by omega) hs'
    unfold unpackO
    simp only [Int.toNat_natCast]
    by_cases hN : num b < 2 ^ (x * n)
    · rw [if_pos hN] at this
      rw [if_pos ⟨by omega, by omega, by omega, by omega, hs', hN⟩]
      exact this
    · rw [if_neg hN] at this
      rw [if_neg (fun hh => hN hh.2.2.2.2.2)]
      exact this
  · unfold unpackO
    rw [if_neg]
    · exact runpack_bad x n h hm hx0 hx hn0 hn hs
    · rintro ⟨h1, h2, h3, h4, h5, _⟩
      obtain ⟨x, rfl⟩ := Int.eq_ofNat_of_zero_le h1
      obtain ⟨n, rfl⟩ := Int.eq_ofNat_of_zero_le h3
      simp only [Int.toNat_natCast] at h5
      exact hs (by rw [nby_nat x n (by omega) (by omega), h5])

end Go.Proofs.YtflaaahcoglflaaGreat
/- What was packed is unpacked, and the other way round: plain lists. -/

namespace Go.Proofs.YtflaaahcoglflaaGreat
open Go.RowKit Go.Hm
theorem packO_some (L : List Nat) (x : Nat) (hx : x ≤ 64) (hl : L.length ≤ 65536) (hw : wid L ≤ x) : packO L (x : Int) = some (low (pk x L) ((x * L.length + 7) / 8)) := by
  unfold packO
  rw [if_pos ⟨by omega, by omega, hl, by omega⟩, Int.toNat_natCast]
theorem unpack_pack (L : List Nat) (x : Nat) (hx : x ≤ 64) (hl : L.length ≤ 65536) (hw : wid L ≤ x) (hL : ∀ x ∈ L, x ≤ 18446744073709551615) : unpackO (low (pk x L) ((x * L.length + 7) / 8)) (x : Int) (L.length : Int) = some L := by
  have h2 := (wid_iff L x hx hL).1 hw
  have h1 := pk_lt x L h2
  have h3 : num (low (pk x L) ((x * L.length + 7) / 8)) = pk x L := by
    rw [num_low, p256, Nat.mod_eq_of_lt]
    exact Nat.lt_of_lt_of_le h1 (Nat.pow_le_pow_right (by omega) (by omega))
  unfold unpackO
  rw [if_pos ⟨by omega, by omega, by omega, by omega, by simp only [Int.toNat_natCast, low_len], by simp only [Int.toNat_natCast, h3]; exact h1⟩]
  simp only [Int.toNat_natCast, h3]
  rw [unpk_pk x L h2 _ (Nat.mod_eq_of_lt h1)]
theorem pack_unpack {b l : List Nat} {x n : Int} (h8 : ∀ x ∈ b, x < 256) (h : unpackO b x n = some l) : packO l x = some b ∧ (l.length : Int) = n ∧ (wid l : Int) ≤ x ∧ (∀ y ∈ l, y ≤ 18446744073709551615) ∧ l.length ≤ 65536 := by
  unfold unpackO at h
  split at h
  · rename_i hg
    obtain ⟨h1, h2, h3, h4, h5, h6⟩ := hg
    injection h with h
    obtain ⟨x, rfl⟩ := Int.eq_ofNat_of_zero_le h1
    obtain ⟨n, rfl⟩ := Int.eq_ofNat_of_zero_le h3
    simp only [Int.toNat_natCast] at h5 h6 h
    have hx : x ≤ 64 := by omega
    have hlt : ∀ y ∈ l, y < 2 ^ x := by rw [← h]; exact unpk_lt _ _ _
    have hll : l.length = n := by rw [← h, unpk_len]
    have hp : 2 ^ x ≤ 2 ^ 64 := Nat.pow_le_pow_right (by omega) hx
    have hb : ∀ y ∈ l, y ≤ 18446744073709551615 := fun y hy => by have := hlt y hy; omega
    have hw : wid l ≤ x := (wid_iff l x hx hb).2 hlt
    refine ⟨?_, by omega, by omega, hb, by omega⟩
    rw [packO_some l x hx (by omega) hw, hll, ← h5, ← h, pk_unpk, Nat.mod_eq_of_lt h6, low_num b h8]
  · cases h

end Go.Proofs.YtflaaahcoglflaaGreat
/- The package varint: what each function answers, as numbers and lists. -/

namespace Go.Hm

theorem bitLen_or1 (n : Nat) (h0 : n ≠ 0) (h : n < 18446744073709551616) : Lib.bitLen (n ||| 1) = Lib.bitLen n := by
  have e : (n ||| 1) / 2 = n / 2 := by rw [Nat.or_div_two]; simp
  have hlt : n ||| 1 < 2 ^ 64 := Nat.or_lt_two_pow h (by omega)
  have hne : n ||| 1 ≠ 0 := by intro e0; rw [e0] at e; have := Nat.right_le_or (n := n) (m := 1); omega
  rw [Lib.bitLen_half _ hne hlt, Lib.bitLen_half n h0 h, e]
theorem vp_bits : ∀ (k n : Nat), n < 2 ^ k → n ≠ 0 → n < 18446744073709551616 → (Lib.bitLen n + 6) / 7 = (vp n).length := by
  intro k
  induction k using Nat.strongRecOn with
  | ind k ih =>
    intro n hk h0 h
    by_cases hn : n < 128
    · have h1 := Lib.bitLen_le n 7 (by omega) hn
      have h2 := Lib.bitLen_half n h0 h
      rw [vp_lt hn]
      simp only [List.length_singleton]
      omega
    · have e : Lib.bitLen n = 7 + Lib.bitLen (n / 128) := Lib.bitLen_shift 7 n (by omega) h
      have hk7 : 7 < k := by
        refine Nat.lt_of_not_le fun hle => ?_
        have := Nat.pow_le_pow_right (n := 2) (by omega) hle
        omega
      have hd : n / 128 < 2 ^ (k - 7) := by
        refine Nat.div_lt_of_lt_mul ?_
        rw [show (128 : Nat) = 2 ^ 7 from rfl, ← Nat.pow_add, show 7 + (k - 7) = k by omega]
        exact hk
      have := ih (k - 7) (by omega) (n / 128) hd (by omega) (by omega)
      rw [vp_ge hn, List.length_cons, ← this, e]
      omega
theorem vp_size (n : Nat) (h : n < 18446744073709551616) : (Lib.bitLen (n ||| 1) + 6) / 7 = (vp n).length := by
  by_cases h0 : n = 0
  · subst h0; rw [vp_lt (by omega)]; decide
  · rw [bitLen_or1 n h0 h, vp_bits 64 n h h0 h]

theorem xor0_u64 (a : Nat) (h : a < 18446744073709551616) : bits .xor .u64 (a : Int) 0 = a := by
  have := u64_xor_nat a 0 h (by omega)
  simpa using this
theorem xor1_u64 (a : Nat) (h : a < 18446744073709551616) : bits .xor .u64 (a : Int) 18446744073709551615 = ((18446744073709551615 - a : Nat) : Int) := by
  show IntKind.u64.wrap ((BitVec.ofInt 64 (a : Int) ^^^ BitVec.ofInt 64 18446744073709551615).toNat : Int) = _
  rw [show BitVec.ofInt 64 18446744073709551615 = BitVec.allOnes 64 from by decide, BitVec.xor_allOnes, BitVec.toNat_not, ofInt_u64 a h, IntKind.wrap_u64]
  omega
theorem xor0_i64 (a : Nat) (h : a < 9223372036854775808) : bits .xor .i64 (a : Int) 0 = a := by
  show IntKind.i64.wrap ((BitVec.ofInt 64 (a : Int) ^^^ BitVec.ofInt 64 0).toNat : Int) = _
  rw [show BitVec.ofInt 64 0 = 0#64 from by decide, BitVec.xor_zero, ofInt_u64 a (by omega), IntKind.wrap_i64]
  omega
theorem xor1_i64 (a : Nat) (h : a < 9223372036854775808) : bits .xor .i64 (a : Int) (-1) = -(a : Int) - 1 := by
  show IntKind.i64.wrap ((BitVec.ofInt 64 (a : Int) ^^^ BitVec.ofInt 64 (-1)).toNat : Int) = _
  rw [show BitVec.ofInt 64 (-1) = BitVec.allOnes 64 from by decide, BitVec.xor_allOnes, BitVec.toNat_not, ofInt_u64 a (by omega), IntKind.wrap_i64]
  omega

/-- The signed numbers as unsigned ones, and back. -/
def zig (x : Int) : Nat := if x < 0 then (-(2 * x) - 1).toNat else (2 * x).toNat
def zag (n : Nat) : Int := if n % 2 = 0 then ((n / 2 : Nat) : Int) else -((n / 2 : Nat) : Int) - 1
theorem zag_zig (x : Int) : zag (zig x) = x := by unfold zig zag; split <;> split <;> omega
theorem zig_zag (n : Nat) : zig (zag n) = n := by unfold zig zag; split <;> split <;> omega

end Go.Hm

namespace Go.Proofs.YtflaaahcoglflaaGreat
open Go.RowKit Go.Hm

def IsSize (n : Nat) (w : World) (e : Ending) (w' : World) : Prop := e = .returned (.int .i64 ((vp n).length : Int)) ∧ w = w'

set_option maxHeartbeats 400000 in
theorem size_any (n : Nat) (w : World) (h : n < 18446744073709551616) : Calls Tryz.prog 53 #[.int .u64 n] w (IsSize n w) := by
  have e : bits .or .u64 (n : Int) 1 = ((n ||| 1 : Nat) : Int) := by
    have := u64_or_nat n 1 h (by omega)
    simpa using this
  have hlt : n ||| 1 < 2 ^ 64 := Nat.or_lt_two_pow h (by omega)
  have hv := vp_size n h
  have h10 := vp_len10 h
  have hb := Lib.bitLen_le (n ||| 1) 64 (by omega) hlt
  go_enter Tryz.func53, Tryz.ntmps53
  go_wp2_with (first
    | (go_at_call 64; refine (bits_Len64 ((n ||| 1 : Nat) : Int) _ (by omega) (by omega)).mono ?_; rintro e w' ⟨rfl, rfl⟩))
  go_ret
  exact ⟨by rw [← hv]; go_num, rfl⟩


def PutRel (w : World) (l : List Nat) (N : Nat) (nv v : Value) (wr : World) : Prop := ∃ N' D A c, nv = .int .u64 ((N' : Nat) : Int) ∧ N' ≤ N ∧ D.length + (vp N').length ≤ l.length + 10 ∧ v = .slice A D.length c ∧ D ++ vp N' = l ++ vp N ∧ Own wr w.heap.size 5 (.slice A D.length c) (nums .u8 D) ∧ Below w.heap.size w wr

set_option maxHeartbeats 400000 in
set_option maxRecDepth 100000 in
theorem put_any (A : Option Addr) (n c : Nat) (l : List Nat) (N : Nat) (w : World) (hr : Reads w w.heap.size 1 A n (nums .u8 l)) (hn : n ≤ 140737488355200) (hN : N ≤ 18446744073709551615) :
    Calls Tryz.prog 42 #[.slice A n c, .int .u64 N] w (BytesPost (l ++ vp N) w) := by
  obtain rfl : l.length = n := by have := hr.1; rw [nums_length] at this; omega
  have hsz := vp_len10 (n := N) (by omega)
  go_enter Tryz.func42, Tryz.ntmps42
  go_wp2_with (first
    | (go_at_call 53; refine (size_any N _ (by omega)).mono ?_; rintro e w' ⟨rfl, rfl⟩)
    | (refine wpList_mk elB rfl (.tmp 7) (.tmp 12) rfl (W := w) (B := w.heap.size) l.length (l.length + (vp N).length) rfl rfl rfl (by simp) (by omega) (Below.refl _ _) (Nat.le_refl _) rfl (by omega) (by simp only [maxLen]; omega) ?_
       intro w1 hown1 hg1 hb1 hs1)
    | (refine wpList_cp elB rfl (.tmp 14) (.tmp 15) rfl (W := w) (B := w.heap.size) hown1 (hr.grown_far hg1 (by simp)) rfl rfl l.length (Nat.min_self _) hb1 (Nat.le_refl _) (nums_oneCell _ _) ?_
       intro w2 hown2 hg2 hb2 hs2))
  go_frame
  go_loopw [1, 5] (PutRel w l N) (fun nv _ _ => (intOf nv).toNat)
  case atStart =>
    refine ⟨N, l, _, _, rfl, Nat.le_refl _, by omega, rfl, rfl, ?_, hb2⟩
    rw [List.take_of_length_le (by rw [nums_length]; omega), List.drop_of_length_le (by simp), List.append_nil] at hown2
    exact hown2
  case round =>
    obtain ⟨N', D, A', c', rfl, hN', hD, rfl, hDN, hown, hb⟩ := hrel
    have hb0 := hb.size
    by_cases hlt : N' < 128
    · go_wp2_with (first
        | (refine wpList_pushN elB rfl (.tmp 27) (.tmp 30) rfl (W := w) (B := w.heap.size) hown rfl rfl N' rfl hb (Nat.le_refl _) (by omega) (by omega) (by simp only [maxLen]; omega) ?_
           intro A3 c3 w3 _ _ hown3 hg3 hb3 _ _))
      go_ret
      rw [vp_lt hlt] at hDN
      rw [hDN] at hown3
      have hl' : D.length + 1 = (l ++ vp N).length := by rw [← hDN]; simp
      rw [hl'] at hown3 ⊢
      exact ⟨_, _, _, rfl, hown3, hb3⟩
    · have hu := or128 N'
      have Hu := Lib.hid hu
      clear hu
      have hv := vp_ge hlt
      have Hv := Lib.hid hv
      clear hv
      go_wp2_with (first
        | (refine wpList_pushN elB rfl (.tmp 19) (.tmp 23) rfl (W := w) (B := w.heap.size) hown rfl rfl (N' % 128 + 128) (by rw [Hu.out]) hb (Nat.le_refl _) (by omega) (by omega) (by simp only [maxLen]; omega) ?_
           intro A3 c3 w3 _ _ hown3 hg3 hb3 _ _))
      go_roundw
      case rel =>
        have hv' := Hv.out
        rw [hv', List.length_cons] at hD
        exact ⟨N' / 128, D ++ [N' % 128 + 128], A3, c3, by go_num, by omega, by simp; omega, by simp, by rw [← hDN, hv']; simp, by simpa using hown3, hb3⟩
      case measure => simp [intOf]; omega

def ZigPost (v : Value) (w : World) (e : Ending) (w' : World) : Prop := e = .returned v ∧ w = w'

set_option maxHeartbeats 400000 in
theorem zig_any (x : Int) (w : World) (h : -9223372036854775808 ≤ x) (h1 : x ≤ 9223372036854775807) : Calls Tryz.prog 86 #[.int .i64 x] w (ZigPost (.int .u64 (zig x : Int)) w) := by
  have e : bits .xor .u64 (IntKind.u64.wrap (IntKind.u64.wrap x * 2)) (IntKind.u64.wrap (x / 9223372036854775808)) = (zig x : Int) := by
    simp only [IntKind.wrap_u64]
    by_cases hx : x < 0
    · rw [show (x / 9223372036854775808) % 18446744073709551616 = 18446744073709551615 from by omega,
        show x % 18446744073709551616 * 2 % 18446744073709551616 = ((18446744073709551616 + 2 * x).toNat : Int) from by omega, xor1_u64 _ (by omega)]
      simp only [zig, if_pos hx]; omega
    · rw [show (x / 9223372036854775808) % 18446744073709551616 = 0 from by omega,
        show x % 18446744073709551616 * 2 % 18446744073709551616 = ((2 * x).toNat : Int) from by omega, xor0_u64 _ (by omega)]
      simp only [zig, if_neg hx]
  go_enter Tryz.func86, Tryz.ntmps86
  go_wp2
  go_ret
  exact ⟨rfl, rfl⟩

set_option maxHeartbeats 400000 in
theorem zag_any (x : Nat) (w : World) (h : x < 18446744073709551616) : Calls Tryz.prog 101 #[.int .u64 (x : Int)] w (ZigPost (.int .i64 (zag x)) w) := by
  have e1 : bits .and .u64 (x : Int) 1 = ((x % 2 : Nat) : Int) := by
    have := u64_and_nat x 1 h (by omega)
    rw [nat_mask1] at this
    simpa using this
  have e : bits .xor .i64 ((x : Int) / 2) (-((x : Int) % 2)) = zag x := by
    by_cases hx : x % 2 = 0
    · rw [show (-((x : Int) % 2)) = 0 from by omega, show ((x : Int) / 2) = ((x / 2 : Nat) : Int) from by omega, xor0_i64 _ (by omega)]
      simp only [zag, if_pos hx]
    · rw [show (-((x : Int) % 2)) = -1 from by omega, show ((x : Int) / 2) = ((x / 2 : Nat) : Int) from by omega, xor1_i64 _ (by omega)]
      simp only [zag, if_neg hx]
  go_enter Tryz.func101, Tryz.ntmps101
  go_wp2
  go_ret
  exact ⟨rfl, rfl⟩

end Go.Proofs.YtflaaahcoglflaaGreat
/- Values as they are, as bytes: plain lists. -/

namespace Go.Hm
open Go Go.RowKit
/-- A number's bits. -/
def u64N (n : Int) : Nat := (n % 18446744073709551616).toNat
/-- The bytes of a right cell of a type that is not 1. -/
def plE (t : Int) (c : CellS) : List Nat :=
  if t = 0 then low (u64N c.2.1) 8 else if t = 2 then vp c.2.2.1.length ++ c.2.2.1 else if t = 3 then vp (zig c.2.2.2.1) ++ vp (zig c.2.2.2.2) else []
def bitsP (l : List CellS) : List Nat := l.map fun c => u64N c.2.1
/-- May cells be laid so? -/
def plOk (t : Int) (l : List CellS) : Bool := decide (0 ≤ t ∧ t ≤ 3 ∧ l.length ≤ 65536) && l.all fun c => rightB c t false
def plB (t : Int) (l : List CellS) : List Nat := if t = 1 then low (pk 1 (bitsP l)) ((1 * l.length + 7) / 8) else l.flatMap (plE t)
def plO (t : Int) (l : List CellS) : Option (List Nat) := if plOk t l then some (plB t l) else none
theorem u64N_lt (n : Int) : u64N n < 18446744073709551616 := by unfold u64N; omega
theorem plOk_iff {t : Int} {l : List CellS} : plOk t l = true ↔ (0 ≤ t ∧ t ≤ 3 ∧ l.length ≤ 65536) ∧ ∀ c ∈ l, rightB c t false = true := by
  unfold plOk
  rw [Bool.and_eq_true, decide_eq_true_iff, List.all_eq_true]
theorem right0 {c : CellS} {t : Int} (h : rightB c t false = true) : c.1 = false := by
  unfold rightB at h
  cases e : c.1 with
  | false => rfl
  | true => rw [e] at h; simp at h
theorem right1 {c : CellS} (h : rightB c 1 false = true) : c.2.1 = 0 ∨ c.2.1 = 1 := by
  have h0 := right0 h
  unfold rightB at h
  rw [h0] at h
  simp at h
  exact h.2
theorem right2 {c : CellS} (h : rightB c 2 false = true) : c.2.2.1.length ≤ 65536 := by
  have h0 := right0 h
  unfold rightB at h
  rw [h0] at h
  simp at h
  exact h.2
theorem right3 {c : CellS} (h : rightB c 3 false = true) : (-1048576 ≤ c.2.2.2.1 ∧ c.2.2.2.1 ≤ 1048576) ∧ -1048576 ≤ c.2.2.2.2 ∧ c.2.2.2.2 ≤ 1048576 := by
  have h0 := right0 h
  unfold rightB inBox at h
  rw [h0] at h
  simp at h
  omega
theorem bitsP_wid {l : List CellS} (h : ∀ c ∈ l, rightB c 1 false = true) : wid (bitsP l) ≤ 1 := by
  have hb : ∀ x ∈ bitsP l, x < 2 := by
    intro x hx
    obtain ⟨c, hc, rfl⟩ := List.mem_map.1 hx
    rcases right1 (h c hc) with e | e <;> rw [e] <;> decide
  exact (wid_iff _ 1 (by omega) fun x hx => by have := hb x hx; omega).2 fun x hx => by simpa using hb x hx
/-- How many bytes a right cell has. -/
theorem plE_len {t : Int} {c : CellS} (h : rightB c t false = true) : (plE t c).length ≤ 20 + c.2.2.1.length := by
  unfold plE
  split
  · rw [low_len]; omega
  · split
    · rename_i h2
      subst h2
      have := right2 h
      have := vp_len10 (n := c.2.2.1.length) (by omega)
      rw [List.length_append]
      omega
    · split
      · rename_i h2
        subst h2
        have := right3 h
        have a := vp_len10 (n := zig c.2.2.2.1) (by unfold zig; split <;> omega)
        have b := vp_len10 (n := zig c.2.2.2.2) (by unfold zig; split <;> omega)
        rw [List.length_append]
        omega
      · simp

end Go.Hm
/- Contracts of package plain: what may be laid, a row of bits, how much room. -/

namespace Go.Proofs.YtflaaahcoglflaaGreat
open Go.RowKit Go.Hm
theorem pack_plB {L : List CellS} (hR : ∀ c ∈ L, rightB c 1 false = true) (hn : L.length ≤ 65536) : packO (bitsP L) 1 = some (plB 1 L) := by
  refine (packO_some (bitsP L) 1 (by omega) (by unfold bitsP; rw [List.length_map]; omega) (bitsP_wid hR)).trans ?_
  unfold plB
  rw [if_pos rfl]
  unfold bitsP
  rw [List.length_map]
theorem known_any {w : World} {t n : Int} : Calls Tryz.prog 67 #[.int .i64 t, .int .i64 n] w (ValPost (.bool (decide (0 ≤ t ∧ t ≤ 3 ∧ 0 ≤ n ∧ n ≤ 65536))) w) := by
  by_cases h1 : 0 ≤ t
  all_goals try by_cases h2 : t ≤ 3
  all_goals try by_cases h3 : 0 ≤ n
  all_goals try by_cases h4 : n ≤ 65536
  all_goals
    go_enter Tryz.func67, Tryz.ntmps67
    go_wp2
    go_ret
    exact ⟨by simp; try omega, rfl⟩
set_option maxHeartbeats 2000000 in
set_option maxRecDepth 100000 in
theorem allright_any {w : World} {t : Int} {A : Option Addr} {n c : Nat} {L : List CellS} (h : Reads w w.heap.size 5 A n (recs cellV L)) (hL : ∀ y ∈ L, y.2.2.1.length ≤ 140737488351232) (hn : n ≤ 4611686018427387903) :
    Calls Tryz.prog 68 #[.int .i64 t, .slice A n c] w (NewPost (.bool (L.all fun c => rightB c t false)) w) := by
  obtain rfl := h.lenCell
  have HR := Lib.hid h
  have HL := Lib.hid hL
  clear h hL
  obtain ⟨M, hM⟩ : ∃ M, M = L.all fun c => rightB c t false := ⟨_, rfl⟩
  rw [← hM]
  have HM := Lib.hid hM
  clear hM
  go_enter Tryz.func68, Tryz.ntmps68
  go_wp2_with fail
  go_loopw [9] (fun i wr => ∃ k : Nat, k ≤ L.length ∧ i = .int .i64 (k : Int) ∧ New w wr ∧ Hid (∀ c ∈ L.take k, rightB c t false = true)) (fun i _ => L.length - (intOf i).toNat)
  case atStart => exact ⟨0, Nat.zero_le _, rfl, New.refl _, Lib.hid (by simp)⟩
  case round =>
    obtain ⟨k, hk, rfl, hW, hr⟩ := hrel
    by_cases hlt : k < L.length
    · obtain ⟨ad, rfl, hb, d0, d1, d2, d3, d4⟩ := (Reads.later HR.out hW).cell5 hlt
      have htk := take_snoc L k (false, 0, [], 0, 0) hlt
      have hmem : L.getD k (false, 0, [], 0, 0) ∈ L := by rw [List.getD_eq_getElem?_getD, List.getElem?_eq_getElem hlt]; exact List.getElem_mem hlt
      have hy := HL.out _ hmem
      have R1 := fun (W : World) => cright_any (w := W) (b := (L.getD k (false, 0, [], 0, 0)).1) (n := (L.getD k (false, 0, [], 0, 0)).2.1) (s := (L.getD k (false, 0, [], 0, 0)).2.2.1) (x := (L.getD k (false, 0, [], 0, 0)).2.2.2.1) (y := (L.getD k (false, 0, [], 0, 0)).2.2.2.2) (cn := []) (t := t) (nu := false) hy
      have hno : rightB (L.getD k (false, 0, [], 0, 0)) t false = false → M = false := fun e => by
        rw [HM.out]
        refine Bool.eq_false_iff.2 fun e2 => ?_
        have := (List.all_eq_true.1 e2) _ hmem
        rw [e] at this
        cases this
      have hyes : rightB (L.getD k (false, 0, [], 0, 0)) t false = true → ∀ c ∈ L.take (k + 1), rightB c t false = true := fun e c hc => by
        rw [htk] at hc
        rcases List.mem_append.1 hc with hc | hc
        · exact hr.out c hc
        · rw [List.mem_singleton.1 hc]; exact e
      clear htk hmem hy hr
      generalize L.getD k (false, 0, [], 0, 0) = y at *
      obtain ⟨y0, y1, y2, y3, y4⟩ := y
      dsimp only at R1 d0 d1 d2 d3 d4
      generalize rightB (y0, y1, y2, y3, y4) t false = m at *
      have R1 : Hid (∀ W, Calls Tryz.prog 65 #[.agg #[.bool y0, .int .i64 y1, .string (bstr y2), .int .i64 y3, .int .i64 y4], .agg #[.string ⟨#[]⟩, .int .i64 t, .bool false]] W (NewPost (.bool m) W)) := Lib.hid R1
      have hno := Lib.hid hno
      have hyes := Lib.hid hyes
      have ha : New wr (wr.alloc (.cells #[.bool y0, .int .i64 y1, .string (bstr y2), .int .i64 y3, .int .i64 y4] 35)) := (Below.refl _ _).alloc (Nat.le_refl _) _
      go_wp2_with fail
      refine (R1.out _).mono ?_
      rintro e w1 ⟨rfl, b1⟩
      have hl := New.trans (New.trans hW ha) b1
      cases m with
      | false =>
        have hm := hno.out (by trivial)
        have HM2 := Lib.hid hm
        clear hno hyes hm
        go_wp2_with fail
        go_ret
        exact ⟨by rw [HM2.out]; rfl, hl⟩
      | true =>
        have hy2 := hyes.out (by trivial)
        have HY2 := Lib.hid hy2
        clear hno hyes hy2
        go_wp2_with fail
        go_roundw
        case rel => exact ⟨k + 1, by omega, by go_num, hl, HY2⟩
        case measure => simp [intOf]; omega
    · obtain rfl : k = L.length := by omega
      have hr2 := hr.out
      rw [List.take_length] at hr2
      have HM2 : Hid (M = true) := Lib.hid (by rw [HM.out]; exact List.all_eq_true.2 hr2)
      clear hr hr2
      go_wp2_with fail
      go_ret
      exact ⟨by rw [HM2.out]; rfl, hW⟩
theorem bits_set (L : List CellS) (k : Nat) (h : k < L.length) : (bitsP (L.take k) ++ List.replicate (L.length - k) 0).set k (u64N (L.getD k (false, 0, [], 0, 0)).2.1) = bitsP (L.take (k + 1)) ++ List.replicate (L.length - (k + 1)) 0 := by
  have hl : (bitsP (L.take k)).length = k := by unfold bitsP; rw [List.length_map, List.length_take]; omega
  rw [List.set_append_right _ _ (by omega), hl, Nat.sub_self, show L.length - k = (L.length - (k + 1)) + 1 by omega, List.replicate_succ, List.set_cons_zero, take_snoc L k (false, 0, [], 0, 0) h]
  unfold bitsP
  rw [List.map_append, List.append_assoc]
  rfl
theorem u64_wrapN (n : Int) : IntKind.u64.wrap n = (u64N n : Int) := by
  rw [IntKind.wrap_u64]
  unfold u64N
  omega
set_option maxHeartbeats 2000000 in
set_option maxRecDepth 100000 in
theorem packBools_any {w : World} {A : Option Addr} {n c : Nat} {L : List CellS} (h : Reads w w.heap.size 5 A n (recs cellV L)) (hn : n ≤ 65536) :
    Calls Tryz.prog 69 #[.slice A n c] w (OptB (packO (bitsP L) 1) w) := by
  obtain rfl := h.lenCell
  have HR := Lib.hid h
  clear h
  go_enter Tryz.func69, Tryz.ntmps69
  go_wp2_with (first
    | (refine wpList_mk elW rfl (.tmp 8) (.tmp 8) rfl (W := w) (B := w.heap.size) L.length L.length rfl rfl rfl rfl (by omega) (Below.refl _ _) (Nat.le_refl _) rfl (by omega) (by simp only [maxLen]; omega) ?_
       intro w3 hown3 hg3 hb3 hs3))
  go_loopw [12] (fun i wr => ∃ k : Nat, k ≤ L.length ∧ i = .int .i64 (k : Int) ∧ Own wr w.heap.size 78 (.slice (some ⟨w.heap.size, 0, none⟩) L.length L.length) (nums .u64 (bitsP (L.take k) ++ List.replicate (L.length - k) 0)) ∧ Below w.heap.size w wr) (fun i _ => L.length - (intOf i).toNat)
  case atStart => exact ⟨0, Nat.zero_le _, rfl, by simpa [nums_replicate, bitsP] using hown3, hb3⟩
  case round =>
    obtain ⟨k, hk, rfl, hown, hbl⟩ := hrel
    clear hown3 hg3 hb3 hs3
    by_cases hlt : k < L.length
    · obtain ⟨ad, rfl, hb, d0, d1, d2, d3, d4⟩ := (Reads.later HR.out hbl).cell5 hlt
      have hset := bits_set L k hlt
      have hwr := u64_wrapN (L.getD k (false, 0, [], 0, 0)).2.1
      have hsz := hbl.size
      generalize L.getD k (false, 0, [], 0, 0) = y at *
      obtain ⟨y0, y1, y2, y3, y4⟩ := y
      dsimp only at hset hwr d0 d1 d2 d3 d4
      generalize u64N y1 = z at *
      have ha : New wr (wr.alloc (.cells #[.bool y0, .int .i64 y1, .string (bstr y2), .int .i64 y3, .int .i64 y4] 35)) := (Below.refl _ _).alloc (Nat.le_refl _) _
      obtain ⟨hg0, hgl, hc, hf, hs⟩ := (hown.later ha).num0 (i := k) hlt
      have hs := hs z
      rw [hset] at hs
      have HS := Lib.hid hs
      have hbl2 := New.trans hbl ha
      have HB := Lib.hid (hbl2.setCell (p := ⟨w.heap.size, k, none⟩) (Nat.le_refl _) (.int .u64 (z : Int)))
      clear hset hs hown
      go_wp2_with fail
      go_roundw
      case rel => exact ⟨k + 1, by omega, by go_num, HS.out, HB.out⟩
      case measure => simp [intOf]; omega
    · obtain rfl : k = L.length := by omega
      rw [Nat.sub_self, List.replicate_zero, List.append_nil, List.take_length] at hown
      have P := Lib.hid (pack_any (c := L.length) 1 hown.reads (fun x hx => by unfold bitsP at hx; obtain ⟨y, _, rfl⟩ := List.mem_map.1 hx; have := u64N_lt y.2.1; omega) (by omega) (by omega) (by omega))
      go_wp2_with fail
      refine P.out.mono ?_
      intro e w5 h5
      have hz := hbl.size
      generalize packO (bitsP L) 1 = o at *
      cases o with
      | none =>
        obtain ⟨rfl, b5⟩ := h5
        go_wp2_with fail
        go_ret2
        exact ⟨rfl, hbl.trans (Below.mono b5 hz)⟩
      | some l =>
        obtain ⟨A5, n5, c5, rfl, o5, b5⟩ := h5
        go_wp2_with fail
        go_ret2
        exact ⟨_, _, _, rfl, o5.base_le hz, hbl.trans (Below.mono b5 hz)⟩
theorem vp_max : (vp 18446744073709551615).length = 10 := by
  rw [vp_ge (by omega), vp_ge (by omega), vp_ge (by omega), vp_ge (by omega), vp_ge (by omega), vp_ge (by omega), vp_ge (by omega), vp_ge (by omega), vp_ge (by omega), vp_lt (by omega)]
  rfl
def RoomPost (w : World) (e : Ending) (w' : World) : Prop := ∃ r : Nat, e = .returned (.int .i64 (r : Int)) ∧ r ≤ 10000000000 ∧ New w w'
set_option maxHeartbeats 2000000 in
set_option maxRecDepth 100000 in
theorem room_any {w : World} {A : Option Addr} {n c : Nat} {L : List CellS} (h : Reads w w.heap.size 5 A n (recs cellV L)) (hn : n ≤ 65536) (hL : ∀ y ∈ L, y.2.2.1.length ≤ 65536) :
    Calls Tryz.prog 70 #[.slice A n c] w (RoomPost w) := by
  obtain rfl := h.lenCell
  have HR := Lib.hid h
  have HL := Lib.hid hL
  clear h hL
  go_enter Tryz.func70, Tryz.ntmps70
  go_wp2_with fail
  go_loopw [3, 8] (fun v i wr => ∃ k r : Nat, k ≤ L.length ∧ i = .int .i64 (k : Int) ∧ v = .int .i64 (r : Int) ∧ r ≤ k * 65546 ∧ New w wr) (fun _ i _ => L.length - (intOf i).toNat)
  case atStart => exact ⟨0, 0, Nat.zero_le _, rfl, rfl, by omega, New.refl _⟩
  case round =>
    obtain ⟨k, r, hk, rfl, rfl, hr, hW⟩ := hrel
    by_cases hlt : k < L.length
    · obtain ⟨ad, rfl, hb, d0, d1, d2, d3, d4⟩ := (Reads.later HR.out hW).cell5 hlt
      have hy := HL.out (L.getD k (false, 0, [], 0, 0)) (by rw [List.getD_eq_getElem?_getD, List.getElem?_eq_getElem hlt]; exact List.getElem_mem hlt)
      generalize L.getD k (false, 0, [], 0, 0) = y at *
      obtain ⟨y0, y1, y2, y3, y4⟩ := y
      dsimp only at hy d0 d1 d2 d3 d4
      have zs := bstr_size y2
      have HY := Lib.hid (Blk.new wr 35 #[.bool y0, .int .i64 y1, .string (bstr y2), .int .i64 y3, .int .i64 y4])
      have ha : New wr (wr.alloc (.cells #[.bool y0, .int .i64 y1, .string (bstr y2), .int .i64 y3, .int .i64 y4] 35)) := (Below.refl _ _).alloc (Nat.le_refl _) _
      have SZ : Hid (∀ W, Calls Tryz.prog 53 #[.int .u64 18446744073709551615] W (ValPost (.int .i64 10) W)) := Lib.hid fun W => (size_any 18446744073709551615 W (by omega)).mono (by
        rintro e w' ⟨rfl, rfl⟩
        exact ⟨by rw [vp_max]; rfl, rfl⟩)
      have w1 : IntKind.i64.wrap (10 + (y2.length : Int)) = 10 + (y2.length : Int) := IntWalk.i64_in _ (by omega)
      have w2 : IntKind.i64.wrap ((r : Int) + (10 + (y2.length : Int))) = (r : Int) + (10 + (y2.length : Int)) := IntWalk.i64_in _ (by omega)
      go_wp2_with fail
      refine wp_region_up New [(true, 0), (true, 2), (true, 3), (true, 4), (false, 1), (true, 5), (true, 6), (true, 7)] New.refl New.trans (by kernel_rfl) (by kernel_rfl) (by kernel_rfl) (by kernel_rfl) ?_
      have hU := New.drew (wr.alloc (.cells #[.bool y0, .int .i64 y1, .string (bstr y2), .int .i64 y3, .int .i64 y4] 35))
      repeat (first
        | (refine up_call rfl rfl (fun K hK => ?_); go_simp
           (with_reducible refine (SZ.out _).mono ?_); rintro e w6 ⟨rfl, rfl⟩
           refine hK _ _ (New.refl _) ?_
           clear hK)
        | (refine up_skip rfl rfl ?_; simp only [Act.put, List.setIfInBounds_toArray, List.set_cons_zero, List.set_cons_succ])
        | (refine up_quiet rfl rfl (v := ?_) (fun W hQ => ?_) ?_; rotate_left; (obtain ⟨z0, z1, z2, z3, z4⟩ := cells5 (HY.out.below (New.trans hU hQ) HY.out.lt); go_simp <;> with_reducible rfl); simp only [Act.put, List.setIfInBounds_toArray, List.set_cons_zero, List.set_cons_succ]))
      refine up_nil ?_
      go_wp2_with fail
      go_roundw
      case rel => exact ⟨k + 1, r + (10 + y2.length), by omega, by go_num, by simp, by omega, New.trans (New.trans hW ha) hU⟩
      case measure => simp [intOf]; omega
    · obtain rfl : k = L.length := by omega
      go_wp2_with fail
      go_ret
      exact ⟨r, rfl, by omega, hW⟩

end Go.Proofs.YtflaaahcoglflaaGreat
