/- Texts merged, for a claim has at most 60 files: Var, PlnM, Cell, CellR, PlnA, Stores, PlnB, Open, OpenCl, CellE, CellS, DicE, DicF, CurM, PlnF. -/
import Derived.BigQuiet
import Derived.Deep.MidRow
import Derived.Deep.QuietTactic
import Derived.Lib.BitFns
import Derived.Outline
import Derived.Test.YtnghjkihdcmoiaaBun1
import Derived.Test.YtnghjkihdcmoiaaBun2
/- The package varint: what each function answers, as numbers and lists. -/

namespace Go.Hm

theorem bitLen_or1 (n : Nat) (h0 : n ≠ 0) (h : n < 18446744073709551616) : Lib.bitLen (n ||| 1) = Lib.bitLen n := by
  have e : (n ||| 1) / 2 = n / 2 := by rw [Nat.or_div_two]; simp
  have hlt : n ||| 1 < 2 ^ 64 := Nat.or_lt_two_pow h (by omega)
  have hne : n ||| 1 ≠ 0 := by intro e0; rw [e0] at e; have := Nat.right_le_or (n := n) (m := 1); omega
  rw [Lib.bitLen_half _ hne hlt, Lib.bitLen_half n h0 h, e]
theorem vp_bits : ∀ (k n : Nat), n < 2 ^ k → n ≠ 0 → n < 18446744073709551616 → (Lib.bitLen n + 6) / 7 = (vp n).length := by
  intro k
  induction k using Nat.strongRecOn with
  | ind k ih =>
    intro n hk h0 h
    by_cases hn : n < 128
    · have h1 := Lib.bitLen_le n 7 (by omega) hn
      have h2 := Lib.bitLen_half n h0 h
      rw [vp_lt hn]
      simp only [List.length_singleton]
      omega
    · have e : Lib.bitLen n = 7 + Lib.bitLen (n / 128) := Lib.bitLen_shift 7 n (by omega) h
      have hk7 : 7 < k := by
        refine Nat.lt_of_not_le fun hle => ?_
        have := Nat.pow_le_pow_right (n := 2) (by omega) hle
        omega
      have hd : n / 128 < 2 ^ (k - 7) := by
        refine Nat.div_lt_of_lt_mul ?_
        rw [show (128 : Nat) = 2 ^ 7 from rfl, ← Nat.pow_add, show 7 + (k - 7) = k by omega]
        exact hk
      have := ih (k - 7) (by omega) (n / 128) hd (by omega) (by omega)
      rw [vp_ge hn, List.length_cons, ← this, e]
      omega
theorem vp_size (n : Nat) (h : n < 18446744073709551616) : (Lib.bitLen (n ||| 1) + 6) / 7 = (vp n).length := by
  by_cases h0 : n = 0
  · subst h0; rw [vp_lt (by omega)]; decide
  · rw [bitLen_or1 n h0 h, vp_bits 64 n h h0 h]

theorem xor0_u64 (a : Nat) (h : a < 18446744073709551616) : bits .xor .u64 (a : Int) 0 = a := by
  have := u64_xor_nat a 0 h (by omega)
  simpa using this
theorem xor1_u64 (a : Nat) (h : a < 18446744073709551616) : bits .xor .u64 (a : Int) 18446744073709551615 = ((18446744073709551615 - a : Nat) : Int) := by
  show IntKind.u64.wrap ((BitVec.ofInt 64 (a : Int) ^^^ BitVec.ofInt 64 18446744073709551615).toNat : Int) = _
  rw [show BitVec.ofInt 64 18446744073709551615 = BitVec.allOnes 64 from by decide, BitVec.xor_allOnes, BitVec.toNat_not, ofInt_u64 a h, IntKind.wrap_u64]
  omega
theorem xor0_i64 (a : Nat) (h : a < 9223372036854775808) : bits .xor .i64 (a : Int) 0 = a := by
  show IntKind.i64.wrap ((BitVec.ofInt 64 (a : Int) ^^^ BitVec.ofInt 64 0).toNat : Int) = _
  rw [show BitVec.ofInt 64 0 = 0#64 from by decide, BitVec.xor_zero, ofInt_u64 a (by omega), IntKind.wrap_i64]
  omega
theorem xor1_i64 (a : Nat) (h : a < 9223372036854775808) : bits .xor .i64 (a : Int) (-1) = -(a : Int) - 1 := by
  show IntKind.i64.wrap ((BitVec.ofInt 64 (a : Int) ^^^ BitVec.ofInt 64 (-1)).toNat : Int) = _
  rw [show BitVec.ofInt 64 (-1) = BitVec.allOnes 64 from by decide, BitVec.xor_allOnes, BitVec.toNat_not, ofInt_u64 a (by omega), IntKind.wrap_i64]
  omega

/-- The signed numbers as unsigned ones, and back. -/
def zig (x : Int) : Nat := if x < 0 then (-(2 * x) - 1).toNat else (2 * x).toNat
def zag (n : Nat) : Int := if n % 2 = 0 then ((n / 2 : Nat) : Int) else -((n / 2 : Nat) : Int) - 1
theorem zag_zig (x : Int) : zag (zig x) = x := by unfold zig zag; split <;> split <;> omega
theorem zig_zag (n : Nat) : zig (zag n) = n := by unfold zig zag; split <;> split <;> omega

end Go.Hm

namespace Go.Proofs.Ytnghjkihdcmoiaa
open Go.RowKit Go.Hm

def IsSize (n : Nat) (w : World) (e : Ending) (w' : World) : Prop := e = .returned (.int .i64 ((vp n).length : Int)) ∧ w = w'

set_option maxHeartbeats 400000 in
theorem size_any (n : Nat) (w : World) (h : n < 18446744073709551616) : Calls Try.prog 33 #[.int .u64 n] w (IsSize n w) := by
  have e : bits .or .u64 (n : Int) 1 = ((n ||| 1 : Nat) : Int) := by
    have := u64_or_nat n 1 h (by omega)
    simpa using this
  have hlt : n ||| 1 < 2 ^ 64 := Nat.or_lt_two_pow h (by omega)
  have hv := vp_size n h
  have h10 := vp_len10 h
  have hb := Lib.bitLen_le (n ||| 1) 64 (by omega) hlt
  go_enter Try.func33, Try.ntmps33
  go_wp2_with (first
    | (go_at_call 50; refine (bits_Len64 ((n ||| 1 : Nat) : Int) _ (by omega) (by omega)).mono ?_; rintro e w' ⟨rfl, rfl⟩))
  go_ret
  exact ⟨by rw [← hv]; go_num, rfl⟩


def PutRel (w : World) (l : List Nat) (N : Nat) (nv v : Value) (wr : World) : Prop := ∃ N' D A c, nv = .int .u64 ((N' : Nat) : Int) ∧ N' ≤ N ∧ D.length + (vp N').length ≤ l.length + 10 ∧ v = .slice A D.length c ∧ D ++ vp N' = l ++ vp N ∧ Own wr w.heap.size 5 (.slice A D.length c) (nums .u8 D) ∧ Below w.heap.size w wr

set_option maxHeartbeats 400000 in
set_option maxRecDepth 100000 in
theorem put_any (A : Option Addr) (n c : Nat) (l : List Nat) (N : Nat) (w : World) (hr : Reads w w.heap.size 1 A n (nums .u8 l)) (hn : n ≤ 140737488355200) (hN : N ≤ 18446744073709551615) :
    Calls Try.prog 15 #[.slice A n c, .int .u64 N] w (BytesPost (l ++ vp N) w) := by
  obtain rfl : l.length = n := by have := hr.1; rw [nums_length] at this; omega
  have hsz := vp_len10 (n := N) (by omega)
  go_enter Try.func15, Try.ntmps15
  go_wp2_with (first
    | (go_at_call 33; refine (size_any N _ (by omega)).mono ?_; rintro e w' ⟨rfl, rfl⟩)
    | (refine wpList_mk elB rfl (.tmp 7) (.tmp 12) rfl (W := w) (B := w.heap.size) l.length (l.length + (vp N).length) rfl rfl rfl (by simp) (by omega) (Below.refl _ _) (Nat.le_refl _) rfl (by omega) (by simp only [maxLen]; omega) ?_
       intro w1 hown1 hg1 hb1 hs1)
    | (refine wpList_cp elB rfl (.tmp 14) (.tmp 15) rfl (W := w) (B := w.heap.size) hown1 (hr.grown_far hg1 (by simp)) rfl rfl l.length (Nat.min_self _) hb1 (Nat.le_refl _) (nums_oneCell _ _) ?_
       intro w2 hown2 hg2 hb2 hs2))
  go_frame
  go_loopw [1, 5] (PutRel w l N) (fun nv _ _ => (intOf nv).toNat)
  case atStart =>
    refine ⟨N, l, _, _, rfl, Nat.le_refl _, by omega, rfl, rfl, ?_, hb2⟩
    rw [List.take_of_length_le (by rw [nums_length]; omega), List.drop_of_length_le (by simp), List.append_nil] at hown2
    exact hown2
  case round =>
    obtain ⟨N', D, A', c', rfl, hN', hD, rfl, hDN, hown, hb⟩ := hrel
    have hb0 := hb.size
    by_cases hlt : N' < 128
    · go_wp2_with (first
        | (refine wpList_pushN elB rfl (.tmp 27) (.tmp 30) rfl (W := w) (B := w.heap.size) hown rfl rfl N' rfl hb (Nat.le_refl _) (by omega) (by omega) (by simp only [maxLen]; omega) ?_
           intro A3 c3 w3 _ _ hown3 hg3 hb3 _ _))
      go_ret
      rw [vp_lt hlt] at hDN
      rw [hDN] at hown3
      have hl' : D.length + 1 = (l ++ vp N).length := by rw [← hDN]; simp
      rw [hl'] at hown3 ⊢
      exact ⟨_, _, _, rfl, hown3, hb3⟩
    · have hu := or128 N'
      have Hu := Lib.hid hu
      clear hu
      have hv := vp_ge hlt
      have Hv := Lib.hid hv
      clear hv
      go_wp2_with (first
        | (refine wpList_pushN elB rfl (.tmp 19) (.tmp 23) rfl (W := w) (B := w.heap.size) hown rfl rfl (N' % 128 + 128) (by rw [Hu.out]) hb (Nat.le_refl _) (by omega) (by omega) (by simp only [maxLen]; omega) ?_
           intro A3 c3 w3 _ _ hown3 hg3 hb3 _ _))
      go_roundw
      case rel =>
        have hv' := Hv.out
        rw [hv', List.length_cons] at hD
        exact ⟨N' / 128, D ++ [N' % 128 + 128], A3, c3, by go_num, by omega, by simp; omega, by simp, by rw [← hDN, hv']; simp, by simpa using hown3, hb3⟩
      case measure => simp [intOf]; omega

def ZigPost (v : Value) (w : World) (e : Ending) (w' : World) : Prop := e = .returned v ∧ w = w'

set_option maxHeartbeats 400000 in
theorem zig_any (x : Int) (w : World) (h : -9223372036854775808 ≤ x) (h1 : x ≤ 9223372036854775807) : Calls Try.prog 46 #[.int .i64 x] w (ZigPost (.int .u64 (zig x : Int)) w) := by
  have e : bits .xor .u64 (IntKind.u64.wrap (IntKind.u64.wrap x * 2)) (IntKind.u64.wrap (x / 9223372036854775808)) = (zig x : Int) := by
    simp only [IntKind.wrap_u64]
    by_cases hx : x < 0
    · rw [show (x / 9223372036854775808) % 18446744073709551616 = 18446744073709551615 from by omega,
        show x % 18446744073709551616 * 2 % 18446744073709551616 = ((18446744073709551616 + 2 * x).toNat : Int) from by omega, xor1_u64 _ (by omega)]
      simp only [zig, if_pos hx]; omega
    · rw [show (x / 9223372036854775808) % 18446744073709551616 = 0 from by omega,
        show x % 18446744073709551616 * 2 % 18446744073709551616 = ((2 * x).toNat : Int) from by omega, xor0_u64 _ (by omega)]
      simp only [zig, if_neg hx]
  go_enter Try.func46, Try.ntmps46
  go_wp2
  go_ret
  exact ⟨rfl, rfl⟩

set_option maxHeartbeats 400000 in
theorem zag_any (x : Nat) (w : World) (h : x < 18446744073709551616) : Calls Try.prog 54 #[.int .u64 (x : Int)] w (ZigPost (.int .i64 (zag x)) w) := by
  have e1 : bits .and .u64 (x : Int) 1 = ((x % 2 : Nat) : Int) := by
    have := u64_and_nat x 1 h (by omega)
    rw [nat_mask1] at this
    simpa using this
  have e : bits .xor .i64 ((x : Int) / 2) (-((x : Int) % 2)) = zag x := by
    by_cases hx : x % 2 = 0
    · rw [show (-((x : Int) % 2)) = 0 from by omega, show ((x : Int) / 2) = ((x / 2 : Nat) : Int) from by omega, xor0_i64 _ (by omega)]
      simp only [zag, if_pos hx]
    · rw [show (-((x : Int) % 2)) = -1 from by omega, show ((x : Int) / 2) = ((x / 2 : Nat) : Int) from by omega, xor1_i64 _ (by omega)]
      simp only [zag, if_neg hx]
  go_enter Try.func54, Try.ntmps54
  go_wp2
  go_ret
  exact ⟨rfl, rfl⟩

end Go.Proofs.Ytnghjkihdcmoiaa
/- Values as they are, as bytes: plain lists. -/

namespace Go.Hm
open Go Go.RowKit
/-- A number's bits. -/
def u64N (n : Int) : Nat := (n % 18446744073709551616).toNat
/-- The bytes of a right cell of a type that is not 1. -/
def plE (t : Int) (c : CellS) : List Nat :=
  if t = 0 then low (u64N c.2.1) 8 else if t = 2 then vp c.2.2.1.length ++ c.2.2.1 else if t = 3 then vp (zig c.2.2.2.1) ++ vp (zig c.2.2.2.2) else []
def bitsP (l : List CellS) : List Nat := l.map fun c => u64N c.2.1
/-- May cells be laid so? -/
def plOk (t : Int) (l : List CellS) : Bool := decide (0 ≤ t ∧ t ≤ 3 ∧ l.length ≤ 65536) && l.all fun c => rightB c t false
def plB (t : Int) (l : List CellS) : List Nat := if t = 1 then low (pk 1 (bitsP l)) ((1 * l.length + 7) / 8) else l.flatMap (plE t)
def plO (t : Int) (l : List CellS) : Option (List Nat) := if plOk t l then some (plB t l) else none
theorem u64N_lt (n : Int) : u64N n < 18446744073709551616 := by unfold u64N; omega
theorem plOk_iff {t : Int} {l : List CellS} : plOk t l = true ↔ (0 ≤ t ∧ t ≤ 3 ∧ l.length ≤ 65536) ∧ ∀ c ∈ l, rightB c t false = true := by
  unfold plOk
  rw [Bool.and_eq_true, decide_eq_true_iff, List.all_eq_true]
theorem right0 {c : CellS} {t : Int} (h : rightB c t false = true) : c.1 = false := by
  unfold rightB at h
  cases e : c.1 with
  | false => rfl
  | true => rw [e] at h; simp at h
theorem right1 {c : CellS} (h : rightB c 1 false = true) : c.2.1 = 0 ∨ c.2.1 = 1 := by
  have h0 := right0 h
  unfold rightB at h
  rw [h0] at h
  simp at h
  exact h.2
theorem right2 {c : CellS} (h : rightB c 2 false = true) : c.2.2.1.length ≤ 65536 := by
  have h0 := right0 h
  unfold rightB at h
  rw [h0] at h
  simp at h
  exact h.2
theorem right3 {c : CellS} (h : rightB c 3 false = true) : (-1048576 ≤ c.2.2.2.1 ∧ c.2.2.2.1 ≤ 1048576) ∧ -1048576 ≤ c.2.2.2.2 ∧ c.2.2.2.2 ≤ 1048576 := by
  have h0 := right0 h
  unfold rightB inBox at h
  rw [h0] at h
  simp at h
  omega
theorem bitsP_wid {l : List CellS} (h : ∀ c ∈ l, rightB c 1 false = true) : wid (bitsP l) ≤ 1 := by
  have hb : ∀ x ∈ bitsP l, x < 2 := by
    intro x hx
    obtain ⟨c, hc, rfl⟩ := List.mem_map.1 hx
    rcases right1 (h c hc) with e | e <;> rw [e] <;> decide
  exact (wid_iff _ 1 (by omega) fun x hx => by have := hb x hx; omega).2 fun x hx => by simpa using hb x hx
/-- How many bytes a right cell has. -/
theorem plE_len {t : Int} {c : CellS} (h : rightB c t false = true) : (plE t c).length ≤ 20 + c.2.2.1.length := by
  unfold plE
  split
  · rw [low_len]; omega
  · split
    · rename_i h2
      subst h2
      have := right2 h
      have := vp_len10 (n := c.2.2.1.length) (by omega)
      rw [List.length_append]
      omega
    · split
      · rename_i h2
        subst h2
        have := right3 h
        have a := vp_len10 (n := zig c.2.2.2.1) (by unfold zig; split <;> omega)
        have b := vp_len10 (n := zig c.2.2.2.2) (by unfold zig; split <;> omega)
        rw [List.length_append]
        omega
      · simp

end Go.Hm
/- Contracts on cells: point.Right, cell.Right. -/

namespace Go.Proofs.Ytnghjkihdcmoiaa
open Go.RowKit Go.Hm
set_option maxHeartbeats 2000000 in
set_option maxRecDepth 100000 in
theorem within_any {w : World} (x y : Int) :
    Calls Try.prog 60 #[.agg #[.int .i64 x, .int .i64 y], .int .i64 1048576] w (NewPost (.bool (inBox x y)) w) := by
  obtain ⟨W0, hW0⟩ : ∃ W, W = w.alloc (.cells #[.int .i64 x, .int .i64 y] 38) := ⟨_, rfl⟩
  have b0 : New w W0 := by rw [hW0]; exact (Below.refl _ _).alloc (Nat.le_refl _) _
  have B0 : Blk W0 w.heap.size 38 #[.int .i64 x, .int .i64 y] := by rw [hW0]; exact Blk.new _ _ _
  obtain ⟨x0, x1⟩ := cells2 B0
  have HO := Lib.hid (show inBox x y = (decide (-1048576 ≤ x) && decide (x ≤ 1048576) && decide (-1048576 ≤ y) && decide (y ≤ 1048576)) from rfl)
  generalize inBox x y = O at *
  rw [hW0] at x0 x1
  clear B0
  cases h1 : decide (-1048576 ≤ x) <;> cases h2 : decide (x ≤ 1048576) <;> cases h3 : decide (-1048576 ≤ y) <;> cases h4 : decide (y ≤ 1048576)
  all_goals
    rw [h1, h2, h3, h4] at HO
    go_enter Try.func60, Try.ntmps60
    go_wp2
    go_ret
    exact ⟨by rw [HO.out]; rfl, by rw [← hW0]; exact b0⟩
set_option maxHeartbeats 2000000 in
set_option maxRecDepth 100000 in
theorem pright_any {w : World} (x y : Int) :
    Calls Try.prog 56 #[.agg #[.int .i64 x, .int .i64 y]] w (NewPost (.bool (inBox x y)) w) := by
  obtain ⟨W0, hW0⟩ : ∃ W, W = w.alloc (.cells #[.int .i64 x, .int .i64 y] 38) := ⟨_, rfl⟩
  have b0 : New w W0 := by rw [hW0]; exact (Below.refl _ _).alloc (Nat.le_refl _) _
  have B0 : Blk W0 w.heap.size 38 #[.int .i64 x, .int .i64 y] := by rw [hW0]; exact Blk.new _ _ _
  obtain ⟨x0, x1⟩ := cells2 B0
  rw [hW0] at x0 x1
  clear B0
  go_enter Try.func56, Try.ntmps56
  go_wp2_with (first
    | (go_at_call 60; refine (within_any x y).mono ?_; rintro e w' ⟨rfl, b1⟩))
  go_ret
  exact ⟨rfl, New.trans b0 (by rw [hW0]; exact b1)⟩

end Go.Proofs.Ytnghjkihdcmoiaa
/- Contract on cell.Right. -/

namespace Go.Proofs.Ytnghjkihdcmoiaa
open Go.RowKit Go.Hm
theorem new2 (w : World) (a b : Obj) : New w ((w.alloc a).alloc b) := New.trans ((Below.refl _ _).alloc (Nat.le_refl _) _) ((Below.refl _ _).alloc (Nat.le_refl _) _)
theorem bstr_nil {s : List Nat} : (bstr s).toList = [] ↔ s = [] := by
  rw [bstr_toList]
  simp
set_option maxHeartbeats 2000000 in
set_option maxRecDepth 100000 in
theorem cright_any {w : World} {b : Bool} {n : Int} {s : List Nat} {x y : Int} {cn : List Nat} {t : Int} {nu : Bool} (hs : s.length ≤ 140737488351232) :
    Calls Try.prog 43 #[.agg #[.bool b, .int .i64 n, .string (bstr s), .int .i64 x, .int .i64 y], .agg #[.string (bstr cn), .int .i64 t, .bool nu]] w (NewPost (.bool (rightB (b, n, s, x, y) t nu)) w) := by
  have z1 := bstr_size s
  generalize hO : rightB (b, n, s, x, y) t nu = O
  have HO := Lib.hid hO
  have Z := Lib.hid (bstr_nil (s := s))
  clear hO
  have B0 := Blk.new w 40 #[.bool b, .int .i64 n, .string (bstr s), .int .i64 x, .int .i64 y]
  have B1 := Blk.new (w.alloc (.cells #[.bool b, .int .i64 n, .string (bstr s), .int .i64 x, .int .i64 y] 40)) 74 #[.string (bstr cn), .int .i64 t, .bool nu]
  obtain ⟨x0, x1, x2, x3, x4⟩ := cells5 (B0.alloc (.cells #[.string (bstr cn), .int .i64 t, .bool nu] 74))
  obtain ⟨y0, y1, y2⟩ := ccells B1
  clear B0 B1
  go_enter Try.func43, Try.ntmps43
  go_wp2_with (first
    | (go_at_call 56; refine (pright_any x y).mono ?_; rintro e w' ⟨rfl, b1⟩))
  all_goals go_ret
  all_goals try refine ⟨?_, new2 w _ _⟩
  all_goals try refine ⟨?_, New.trans (new2 w _ _) (by assumption)⟩
  all_goals
    rw [← HO.out]
    have Z := Z.out
    clear x0 x1 x2 x3 x4 y0 y1 y2 HO
    simp_all [rightB]
  · by_cases h1 : n = 1 <;> simp [*]
  · omega

end Go.Proofs.Ytnghjkihdcmoiaa
/- Contracts of package plain: what may be laid, a row of bits, how much room. -/

namespace Go.Proofs.Ytnghjkihdcmoiaa
open Go.RowKit Go.Hm
theorem pack_plB {L : List CellS} (hR : ∀ c ∈ L, rightB c 1 false = true) (hn : L.length ≤ 65536) : packO (bitsP L) 1 = some (plB 1 L) := by
  refine (packO_some (bitsP L) 1 (by omega) (by unfold bitsP; rw [List.length_map]; omega) (bitsP_wid hR)).trans ?_
  unfold plB
  rw [if_pos rfl]
  unfold bitsP
  rw [List.length_map]
theorem known_any {w : World} {t n : Int} : Calls Try.prog 25 #[.int .i64 t, .int .i64 n] w (ValPost (.bool (decide (0 ≤ t ∧ t ≤ 3 ∧ 0 ≤ n ∧ n ≤ 65536))) w) := by
  by_cases h1 : 0 ≤ t
  all_goals try by_cases h2 : t ≤ 3
  all_goals try by_cases h3 : 0 ≤ n
  all_goals try by_cases h4 : n ≤ 65536
  all_goals
    go_enter Try.func25, Try.ntmps25
    go_wp2
    go_ret
    exact ⟨by simp; try omega, rfl⟩
set_option maxHeartbeats 2000000 in
set_option maxRecDepth 100000 in
theorem allright_any {w : World} {t : Int} {A : Option Addr} {n c : Nat} {L : List CellS} (h : Reads w w.heap.size 5 A n (recs cellV L)) (hL : ∀ y ∈ L, y.2.2.1.length ≤ 140737488351232) (hn : n ≤ 4611686018427387903) :
    Calls Try.prog 26 #[.int .i64 t, .slice A n c] w (NewPost (.bool (L.all fun c => rightB c t false)) w) := by
  obtain rfl := h.lenCell
  have HR := Lib.hid h
  have HL := Lib.hid hL
  clear h hL
  obtain ⟨M, hM⟩ : ∃ M, M = L.all fun c => rightB c t false := ⟨_, rfl⟩
  rw [← hM]
  have HM := Lib.hid hM
  clear hM
  go_enter Try.func26, Try.ntmps26
  go_wp2_with fail
  go_loopw [9] (fun i wr => ∃ k : Nat, k ≤ L.length ∧ i = .int .i64 (k : Int) ∧ New w wr ∧ Hid (∀ c ∈ L.take k, rightB c t false = true)) (fun i _ => L.length - (intOf i).toNat)
  case atStart => exact ⟨0, Nat.zero_le _, rfl, New.refl _, Lib.hid (by simp)⟩
  case round =>
    obtain ⟨k, hk, rfl, hW, hr⟩ := hrel
    by_cases hlt : k < L.length
    · obtain ⟨ad, rfl, hb, d0, d1, d2, d3, d4⟩ := (Reads.later HR.out hW).cell5 hlt
      have htk := take_snoc L k (false, 0, [], 0, 0) hlt
      have hmem : L.getD k (false, 0, [], 0, 0) ∈ L := by rw [List.getD_eq_getElem?_getD, List.getElem?_eq_getElem hlt]; exact List.getElem_mem hlt
      have hy := HL.out _ hmem
      have R1 := fun (W : World) => cright_any (w := W) (b := (L.getD k (false, 0, [], 0, 0)).1) (n := (L.getD k (false, 0, [], 0, 0)).2.1) (s := (L.getD k (false, 0, [], 0, 0)).2.2.1) (x := (L.getD k (false, 0, [], 0, 0)).2.2.2.1) (y := (L.getD k (false, 0, [], 0, 0)).2.2.2.2) (cn := []) (t := t) (nu := false) hy
      have hno : rightB (L.getD k (false, 0, [], 0, 0)) t false = false → M = false := fun e => by
        rw [HM.out]
        refine Bool.eq_false_iff.2 fun e2 => ?_
        have := (List.all_eq_true.1 e2) _ hmem
        rw [e] at this
        cases this
      have hyes : rightB (L.getD k (false, 0, [], 0, 0)) t false = true → ∀ c ∈ L.take (k + 1), rightB c t false = true := fun e c hc => by
        rw [htk] at hc
        rcases List.mem_append.1 hc with hc | hc
        · exact hr.out c hc
        · rw [List.mem_singleton.1 hc]; exact e
      clear htk hmem hy hr
      generalize L.getD k (false, 0, [], 0, 0) = y at *
      obtain ⟨y0, y1, y2, y3, y4⟩ := y
      dsimp only at R1 d0 d1 d2 d3 d4
      generalize rightB (y0, y1, y2, y3, y4) t false = m at *
      have R1 : Hid (∀ W, Calls Try.prog 43 #[.agg #[.bool y0, .int .i64 y1, .string (bstr y2), .int .i64 y3, .int .i64 y4], .agg #[.string ⟨#[]⟩, .int .i64 t, .bool false]] W (NewPost (.bool m) W)) := Lib.hid R1
      have hno := Lib.hid hno
      have hyes := Lib.hid hyes
      have ha : New wr (wr.alloc (.cells #[.bool y0, .int .i64 y1, .string (bstr y2), .int .i64 y3, .int .i64 y4] 40)) := (Below.refl _ _).alloc (Nat.le_refl _) _
      go_wp2_with fail
      refine (R1.out _).mono ?_
      rintro e w1 ⟨rfl, b1⟩
      have hl := New.trans (New.trans hW ha) b1
      cases m with
      | false =>
        have hm := hno.out (by trivial)
        have HM2 := Lib.hid hm
        clear hno hyes hm
        go_wp2_with fail
        go_ret
        exact ⟨by rw [HM2.out]; rfl, hl⟩
      | true =>
        have hy2 := hyes.out (by trivial)
        have HY2 := Lib.hid hy2
        clear hno hyes hy2
        go_wp2_with fail
        go_roundw
        case rel => exact ⟨k + 1, by omega, by go_num, hl, HY2⟩
        case measure => simp [intOf]; omega
    · obtain rfl : k = L.length := by omega
      have hr2 := hr.out
      rw [List.take_length] at hr2
      have HM2 : Hid (M = true) := Lib.hid (by rw [HM.out]; exact List.all_eq_true.2 hr2)
      clear hr hr2
      go_wp2_with fail
      go_ret
      exact ⟨by rw [HM2.out]; rfl, hW⟩
theorem bits_set (L : List CellS) (k : Nat) (h : k < L.length) : (bitsP (L.take k) ++ List.replicate (L.length - k) 0).set k (u64N (L.getD k (false, 0, [], 0, 0)).2.1) = bitsP (L.take (k + 1)) ++ List.replicate (L.length - (k + 1)) 0 := by
  have hl : (bitsP (L.take k)).length = k := by unfold bitsP; rw [List.length_map, List.length_take]; omega
  rw [List.set_append_right _ _ (by omega), hl, Nat.sub_self, show L.length - k = (L.length - (k + 1)) + 1 by omega, List.replicate_succ, List.set_cons_zero, take_snoc L k (false, 0, [], 0, 0) h]
  unfold bitsP
  rw [List.map_append, List.append_assoc]
  rfl
theorem u64_wrapN (n : Int) : IntKind.u64.wrap n = (u64N n : Int) := by
  rw [IntKind.wrap_u64]
  unfold u64N
  omega
set_option maxHeartbeats 2000000 in
set_option maxRecDepth 100000 in
theorem packBools_any {w : World} {A : Option Addr} {n c : Nat} {L : List CellS} (h : Reads w w.heap.size 5 A n (recs cellV L)) (hn : n ≤ 65536) :
    Calls Try.prog 27 #[.slice A n c] w (OptB (packO (bitsP L) 1) w) := by
  obtain rfl := h.lenCell
  have HR := Lib.hid h
  clear h
  go_enter Try.func27, Try.ntmps27
  go_wp2_with (first
    | (refine wpList_mk elW rfl (.tmp 8) (.tmp 8) rfl (W := w) (B := w.heap.size) L.length L.length rfl rfl rfl rfl (by omega) (Below.refl _ _) (Nat.le_refl _) rfl (by omega) (by simp only [maxLen]; omega) ?_
       intro w3 hown3 hg3 hb3 hs3))
  go_loopw [12] (fun i wr => ∃ k : Nat, k ≤ L.length ∧ i = .int .i64 (k : Int) ∧ Own wr w.heap.size 36 (.slice (some ⟨w.heap.size, 0, none⟩) L.length L.length) (nums .u64 (bitsP (L.take k) ++ List.replicate (L.length - k) 0)) ∧ Below w.heap.size w wr) (fun i _ => L.length - (intOf i).toNat)
  case atStart => exact ⟨0, Nat.zero_le _, rfl, by simpa [nums_replicate, bitsP] using hown3, hb3⟩
  case round =>
    obtain ⟨k, hk, rfl, hown, hbl⟩ := hrel
    clear hown3 hg3 hb3 hs3
    by_cases hlt : k < L.length
    · obtain ⟨ad, rfl, hb, d0, d1, d2, d3, d4⟩ := (Reads.later HR.out hbl).cell5 hlt
      have hset := bits_set L k hlt
      have hwr := u64_wrapN (L.getD k (false, 0, [], 0, 0)).2.1
      have hsz := hbl.size
      generalize L.getD k (false, 0, [], 0, 0) = y at *
      obtain ⟨y0, y1, y2, y3, y4⟩ := y
      dsimp only at hset hwr d0 d1 d2 d3 d4
      generalize u64N y1 = z at *
      have ha : New wr (wr.alloc (.cells #[.bool y0, .int .i64 y1, .string (bstr y2), .int .i64 y3, .int .i64 y4] 40)) := (Below.refl _ _).alloc (Nat.le_refl _) _
      obtain ⟨hg0, hgl, hc, hf, hs⟩ := (hown.later ha).num0 (i := k) hlt
      have hs := hs z
      rw [hset] at hs
      have HS := Lib.hid hs
      have hbl2 := New.trans hbl ha
      have HB := Lib.hid (hbl2.setCell (p := ⟨w.heap.size, k, none⟩) (Nat.le_refl _) (.int .u64 (z : Int)))
      clear hset hs hown
      go_wp2_with fail
      go_roundw
      case rel => exact ⟨k + 1, by omega, by go_num, HS.out, HB.out⟩
      case measure => simp [intOf]; omega
    · obtain rfl : k = L.length := by omega
      rw [Nat.sub_self, List.replicate_zero, List.append_nil, List.take_length] at hown
      have P := Lib.hid (pack_any (c := L.length) 1 hown.reads (fun x hx => by unfold bitsP at hx; obtain ⟨y, _, rfl⟩ := List.mem_map.1 hx; have := u64N_lt y.2.1; omega) (by omega) (by omega) (by omega))
      go_wp2_with fail
      refine P.out.mono ?_
      intro e w5 h5
      have hz := hbl.size
      generalize packO (bitsP L) 1 = o at *
      cases o with
      | none =>
        obtain ⟨rfl, b5⟩ := h5
        go_wp2_with fail
        go_ret2
        exact ⟨rfl, hbl.trans (Below.mono b5 hz)⟩
      | some l =>
        obtain ⟨A5, n5, c5, rfl, o5, b5⟩ := h5
        go_wp2_with fail
        go_ret2
        exact ⟨_, _, _, rfl, o5.base_le hz, hbl.trans (Below.mono b5 hz)⟩
theorem vp_max : (vp 18446744073709551615).length = 10 := by
  rw [vp_ge (by omega), vp_ge (by omega), vp_ge (by omega), vp_ge (by omega), vp_ge (by omega), vp_ge (by omega), vp_ge (by omega), vp_ge (by omega), vp_ge (by omega), vp_lt (by omega)]
  rfl
def RoomPost (w : World) (e : Ending) (w' : World) : Prop := ∃ r : Nat, e = .returned (.int .i64 (r : Int)) ∧ r ≤ 10000000000 ∧ New w w'
set_option maxHeartbeats 2000000 in
set_option maxRecDepth 100000 in
theorem room_any {w : World} {A : Option Addr} {n c : Nat} {L : List CellS} (h : Reads w w.heap.size 5 A n (recs cellV L)) (hn : n ≤ 65536) (hL : ∀ y ∈ L, y.2.2.1.length ≤ 65536) :
    Calls Try.prog 28 #[.slice A n c] w (RoomPost w) := by
  obtain rfl := h.lenCell
  have HR := Lib.hid h
  have HL := Lib.hid hL
  clear h hL
  go_enter Try.func28, Try.ntmps28
  go_wp2_with fail
  go_loopw [3, 8] (fun v i wr => ∃ k r : Nat, k ≤ L.length ∧ i = .int .i64 (k : Int) ∧ v = .int .i64 (r : Int) ∧ r ≤ k * 65546 ∧ New w wr) (fun _ i _ => L.length - (intOf i).toNat)
  case atStart => exact ⟨0, 0, Nat.zero_le _, rfl, rfl, by omega, New.refl _⟩
  case round =>
    obtain ⟨k, r, hk, rfl, rfl, hr, hW⟩ := hrel
    by_cases hlt : k < L.length
    · obtain ⟨ad, rfl, hb, d0, d1, d2, d3, d4⟩ := (Reads.later HR.out hW).cell5 hlt
      have hy := HL.out (L.getD k (false, 0, [], 0, 0)) (by rw [List.getD_eq_getElem?_getD, List.getElem?_eq_getElem hlt]; exact List.getElem_mem hlt)
      generalize L.getD k (false, 0, [], 0, 0) = y at *
      obtain ⟨y0, y1, y2, y3, y4⟩ := y
      dsimp only at hy d0 d1 d2 d3 d4
      have zs := bstr_size y2
      have HY := Lib.hid (Blk.new wr 40 #[.bool y0, .int .i64 y1, .string (bstr y2), .int .i64 y3, .int .i64 y4])
      have ha : New wr (wr.alloc (.cells #[.bool y0, .int .i64 y1, .string (bstr y2), .int .i64 y3, .int .i64 y4] 40)) := (Below.refl _ _).alloc (Nat.le_refl _) _
      have SZ : Hid (∀ W, Calls Try.prog 33 #[.int .u64 18446744073709551615] W (ValPost (.int .i64 10) W)) := Lib.hid fun W => (size_any 18446744073709551615 W (by omega)).mono (by
        rintro e w' ⟨rfl, rfl⟩
        exact ⟨by rw [vp_max]; rfl, rfl⟩)
      have w1 : IntKind.i64.wrap (10 + (y2.length : Int)) = 10 + (y2.length : Int) := IntWalk.i64_in _ (by omega)
      have w2 : IntKind.i64.wrap ((r : Int) + (10 + (y2.length : Int))) = (r : Int) + (10 + (y2.length : Int)) := IntWalk.i64_in _ (by omega)
      go_wp2_with fail
      refine wp_region_up New [(true, 0), (true, 2), (true, 3), (true, 4), (false, 1), (true, 5), (true, 6), (true, 7)] New.refl New.trans (by kernel_rfl) (by kernel_rfl) (by kernel_rfl) (by kernel_rfl) ?_
      have hU := New.drew (wr.alloc (.cells #[.bool y0, .int .i64 y1, .string (bstr y2), .int .i64 y3, .int .i64 y4] 40))
      repeat (first
        | (refine up_call rfl rfl (fun K hK => ?_); go_simp
           (with_reducible refine (SZ.out _).mono ?_); rintro e w6 ⟨rfl, rfl⟩
           refine hK _ _ (New.refl _) ?_
           clear hK)
        | (refine up_skip rfl rfl ?_; simp only [Act.put, List.setIfInBounds_toArray, List.set_cons_zero, List.set_cons_succ])
        | (refine up_quiet rfl rfl (v := ?_) (fun W hQ => ?_) ?_; rotate_left; (obtain ⟨z0, z1, z2, z3, z4⟩ := cells5 (HY.out.below (New.trans hU hQ) HY.out.lt); go_simp <;> with_reducible rfl); simp only [Act.put, List.setIfInBounds_toArray, List.set_cons_zero, List.set_cons_succ]))
      refine up_nil ?_
      go_wp2_with fail
      go_roundw
      case rel => exact ⟨k + 1, r + (10 + y2.length), by omega, by go_num, by simp, by omega, New.trans (New.trans hW ha) hU⟩
      case measure => simp [intOf]; omega
    · obtain rfl : k = L.length := by omega
      go_wp2_with fail
      go_ret
      exact ⟨r, rfl, by omega, hW⟩

end Go.Proofs.Ytnghjkihdcmoiaa
/- Stores of records and of whole blocks. No program is named here. -/

namespace Go.Hm
open Go Go.RowKit
theorem setCell_gr {w : World} {g i : Nat} {x : Value} : w.grownBy (w.setCell ⟨g, i, none⟩ x) (some g) :=
  ⟨rfl, rfl, rfl, by simp [World.setCell], fun k _ hne => Below.heap_setCell _ _ _ _ (fun e => hne (by rw [e]))⟩
variable {P : Program}
/-- Five cells are stored into a block, from a place on. -/
theorem wpList_store5 {ops : Array Oper} {rest : List Oper} {op : Oper} {a : Act} {w : World} {Q : Exit → Act → World → Prop} (hgd : op.guard = none) (ty : TypeId) (x y : Operand) (ho : op.op = .store ty x y)
    (g o : Nat) {v0 v1 v2 v3 v4 : Value} (hx : a.eval x = .pointer (some ⟨g, o, none⟩)) (hy : a.eval y = .agg #[v0, v1, v2, v3, v4]) {t : TypeId} {cs : Array Value} (hB : Blk w g t cs) (hsz : o + 5 ≤ cs.size)
    (hi : (P.info? ty).map (·.size) = some 5) (h1 : (#[v0, v1, v2, v3, v4] : Array Value).all (·.oneCell') = true)
    (h : ∀ W, Blk W g t (((((cs.setIfInBounds o v0).setIfInBounds (o + 1) v1).setIfInBounds (o + 1 + 1) v2).setIfInBounds (o + 1 + 1 + 1) v3).setIfInBounds (o + 1 + 1 + 1 + 1) v4) →
      (∀ B w0, Below B w0 w → B ≤ g → Below B w0 W) → (∀ g' t' cs', g' ≠ g → Blk w g' t' cs' → Blk W g' t' cs') → wpList P ops Q rest (a.put op.dst undef) W) : wpList P ops Q (op :: rest) a w := by
  have ht : w.there g o (#[v0, v1, v2, v3, v4] : Array Value).size := by
    intro j hj
    have hj : j < 5 := hj
    refine ⟨?_, hB.frozen _⟩
    rw [hB.cell, Array.getElem?_eq_getElem (by omega)]
    rfl
  refine wpList_store_mid hgd ty x y ho g o #[v0, v1, v2, v3, v4] hx hy ht hi h1 ?_
  refine h _ (((((hB.set_ o v0).set_ (o + 1) v1).set_ (o + 1 + 1) v2).set_ (o + 1 + 1 + 1) v3).set_ (o + 1 + 1 + 1 + 1) v4) (fun B w0 hb hg => ?_) (fun g' t' cs' hne k => ?_)
  · exact ((((hb.setCell (p := ⟨g, o, none⟩) hg v0).setCell (p := ⟨g, o + 1, none⟩) hg v1).setCell (p := ⟨g, o + 1 + 1, none⟩) hg v2).setCell (p := ⟨g, o + 1 + 1 + 1, none⟩) hg v3).setCell (p := ⟨g, o + 1 + 1 + 1 + 1, none⟩) hg v4
  · exact ((((k.far (p := ⟨g, o, none⟩) hne v0).far (p := ⟨g, o + 1, none⟩) hne v1).far (p := ⟨g, o + 1 + 1, none⟩) hne v2).far (p := ⟨g, o + 1 + 1 + 1, none⟩) hne v3).far (p := ⟨g, o + 1 + 1 + 1 + 1, none⟩) hne v4
/-- A whole block is stored. -/
theorem wpList_storeB {ops : Array Oper} {rest : List Oper} {o : Oper} {a : Act} {w : World} {Q : Exit → Act → World → Prop} (hgd : o.guard = none) (ty : TypeId) (x y : Operand) (ho : o.op = .store ty x y)
    (g : Nat) (cells : Array Value) (hx : a.eval x = .pointer (some ⟨g, 0, none⟩)) (hy : a.eval y = .agg cells) {t : TypeId} {old : Array Value} (hB : Blk w g t old) (hi : (P.info? ty).map (·.size) = some cells.size)
    (hold : old.size = cells.size) (h1 : cells.all (·.oneCell') = true)
    (h : ∀ W, Blk W g t cells → (∀ B w0, Below B w0 w → B ≤ g → Below B w0 W) → (∀ g' t' cs', g' ≠ g → Blk w g' t' cs' → Blk W g' t' cs') → wpList P ops Q rest (a.put o.dst undef) W) : wpList P ops Q (o :: rest) a w := by
  refine wpList_store_row hgd ty x y ho g cells hx hy t old hB hi hold h1 ?_
  have hfar : ∀ k, k ≠ g → (w.setRow g cells).heap[k]? = w.heap[k]? := fun k hne => by
    simp [World.setRow, Array.getElem?_modify]
    intro e
    exact absurd e.symm hne
  refine h _ ?_ (fun B w0 hb hg => ⟨hb.os, hb.tape, hb.output, by simpa [World.setRow] using hb.size, fun k hk => ?_⟩) (fun g' t' cs' hne k => (hfar g' hne).trans k)
  · unfold Blk at hB ⊢
    simp [World.setRow, Array.getElem?_modify, hB]
  · rw [hfar k (by omega)]
    exact hb.block k hk
/-- A whole block is stored, at the operation. -/
theorem wp_storeB {o : Oper} {a : Act} {w : World} {K : Act → World → Prop} {Q : Exit → Act → World → Prop} (ty : TypeId) (x y : Operand) (ho : o.op = .store ty x y)
    (g : Nat) (cells : Array Value) (hx : a.eval x = .pointer (some ⟨g, 0, none⟩)) (hy : a.eval y = .agg cells) {t : TypeId} {old : Array Value} (hB : Blk w g t old) (hi : (P.info? ty).map (·.size) = some cells.size)
    (hold : old.size = cells.size) (h1 : cells.all (·.oneCell') = true)
    (h : ∀ W, Blk W g t cells → (∀ B w0, Below B w0 w → B ≤ g → Below B w0 W) → (∀ g' t' cs', g' ≠ g → Blk w g' t' cs' → Blk W g' t' cs') → K (a.put o.dst undef) W) : o.wp P a w K Q := by
  refine wp_store_row ty x y ho g cells hx hy t old hB hi hold h1 ?_
  have hfar : ∀ k, k ≠ g → (w.setRow g cells).heap[k]? = w.heap[k]? := fun k hne => by
    simp [World.setRow, Array.getElem?_modify]
    intro e
    exact absurd e.symm hne
  refine h _ ?_ (fun B w0 hb hg => ⟨hb.os, hb.tape, hb.output, by simpa [World.setRow] using hb.size, fun k hk => ?_⟩) (fun g' t' cs' hne k => (hfar g' hne).trans k)
  · unfold Blk at hB ⊢
    simp [World.setRow, Array.getElem?_modify, hB]
  · rw [hfar k (by omega)]
    exact hb.block k hk
theorem cells12 {w : World} {g : Nat} {ty : TypeId} {a0 a1 a2 a3 a4 a5 a6 a7 a8 a9 aa ab : Value} (h : Blk w g ty #[a0, a1, a2, a3, a4, a5, a6, a7, a8, a9, aa, ab]) :
    w.cell? ⟨g, 0, none⟩ = some a0 ∧ w.cell? ⟨g, 1, none⟩ = some a1 ∧ w.cell? ⟨g, 2, none⟩ = some a2 ∧ w.cell? ⟨g, 3, none⟩ = some a3 ∧ w.cell? ⟨g, 4, none⟩ = some a4 ∧ w.cell? ⟨g, 5, none⟩ = some a5
      ∧ w.cell? ⟨g, 6, none⟩ = some a6 ∧ w.cell? ⟨g, 7, none⟩ = some a7 ∧ w.cell? ⟨g, 8, none⟩ = some a8 ∧ w.cell? ⟨g, 9, none⟩ = some a9 ∧ w.cell? ⟨g, 10, none⟩ = some aa ∧ w.cell? ⟨g, 11, none⟩ = some ab := by
  have h0 := h.cell 0
  have h1 := h.cell 1
  have h2 := h.cell 2
  have h3 := h.cell 3
  have h4 := h.cell 4
  have h5 := h.cell 5
  have h6 := h.cell 6
  have h7 := h.cell 7
  have h8 := h.cell 8
  have h9 := h.cell 9
  have h10 := h.cell 10
  have h11 := h.cell 11
  simp at h0 h1 h2 h3 h4 h5 h6 h7 h8 h9 h10 h11
  exact ⟨h0, h1, h2, h3, h4, h5, h6, h7, h8, h9, h10, h11⟩
/-- A whole block is stored; no other is turned. -/
theorem wpList_storeG {ops : Array Oper} {rest : List Oper} {o : Oper} {a : Act} {w : World} {Q : Exit → Act → World → Prop} (hgd : o.guard = none) (ty : TypeId) (x y : Operand) (ho : o.op = .store ty x y)
    (g : Nat) (cells : Array Value) (hx : a.eval x = .pointer (some ⟨g, 0, none⟩)) (hy : a.eval y = .agg cells) {t : TypeId} {old : Array Value} (hB : Blk w g t old) (hi : (P.info? ty).map (·.size) = some cells.size)
    (hold : old.size = cells.size) (h1 : cells.all (·.oneCell') = true)
    (h : ∀ W, Blk W g t cells → w.grownBy W (some g) → wpList P ops Q rest (a.put o.dst undef) W) : wpList P ops Q (o :: rest) a w := by
  refine wpList_store_row hgd ty x y ho g cells hx hy t old hB hi hold h1 ?_
  refine h _ ?_ ⟨rfl, rfl, rfl, by simp [World.setRow], fun k _ hne => ?_⟩
  · unfold Blk at hB ⊢
    simp [World.setRow, Array.getElem?_modify, hB]
  · simp [World.setRow, Array.getElem?_modify]
    intro e
    exact absurd (by rw [e]) hne
/-- What is turned beside lies beyond. -/
theorem grown_then {w w3 W : World} {g b : Nat} (G : w.grownBy w3 (some g)) (k : w3.grownBy W (some b)) (hb : w.heap.size ≤ b) : w.grownBy W (some g) :=
  ⟨k.os.trans G.os, k.tape.trans G.tape, k.output.trans G.output, Nat.le_trans G.size k.size, fun i hi hne => (k.block i (Nat.lt_of_lt_of_le hi G.size) (fun e => by injection e with e; omega)).trans (G.block i hi hne)⟩
/-- Five cells are stored into a block, from a place on; no other is turned. -/
theorem wpList_store5G {ops : Array Oper} {rest : List Oper} {op : Oper} {a : Act} {w : World} {Q : Exit → Act → World → Prop} (hgd : op.guard = none) (ty : TypeId) (x y : Operand) (ho : op.op = .store ty x y)
    (g o : Nat) {v0 v1 v2 v3 v4 : Value} (hx : a.eval x = .pointer (some ⟨g, o, none⟩)) (hy : a.eval y = .agg #[v0, v1, v2, v3, v4]) {t : TypeId} {cs : Array Value} (hB : Blk w g t cs) (hsz : o + 5 ≤ cs.size)
    (hi : (P.info? ty).map (·.size) = some 5) (h1 : (#[v0, v1, v2, v3, v4] : Array Value).all (·.oneCell') = true)
    (h : ∀ W, Blk W g t (((((cs.setIfInBounds o v0).setIfInBounds (o + 1) v1).setIfInBounds (o + 1 + 1) v2).setIfInBounds (o + 1 + 1 + 1) v3).setIfInBounds (o + 1 + 1 + 1 + 1) v4) →
      w.grownBy W (some g) → wpList P ops Q rest (a.put op.dst undef) W) : wpList P ops Q (op :: rest) a w := by
  have ht : w.there g o (#[v0, v1, v2, v3, v4] : Array Value).size := by
    intro j hj
    have hj : j < 5 := hj
    refine ⟨?_, hB.frozen _⟩
    rw [hB.cell, Array.getElem?_eq_getElem (by omega)]
    rfl
  refine wpList_store_mid hgd ty x y ho g o #[v0, v1, v2, v3, v4] hx hy ht hi h1 ?_
  exact h _ (((((hB.set_ o v0).set_ (o + 1) v1).set_ (o + 1 + 1) v2).set_ (o + 1 + 1 + 1) v3).set_ (o + 1 + 1 + 1 + 1) v4)
    (((((setCell_gr (w := w) (g := g) (i := o) (x := v0)).trans setCell_gr).trans setCell_gr).trans setCell_gr).trans setCell_gr)

end Go.Hm
/- The contracts of plain.lay and plain.Encode. -/

namespace Go.Hm
open Go Go.RowKit
theorem right20 {c : CellS} (h : rightB c 3 false = true) : c.2.2.1 = [] := by
  have h0 := right0 h
  unfold rightB at h
  rw [h0] at h
  simp at h
  exact h.1.2
theorem rightB_t {c : CellS} {t : Int} (h : rightB c t false = true) : t = 0 ∨ t = 1 ∨ t = 2 ∨ t = 3 := by
  have h0 := right0 h
  unfold rightB at h
  rw [h0] at h
  by_cases h1 : t = 0
  · exact .inl h1
  · by_cases h2 : t = 1
    · exact .inr (.inl h2)
    · by_cases h3 : t = 2
      · exact .inr (.inr (.inl h3))
      · by_cases h4 : t = 3
        · exact .inr (.inr (.inr h4))
        · simp [h1, h2, h3, h4] at h

end Go.Hm

namespace Go.Proofs.Ytnghjkihdcmoiaa
open Go.RowKit Go.Hm
def LayP (W0 : World) (B base : Nat) (l : List Nat) (e : Ending) (w' : World) : Prop := ∃ A n c, e = .returned (.slice A n c) ∧ Own w' base 5 (.slice A n c) (nums .u8 l) ∧ Below B W0 w'
set_option maxHeartbeats 4000000 in
set_option maxRecDepth 100000 in
theorem lay_any {w W0 : World} {B base : Nat} {A : Option Addr} {n cap : Nat} {l : List Nat} {t : Int} {c : CellS} (o : Own w base 5 (.slice A n cap) (nums .u8 l)) (hb : Below B W0 w) (hbB : B ≤ base) (hbase : base ≤ w.heap.size) (hn : n ≤ 100000000000)
    (hr : rightB c t false = true) (ht : t ≠ 1) (h8 : ∀ z ∈ c.2.2.1, z < 256) (hi : -9223372036854775808 ≤ c.2.1 ∧ c.2.1 ≤ 9223372036854775807) :
    Calls Try.prog 29 #[.slice A n cap, .int .i64 t, cellA c] w (LayP W0 B base (l ++ plE t c)) := by
  have h2 := fun (e : t = 2) => right2 (by rw [← e]; exact hr)
  have h3 := fun (e : t = 3) => right3 (by rw [← e]; exact hr)
  have h4 := fun (e : t = 3) => right20 (by rw [← e]; exact hr)
  have h1 := rightB_t hr
  clear hr
  obtain ⟨y0, y1, y2, y3, y4⟩ := c
  dsimp only at h2 h3 h4 h8 hi
  unfold plE
  dsimp only
  show Calls Try.prog 29 #[.slice A n cap, .int .i64 t, .agg #[.bool y0, .int .i64 y1, .string (bstr y2), .int .i64 y3, .int .i64 y4]] w _
  have B0 := Blk.new w 40 #[.bool y0, .int .i64 y1, .string (bstr y2), .int .i64 y3, .int .i64 y4]
  obtain ⟨x0, x1, x2, x3, x4⟩ := cells5 B0
  have ha : New w (w.alloc (.cells #[.bool y0, .int .i64 y1, .string (bstr y2), .int .i64 y3, .int .i64 y4] 40)) := (Below.refl _ _).alloc (Nat.le_refl _) _
  have o1 := o.later ha
  have b1 : Below B W0 (w.alloc (.cells #[.bool y0, .int .i64 y1, .string (bstr y2), .int .i64 y3, .int .i64 y4] 40)) := hb.trans (Below.mono ha (by omega))
  have zs := bstr_size y2
  have hz1 := ha.size
  clear o hb
  rcases h1 with rfl | rfl | rfl | rfl
  · rw [if_pos rfl]
    have HL := Lib.hid (low_len (u64N y1) 8)
    have U := Lib.hid (fun (W : World) => lay_u64 (w := W) (A := none) (n := 0) (c := 0) (l := []) (u64N y1) Reads.none_ (by omega))
    have hw := u64_wrapN y1
    generalize u64N y1 = z at *
    go_enter Try.func29, Try.ntmps29
    go_wp2_with fail
    refine (U.out _).mono ?_
    rintro e w2 ⟨A2, n2, c2, rfl, k2, b2⟩
    rw [List.nil_append] at k2
    have o2 := o1.later b2
    have b02 : Below B W0 w2 := b1.trans (Below.mono b2 (by omega))
    have q2 : n2 ≤ 8 := by have := k2.len; rw [nums_length, HL.out] at this; omega
    have hz2 := b2.size
    have r2 := k2.reads
    clear k2 b2
    go_wp2_with (refine wpList_pushesN elB rfl (.tmp 19) (.tmp 23) rfl (W := W0) (B := B) o2 r2 rfl rfl b02 hbB (by omega) (by omega) (by simp only [maxLen]; omega) ?_
                 intro A3 c3 w3 _ _ o3 _ b3 _)
    go_ret
    exact ⟨_, _, _, rfl, o3, b3⟩
  · exact absurd rfl ht
  · rw [if_neg (by decide), if_pos rfl]
    have hl2 := h2 rfl
    have V := Lib.hid (vp_len10 (n := y2.length) (by omega))
    have P := Lib.hid (fun (W : World) => put_any none 0 0 [] y2.length W Reads.none_ (by omega) (by omega))
    have hw : IntKind.u64.wrap (y2.length : Int) = (y2.length : Int) := by rw [IntKind.wrap_u64]; omega
    clear h2 h3 h4
    go_enter Try.func29, Try.ntmps29
    go_wp2_with fail
    refine (P.out _).mono ?_
    rintro e w2 ⟨A2, n2, c2, rfl, k2, b2⟩
    rw [List.nil_append] at k2
    have o2 := o1.later b2
    have b02 : Below B W0 w2 := b1.trans (Below.mono b2 (by omega))
    have q2 : n2 ≤ 10 := by have := k2.len; rw [nums_length] at this; have := V.out; omega
    have hz2 := b2.size
    have r2 := k2.reads
    have B2 := B0.below b2 B0.lt
    clear k2 b2 x0 x1 x2 x3 x4
    go_wp2_with (first
      | (refine wpList_pushesN elB rfl (.tmp 36) (.tmp 38) rfl (W := W0) (B := B) o2 r2 rfl rfl b02 hbB (by omega) (by omega) (by simp only [maxLen]; omega) ?_
         intro A3 c3 w3 _ _ o3 g3 b3 _
         obtain ⟨x0, x1, x2, x3, x4⟩ := cells5 (B2.push o2 g3 (by decide))
         have hz3 := g3.size)
      | (refine wpList_pushStr elB strT rfl (.tmp 40) (.tmp 42) rfl (W := W0) (B := B) o3 h8 rfl rfl b3 hbB (by omega) (by omega) ?_
         intro A4 c4 w4 _ _ o4 _ b4))
    go_ret
    exact ⟨_, _, _, rfl, by rw [← List.append_assoc]; exact o4, b4⟩
  · rw [if_neg (by decide), if_neg (by decide), if_pos rfl]
    obtain ⟨⟨p1, p2⟩, p3, p4⟩ := h3 rfl
    have he := h4 rfl
    subst he
    have V1 := Lib.hid (vp_len10 (n := zig y3) (by unfold zig; split <;> omega))
    have V2 := Lib.hid (vp_len10 (n := zig y4) (by unfold zig; split <;> omega))
    have Z1 := Lib.hid (fun (W : World) => zig_any y3 W (by omega) (by omega))
    have Z2 := Lib.hid (fun (W : World) => zig_any y4 W (by omega) (by omega))
    have P1 := Lib.hid (fun (W : World) => put_any none 0 0 [] (zig y3) W Reads.none_ (by omega) (by unfold zig; split <;> omega))
    have P2 := Lib.hid (fun (W : World) => put_any none 0 0 [] (zig y4) W Reads.none_ (by omega) (by unfold zig; split <;> omega))
    clear h2 h3 h4
    generalize zig y3 = z3 at *
    generalize zig y4 = z4 at *
    go_enter Try.func29, Try.ntmps29
    go_wp2_with fail
    refine (Z1.out _).mono ?_
    rintro e w2 ⟨rfl, rfl⟩
    go_wp2_with fail
    refine (P1.out _).mono ?_
    rintro e w2 ⟨A2, n2, c2, rfl, k2, b2⟩
    rw [List.nil_append] at k2
    have o2 := o1.later b2
    have b02 : Below B W0 w2 := b1.trans (Below.mono b2 (by omega))
    have q2 : n2 ≤ 10 := by have := k2.len; rw [nums_length] at this; have := V1.out; omega
    have hz2 := b2.size
    have r2 := k2.reads
    have B2 := B0.below b2 B0.lt
    clear k2 b2 x0 x1 x2 x3 x4
    go_wp2_with (refine wpList_pushesN elB rfl (.tmp 25) (.tmp 30) rfl (W := W0) (B := B) o2 r2 rfl rfl b02 hbB (by omega) (by omega) (by simp only [maxLen]; omega) ?_
                 intro A3 c3 w3 _ _ o3 g3 b3 _
                 have B3 := B2.push o2 g3 (by decide)
                 obtain ⟨x0, x1, x2, x3, x4⟩ := cells5 B3
                 have hz3 := g3.size)
    refine (Z2.out _).mono ?_
    rintro e w4 ⟨rfl, rfl⟩
    go_wp2_with fail
    refine (P2.out _).mono ?_
    rintro e w4 ⟨A4, n4, c4, rfl, k4, b4⟩
    rw [List.nil_append] at k4
    have o4 := o3.later b4
    have b04 : Below B W0 w4 := b3.trans (Below.mono b4 (by omega))
    have q4 : n4 ≤ 10 := by have := k4.len; rw [nums_length] at this; have := V2.out; omega
    have hz4 := b4.size
    have r4 := k4.reads
    have B4 := B3.below b4 B3.lt
    clear k4 b4 x0 x1 x2 x3 x4
    go_wp2_with (first
      | (refine wpList_pushesN elB rfl (.tmp 36) (.tmp 38) rfl (W := W0) (B := B) o4 r4 rfl rfl b04 hbB (by omega) (by omega) (by simp only [maxLen]; omega) ?_
         intro A5 c5 w5 _ _ o5 g5 b5 _
         obtain ⟨x0, x1, x2, x3, x4⟩ := cells5 (B4.push o4 g5 (by decide))
         have hz5 := g5.size)
      | (refine wpList_pushStr elB strT rfl (.tmp 40) (.tmp 42) rfl (W := W0) (B := B) o5 (l2 := []) (by simp) rfl rfl b5 hbB (by omega) (by simp; omega) ?_
         intro A6 c6 w6 _ _ o6 _ b6))
    go_ret
    exact ⟨_, _, _, rfl, by rw [List.append_nil] at o6; rw [← List.append_assoc]; exact o6, b6⟩
theorem flat_snoc {t : Int} {L : List CellS} {k : Nat} (h : k < L.length) : (L.take (k + 1)).flatMap (plE t) = (L.take k).flatMap (plE t) ++ plE t (L.getD k (false, 0, [], 0, 0)) := by
  rw [take_snoc L k (false, 0, [], 0, 0) h, List.flatMap_append]
  simp
theorem flat_len {t : Int} : ∀ l : List CellS, (∀ c ∈ l, rightB c t false = true) → (∀ c ∈ l, c.2.2.1.length ≤ 65536) → (l.flatMap (plE t)).length ≤ l.length * 65556
  | [], _, _ => by simp
  | c :: l, h, k => by
    have a := flat_len l (fun d hd => h d (by simp [hd])) (fun d hd => k d (by simp [hd]))
    have b := plE_len (h c (by simp))
    have d := k c (by simp)
    rw [List.flatMap_cons, List.length_append, List.length_cons]
    omega
theorem right_text {c : CellS} {t : Int} (h : rightB c t false = true) : c.2.2.1.length ≤ 65536 := by
  have h0 := right0 h
  rcases rightB_t h with rfl | rfl | rfl | rfl
  · unfold rightB at h
    rw [h0] at h
    simp at h
    rw [h.1]
    simp
  · unfold rightB at h
    rw [h0] at h
    simp at h
    rw [h.1.1]
    simp
  · exact right2 h
  · rw [right20 h]
    simp
/-- Cells that are plain data. -/
def cellData (c : CellS) : Prop := (c.2.2.1.length ≤ 140737488351232 ∧ ∀ z ∈ c.2.2.1, z < 256) ∧ -9223372036854775808 ≤ c.2.1 ∧ c.2.1 ≤ 9223372036854775807
set_option maxHeartbeats 2000000 in
set_option maxRecDepth 100000 in
theorem plain_any {w : World} {t : Int} {A : Option Addr} {n c : Nat} {L : List CellS} (h : Reads w w.heap.size 5 A n (recs cellV L)) (hL : ∀ y ∈ L, cellData y) (hn : n ≤ 4611686018427387903) :
    Calls Try.prog 13 #[.int .i64 t, .slice A n c] w (OptB (plO t L) w) := by
  obtain rfl := h.lenCell
  have HR := Lib.hid h
  have AR := Lib.hid (allright_any (t := t) (c := c) h (fun y hy => (hL y hy).1.1) hn)
  have KN := Lib.hid (known_any (w := w) (t := t) (n := (L.length : Int)))
  have ek : plOk t L = (decide (0 ≤ t ∧ t ≤ 3 ∧ 0 ≤ (L.length : Int) ∧ (L.length : Int) ≤ 65536) && L.all fun c => rightB c t false) := by
    unfold plOk
    congr 1
    rw [decide_eq_decide]
    omega
  obtain ⟨M, hM⟩ : ∃ M, M = plO t L := ⟨_, rfl⟩
  rw [← hM]
  unfold plO at hM
  by_cases hk : (0 ≤ t ∧ t ≤ 3 ∧ 0 ≤ (L.length : Int) ∧ (L.length : Int) ≤ 65536)
  · rw [decide_eq_true hk] at KN ek
    cases ha : L.all fun c => rightB c t false with
    | false =>
      rw [ha] at AR
      rw [ek, ha] at hM
      simp at hM
      have HM := Lib.hid hM
      clear hM ek ha hL h
      go_enter Try.func13, Try.ntmps13
      go_wp2_with fail
      refine KN.out.mono ?_
      rintro e w1 ⟨rfl, rfl⟩
      go_wp2_with fail
      refine AR.out.mono ?_
      rintro e w1 ⟨rfl, b1⟩
      go_wp2_with fail
      go_ret2
      rw [HM.out]
      exact ⟨rfl, b1⟩
    | true =>
      rw [ha] at AR
      rw [ek, ha] at hM
      simp at hM
      have hR := List.all_eq_true.1 ha
      have hn2 : L.length ≤ 65536 := by omega
      by_cases h1 : t = 1
      · subst h1
        have hP := packO_some (bitsP L) 1 (by omega) (by unfold bitsP; rw [List.length_map]; omega) (bitsP_wid hR)
        have hM2 : M = packO (bitsP L) 1 := by
          rw [hM]
          unfold plB
          rw [if_pos rfl]
          refine Eq.trans ?_ hP.symm
          unfold bitsP
          rw [List.length_map]
        have HM := Lib.hid hM2
        have PB := Lib.hid (fun (W : World) (hW : New w W) => packBools_any (c := c) (Reads.later HR.out hW) hn2)
        clear hM hM2 hP ek ha hR hL h
        go_enter Try.func13, Try.ntmps13
        go_wp2_with fail
        refine KN.out.mono ?_
        rintro e w1 ⟨rfl, rfl⟩
        go_wp2_with fail
        refine AR.out.mono ?_
        rintro e w1 ⟨rfl, b1⟩
        go_wp2_with fail
        refine (PB.out _ b1).mono ?_
        intro e w2 h2
        rw [← HM.out] at h2
        cases M with
        | none =>
          obtain ⟨rfl, b2⟩ := h2
          go_wp2_with fail
          go_ret2
          exact ⟨rfl, New.trans b1 b2⟩
        | some l =>
          obtain ⟨A2, n2, c2, rfl, o2, b2⟩ := h2
          go_wp2_with fail
          go_ret2
          exact ⟨_, _, _, rfl, o2.base_le b1.size, New.trans b1 b2⟩
      · have hM2 : M = some (L.flatMap (plE t)) := by rw [hM]; unfold plB; rw [if_neg h1]
        have HM := Lib.hid hM2
        have HR2 := Lib.hid hR
        have hx : ∀ c ∈ L, c.2.2.1.length ≤ 65536 := fun c hc => right_text (hR c hc)
        have HX := Lib.hid hx
        have HD := Lib.hid hL
        have RM := Lib.hid (fun (W : World) (hW : New w W) => room_any (c := c) (Reads.later HR.out hW) hn2 hx)
        clear hM hM2 ek ha hR hL h hx
        go_enter Try.func13, Try.ntmps13
        go_wp2_with fail
        refine KN.out.mono ?_
        rintro e w1 ⟨rfl, rfl⟩
        go_wp2_with fail
        refine AR.out.mono ?_
        rintro e w1 ⟨rfl, b1⟩
        go_wp2_with fail
        refine (RM.out _ b1).mono ?_
        rintro e w2 ⟨r, rfl, hr, b2⟩
        have b02 := New.trans b1 b2
        have hz2 := b02.size
        go_wp2_with (refine wpList_mk elB rfl (.const (.int .i64 0)) (.tmp 27) rfl (W := w) (B := w.heap.size) 0 r rfl rfl rfl rfl (by omega) b02 hz2 rfl (by omega) (by simp only [maxLen]; omega) ?_
                     intro w3 o3 _ b3 hs3)
        go_loopw [6, 31] (fun v i wr => ∃ (k m cc : Nat) (AA : Option Addr), k ≤ L.length ∧ i = .int .i64 (k : Int) ∧ v = .slice AA m cc ∧ Own wr w.heap.size 5 (.slice AA m cc) (nums .u8 ((L.take k).flatMap (plE t))) ∧ Below w.heap.size w wr) (fun _ i _ => L.length - (intOf i).toNat)
        case atStart => exact ⟨0, 0, r, _, Nat.zero_le _, rfl, rfl, by have := o3.base_le hz2; simpa [nums] using this, b3⟩
        case round =>
          obtain ⟨k, m, cc, AA, hk2, rfl, rfl, o, b⟩ := hrel
          clear o3 b3 hs3 b1 b2 b02 hz2
          by_cases hlt : k < L.length
          · obtain ⟨ad, rfl, hb, d0, d1, d2, d3, d4⟩ := (Reads.later HR.out b).cell5 hlt
            have hmem : L.getD k (false, 0, [], 0, 0) ∈ L := by rw [List.getD_eq_getElem?_getD, List.getElem?_eq_getElem hlt]; exact List.getElem_mem hlt
            have hfs := flat_snoc (t := t) hlt
            have hfl := flat_len (L.take k) (fun c hc => HR2.out c (List.mem_of_mem_take hc)) (fun c hc => HX.out c (List.mem_of_mem_take hc))
            rw [List.length_take] at hfl
            have hm : m ≤ 100000000000 := by have := o.len; rw [nums_length] at this; have := Nat.min_le_left k L.length; omega
            have h8 := HD.out _ hmem
            have hry := HR2.out _ hmem
            clear hmem hfl
            generalize L.getD k (false, 0, [], 0, 0) = y at *
            have hz := b.size
            have ha : New wr (wr.alloc (.cells (cellV y).toArray 40)) := (Below.refl _ _).alloc (Nat.le_refl _) _
            have LY := lay_any (W0 := w) (B := w.heap.size) (o.later ha) (b.trans (Below.mono ha hz)) (Nat.le_refl _) (by have := ha.size; omega) hm hry h1 h8.1.2 h8.2
            rw [← hfs] at LY
            obtain ⟨y0, y1, y2, y3, y4⟩ := y
            have LY : Hid (Calls Try.prog 29 #[.slice AA m cc, .int .i64 t, .agg #[.bool y0, .int .i64 y1, .string (bstr y2), .int .i64 y3, .int .i64 y4]] (wr.alloc (.cells #[.bool y0, .int .i64 y1, .string (bstr y2), .int .i64 y3, .int .i64 y4] 40)) (LayP w w.heap.size w.heap.size ((L.take (k + 1)).flatMap (plE t)))) := Lib.hid LY
            dsimp only at d0 d1 d2 d3 d4
            clear hfs o b h8 hry
            go_wp2_with fail
            refine LY.out.mono ?_
            rintro e w5 ⟨A5, n5, c5, rfl, o5, b5⟩
            go_wp2_with fail
            go_roundw
            case rel => exact ⟨k + 1, n5, c5, A5, by omega, by go_num, rfl, o5, b5⟩
            case measure => simp [intOf]; omega
          · obtain rfl : k = L.length := by omega
            rw [List.take_length] at o
            go_wp2_with fail
            go_ret2
            rw [HM.out]
            exact ⟨_, _, _, rfl, o, b⟩
  · rw [decide_eq_false hk] at KN ek
    rw [ek] at hM
    simp at hM
    have HM := Lib.hid hM
    clear hM ek AR hL h
    go_enter Try.func13, Try.ntmps13
    go_wp2_with fail
    refine KN.out.mono ?_
    rintro e w1 ⟨rfl, rfl⟩
    go_wp2_with fail
    go_ret2
    rw [HM.out]
    exact ⟨rfl, Below.refl _ _⟩

end Go.Proofs.Ytnghjkihdcmoiaa
/- Arguments opened, by the types of this program. -/
set_option maxRecDepth 100000

namespace Go.Proofs.Ytnghjkihdcmoiaa
open Go.RowKit Go.Hm Go.WideShapes Go.ChangeShapes
def SmallPost (w : World) (e : Ending) (w' : World) : Prop := e = .returned (.bool true) ∧ Below w.heap.size w w'

section
variable {H : Type} {enc : TypeId × Value → H} {W : World} {base : Nat} {v : Value} {d : DataW H} {ps : List MemPlace}
theorem open_B (hval : Value.okWide Try.prog W .any base 25 v) (h : DataW.Trod enc Try.prog W 0 (fun _ => true) true 25 v d ps) (hlt : ∀ p ∈ ps, p.block < W.heap.size) (hw : ∀ n ∈ d.weights Try.prog 25, n ≤ reachBytes) :
    ∃ A c, ∃ l : List Nat, v = .slice A l.length c ∧ l.length ≤ c ∧ c ≤ 140737488351232 ∧ Reads W W.heap.size 1 A l.length (nums .u8 l) ∧ ∀ x ∈ l, x < 256 := by
  obtain ⟨A, c, l, h1, h2, _, h4, h5, h6⟩ := open_nums (k := .u8) (sz := 1) elB.ht (by kernel_rfl) (by kernel_rfl) rfl (by kernel_rfl) hval h hlt hw
  exact ⟨A, c, l, h1, h2, by unfold reachBytes at h4; omega, h5, fun x hx => by have := h6 x hx; simp [IntKind.max, IntKind.signed, IntKind.bits] at this; omega⟩
theorem open_W (hval : Value.okWide Try.prog W .any base 33 v) (h : DataW.Trod enc Try.prog W 0 (fun _ => true) true 33 v d ps) (hlt : ∀ p ∈ ps, p.block < W.heap.size) (hw : ∀ n ∈ d.weights Try.prog 33, n ≤ reachBytes) :
    ∃ A c, ∃ l : List Nat, v = .slice A l.length c ∧ l.length ≤ c ∧ c * 8 ≤ 140737488351232 ∧ Reads W W.heap.size 1 A l.length (nums .u64 l) ∧ ∀ x ∈ l, x ≤ 18446744073709551615 := by
  obtain ⟨A, c, l, h1, h2, _, h4, h5, h6⟩ := open_nums (k := .u64) (sz := 8) elW.ht (by kernel_rfl) (by kernel_rfl) rfl (by kernel_rfl) hval h hlt hw
  exact ⟨A, c, l, h1, h2, by unfold reachBytes at h4; omega, h5, fun x hx => by have := h6 x hx; simp [IntKind.max, IntKind.signed, IntKind.bits] at this; omega⟩
theorem open_u64 (hval : Value.okWide Try.prog W .any base 36 v) (h : DataW.Trod enc Try.prog W 0 (fun _ => true) true 36 v d ps) : ∃ x : Nat, v = .int .u64 (x : Int) ∧ x ≤ 18446744073709551615 := by
  obtain ⟨y, rfl, _, _, wy⟩ := open_int (k := .u64) (by kernel_rfl) hval h
  simp [Lit.wf, IntKind.min, IntKind.max, IntKind.signed, IntKind.bits] at wy
  obtain ⟨y, rfl⟩ := Int.eq_ofNat_of_zero_le wy.1
  exact ⟨y, rfl, by omega⟩
theorem open_u32 (hval : Value.okWide Try.prog W .any base 93 v) (h : DataW.Trod enc Try.prog W 0 (fun _ => true) true 93 v d ps) : ∃ x : Nat, v = .int .u32 (x : Int) ∧ x ≤ 4294967295 := by
  obtain ⟨y, rfl, _, _, wy⟩ := open_int (k := .u32) (by kernel_rfl) hval h
  simp [Lit.wf, IntKind.min, IntKind.max, IntKind.signed, IntKind.bits] at wy
  obtain ⟨y, rfl⟩ := Int.eq_ofNat_of_zero_le wy.1
  exact ⟨y, rfl, by omega⟩
theorem open_u8 (hval : Value.okWide Try.prog W .any base 5 v) (h : DataW.Trod enc Try.prog W 0 (fun _ => true) true 5 v d ps) : ∃ x : Nat, v = .int .u8 (x : Int) ∧ x ≤ 255 := by
  obtain ⟨y, rfl, _, _, wy⟩ := open_int (k := .u8) (by kernel_rfl) hval h
  simp [Lit.wf, IntKind.min, IntKind.max, IntKind.signed, IntKind.bits] at wy
  obtain ⟨y, rfl⟩ := Int.eq_ofNat_of_zero_le wy.1
  exact ⟨y, rfl, by omega⟩
theorem open_i64 (hval : Value.okWide Try.prog W .any base 3 v) (h : DataW.Trod enc Try.prog W 0 (fun _ => true) true 3 v d ps) : ∃ x : Int, v = .int .i64 x ∧ -9223372036854775808 ≤ x ∧ x ≤ 9223372036854775807 := by
  obtain ⟨y, rfl, _, _, wy⟩ := open_int (k := .i64) (by kernel_rfl) hval h
  simp [Lit.wf, IntKind.min, IntKind.max, IntKind.signed, IntKind.bits] at wy
  exact ⟨y, rfl, wy.1, by omega⟩
end

end Go.Proofs.Ytnghjkihdcmoiaa
/- Cells opened. -/
set_option maxRecDepth 100000

namespace Go.Hm
open Go Go.RowKit
/-- A column's cells as they lie: where, how many may, and what. -/
abbrev ColD := Option Addr × Nat × List CellS
def dataV (d : ColD) : List Value := [.slice d.1 d.2.2.length d.2.1]
theorem list5 {α : Type} {l : List α} (h : l.length = 5) : ∃ a b c d e, l = [a, b, c, d, e] := by
  match l, h with
  | [a, b, c, d, e], _ => exact ⟨a, b, c, d, e, rfl⟩
theorem list2 {α : Type} {l : List α} (h : l.length = 2) : ∃ a b, l = [a, b] := by
  match l, h with
  | [a, b], _ => exact ⟨a, b, rfl⟩
/-- A cell that may come in. -/
def CellFine (c : CellS) : Prop := (c.2.2.1.length ≤ 140737488351232 ∧ ∀ z ∈ c.2.2.1, z < 256) ∧ (-9223372036854775808 ≤ c.2.1 ∧ c.2.1 ≤ 9223372036854775807) ∧ (-9223372036854775808 ≤ c.2.2.2.1 ∧ c.2.2.2.1 ≤ 9223372036854775807) ∧ (-9223372036854775808 ≤ c.2.2.2.2 ∧ c.2.2.2.2 ≤ 9223372036854775807)

end Go.Hm

namespace Go.Proofs.Ytnghjkihdcmoiaa
open Go.RowKit Go.Hm Go.WideShapes Go.ChangeShapes

section
variable {H : Type} {enc : TypeId × Value → H} {W : World} {base : Nat} {v : Value} {d : DataW H} {ps : List MemPlace}
theorem held_cell {cs : List Value} (h : Held enc Try.prog W 40 cs) : ∃ c : CellS, cs = cellV c ∧ CellFine c := by
  have ht : Try.prog.underlying 40 = some (.struct (fieldsOf Try.prog 40)) := by kernel_rfl
  have ht2 : Try.prog.underlying 38 = some (.struct (fieldsOf Try.prog 38)) := by kernel_rfl
  obtain ⟨x0, x1, x2, x3, x4, rfl⟩ := list5 (h.partLen ht (n := 5) (by kernel_rfl))
  have p0 := h.part ht 0 0 1 (ft := 4) (by kernel_rfl) (by kernel_rfl)
  have p1 := h.part ht 1 1 1 (ft := 3) (by kernel_rfl) (by kernel_rfl)
  have p2 := h.part ht 2 2 1 (ft := 9) (by kernel_rfl) (by kernel_rfl)
  have p3 := h.part ht 3 3 2 (ft := 38) (by kernel_rfl) (by kernel_rfl)
  have q0 := p3.part ht2 0 0 1 (ft := 3) (by kernel_rfl) (by kernel_rfl)
  have q1 := p3.part ht2 1 1 1 (ft := 3) (by kernel_rfl) (by kernel_rfl)
  obtain ⟨b, e0⟩ := p0.bool (by kernel_rfl)
  obtain ⟨n, e1, n1, n2⟩ := p1.i64 (by kernel_rfl)
  obtain ⟨s, e2, s1, s2⟩ := p2.string (by kernel_rfl)
  obtain ⟨x, e3, g1, g2⟩ := q0.i64 (by kernel_rfl)
  obtain ⟨y, e4, g3, g4⟩ := q1.i64 (by kernel_rfl)
  simp only [List.drop_succ_cons, List.drop_zero, List.take_succ_cons, List.take_zero, List.cons.injEq, and_true] at e0 e1 e2 e3 e4
  subst e0 e1 e2 e3 e4
  exact ⟨(b, n, s, x, y), rfl, ⟨s2, s1⟩, ⟨n1, n2⟩, ⟨g1, g2⟩, g3, g4⟩
theorem open_C (hval : Value.okWide Try.prog W .any base 40 v) (h : DataW.Trod enc Try.prog W 0 (fun _ => true) true 40 v d ps) (hlt : ∀ p ∈ ps, p.block < W.heap.size) (hw : ∀ n ∈ d.weights Try.prog 40, n ≤ reachBytes) :
    ∃ c : CellS, v = .agg (cellV c).toArray ∧ CellFine c := by
  have ht : Try.prog.underlying 40 = some (.struct (fieldsOf Try.prog 40)) := by kernel_rfl
  obtain ⟨⟨cs⟩, rfl, hsz⟩ := okWide_struct ht hval
  have hh := Held.of h hlt hw
  simp only [Value.cells] at hh
  obtain ⟨c, rfl, hc⟩ := held_cell hh
  exact ⟨c, rfl, hc⟩
theorem held_cells {cs : List Value} (h : Held enc Try.prog W 22 cs) : ∃ x : ColD, cs = dataV x ∧ (Reads W W.heap.size 5 x.1 x.2.2.length (recs cellV x.2.2) ∧ (∀ y ∈ x.2.2, CellFine y) ∧ x.2.2.length ≤ x.2.1 ∧ x.2.1 ≤ 9223372036854775807 ∧ (x.1 = none → x.2.1 = 0)) := by
  have ht : Try.prog.underlying 22 = some (.slice 40) := by kernel_rfl
  obtain ⟨A, c, l, h1, h2, _, h4, h5, h6⟩ := h.recs (f := cellV) (sz := 5) (by_ := 48) (Q := CellFine) (false, 0, [], 0, 0) ht (by kernel_rfl) (by kernel_rfl) (fun _ => rfl) (by omega) (fun cs hh => held_cell hh)
  subst h1
  refine ⟨(A, c, l), rfl, h5, h6, h2, (show c ≤ 9223372036854775807 by unfold reachBytes at h4; omega), ?_⟩
  rcases h.slice ht with e | ⟨a, len, cap, e, _⟩
  · simp only [List.cons.injEq, Value.slice.injEq, and_true] at e
    exact fun _ => e.2.2
  · simp only [List.cons.injEq, Value.slice.injEq, and_true] at e
    intro hh
    rw [e.1] at hh
    cases hh
theorem open_Cells (hval : Value.okWide Try.prog W .any base 22 v) (h : DataW.Trod enc Try.prog W 0 (fun _ => true) true 22 v d ps) (hlt : ∀ p ∈ ps, p.block < W.heap.size) (hw : ∀ n ∈ d.weights Try.prog 22, n ≤ reachBytes) :
    ∃ (A : Option Addr) (c : Nat) (l : List CellS), v = .slice A l.length c ∧ Reads W W.heap.size 5 A l.length (recs cellV l) ∧ (∀ y ∈ l, CellFine y) ∧ l.length ≤ c ∧ l.length ≤ 2932031007317 := by
  have ht : Try.prog.underlying 22 = some (.slice 40) := by kernel_rfl
  obtain ⟨a0, len, cap, rfl⟩ := okWide_slice ht hval
  obtain ⟨A, c, l, h1, h2, _, h4, h5, h6⟩ := (Held.of h hlt hw).recs (f := cellV) (sz := 5) (by_ := 48) (Q := CellFine) (false, 0, [], 0, 0) ht (by kernel_rfl) (by kernel_rfl) (fun _ => rfl) (by omega) (fun cs hh => held_cell hh)
  simp only [Value.cells, List.cons.injEq, and_true] at h1
  rw [h1]
  exact ⟨A, c, l, rfl, h5, h6, h2, by unfold reachBytes at h4; omega⟩
end

end Go.Proofs.Ytnghjkihdcmoiaa
/- Equality of cells, as an equation for every world. -/

namespace Go.Proofs.Ytnghjkihdcmoiaa
open Go.RowKit Go.Hm
set_option maxHeartbeats 1000000 in
set_option maxRecDepth 100000 in
theorem neqCell {b b' : Bool} {n n' : Int} {s s' : ByteArray} {x x' y y' : Int} (W : World) :
    (binOp .neq 40 (.agg #[.bool b, .int .i64 n, .string s, .int .i64 x, .int .i64 y]) (.agg #[.bool b', .int .i64 n', .string s', .int .i64 x', .int .i64 y'])).run Try.prog W = .ok (.bool (!(b == b' && n == n' && s.toList == s'.toList && x == x' && y == y'))) W := by
  by_cases h1 : b = b' <;> by_cases h2 : n = n' <;> by_cases h3 : s.toList = s'.toList <;> by_cases h4 : x = x' <;> by_cases h5 : y = y'
  all_goals go_simp

end Go.Proofs.Ytnghjkihdcmoiaa
/- Contract on ref07.Cells. -/

namespace Go.Proofs.Ytnghjkihdcmoiaa
open Go.RowKit Go.Hm
theorem mem_getDC {α : Type} {l : List α} {k : Nat} (d : α) (h : k < l.length) : l.getD k d ∈ l := by
  rw [List.getD_eq_getElem?_getD, List.getElem?_eq_getElem h]
  exact List.getElem_mem h
theorem cell_bne {x y : CellS} (hx : ∀ z ∈ x.2.2.1, z < 256) (hy : ∀ z ∈ y.2.2.1, z < 256) :
    (!(x.1 == y.1 && x.2.1 == y.2.1 && (bstr x.2.2.1).toList == (bstr y.2.2.1).toList && x.2.2.2.1 == y.2.2.2.1 && x.2.2.2.2 == y.2.2.2.2)) = decide (x ≠ y) := by
  rw [bstr_beq hx hy]
  obtain ⟨b, n, s, p, q⟩ := x
  obtain ⟨b2, n2, s2, p2, q2⟩ := y
  rw [Bool.eq_iff_iff]
  simp [Prod.ext_iff, or_assoc]
set_option maxHeartbeats 2000000 in
set_option maxRecDepth 100000 in
theorem rcells_any {w : World} {A : Option Addr} {n c : Nat} {l : List CellS} {A2 : Option Addr} {n2 c2 : Nat} {l2 : List CellS} (h : Reads w w.heap.size 5 A n (recs cellV l)) (h2 : Reads w w.heap.size 5 A2 n2 (recs cellV l2)) (hn : n ≤ 9223372036854775807) (hn2 : n2 ≤ 9223372036854775807)
    (h8 : ∀ x ∈ l, ∀ z ∈ x.2.2.1, z < 256) (h28 : ∀ x ∈ l2, ∀ z ∈ x.2.2.1, z < 256) :
    Calls Try.prog 10 #[.slice A n c, .slice A2 n2 c2] w (DrewPost (.bool (decide (l = l2))) w) := by
  obtain rfl := h.lenCell
  obtain rfl := h2.lenCell
  by_cases hl : l.length = l2.length
  · have e1 : ((l.length : Int) != (l2.length : Int)) = false := by simp; omega
    have K1 := Lib.hid (fun (k : Nat) (hk : k < l.length) (hh : l.getD k (false, 0, [], 0, 0) ≠ l2.getD k (false, 0, [], 0, 0)) => show decide (l = l2) = false from decide_eq_false (fun e => hh (by rw [e])))
    have K2 := Lib.hid (fun (hh : l.take l.length = l2.take l.length) => show decide (l = l2) = true from decide_eq_true (by rw [List.take_length] at hh; rw [hh, hl, List.take_length]))
    generalize decide (l = l2) = O at *
    have HL := Lib.hid hl
    clear hl
    go_enter Try.func10, Try.ntmps10
    go_wp2
    clear e1
    go_loopw [5] (fun i wr => ∃ k q : Nat, i = .int .i64 (k : Int) ∧ k ≤ l.length ∧ wr = w.drewN q ∧ Hid (l.take k = l2.take k)) (fun i _ => l.length - (intOf i).toNat)
    case atStart => exact ⟨0, 0, rfl, by omega, rfl, Lib.hid (by simp)⟩
    case round =>
      obtain ⟨k, q, rfl, hk, rfl, H⟩ := hrel
      by_cases hlt : k < l.length
      · have hlt2 : k < l2.length := by rw [← HL.out]; exact hlt
        obtain ⟨ad, rfl, _, c0, c1, c2, c3, c4⟩ := h.cell5 hlt
        obtain ⟨ad2, rfl, _, d0, d1, d2, d3, d4⟩ := h2.cell5 hlt2
        have M1 := Lib.hid (K1.out k hlt)
        have M2 := Lib.hid (fun (hh : l.getD k (false, 0, [], 0, 0) = l2.getD k (false, 0, [], 0, 0)) => show l.take (k + 1) = l2.take (k + 1) by
          rw [take_snoc l k (false, 0, [], 0, 0) hlt, take_snoc l2 k (false, 0, [], 0, 0) hlt2, H.out, hh])
        have i1 : (k : Int) < (l.length : Int) := by omega
        have i2 : (k : Int) < (l2.length : Int) := by omega
        have NE := Lib.hid (cell_bne (h8 _ (mem_getDC (false, 0, [], 0, 0) hlt)) (h28 _ (mem_getDC (false, 0, [], 0, 0) hlt2)))
        clear H
        generalize l.getD k (false, 0, [], 0, 0) = x1 at *
        generalize l2.getD k (false, 0, [], 0, 0) = x2 at *
        obtain ⟨b1, n1, s1, px1, py1⟩ := x1
        obtain ⟨b2, n2, s2, px2, py2⟩ := x2
        simp only at c0 c1 c2 c3 c4 d0 d1 d2 d3 d4
        have QN := fun W => neqCell (b := b1) (b' := b2) (n := n1) (n' := n2) (s := bstr s1) (s' := bstr s2) (x := px1) (x' := px2) (y := py1) (y' := py2) W
        have NE := NE.out
        simp only at NE
        rw [NE] at QN
        clear NE
        generalize hR : decide ((b1, n1, s1, px1, py1) ≠ (b2, n2, s2, px2, py2)) = R at QN
        have HR := Lib.hid hR
        clear hR
        have M3 := Lib.hid (fun (hh : R = true) => M1.out (of_decide_eq_true (HR.out.trans hh)))
        have M4 := Lib.hid (fun (hh : R = false) => M2.out (Classical.not_not.1 (of_decide_eq_false (HR.out.trans hh))))
        clear M1 M2 HR
        go_wp2
        go_quiet (fail)
        cases R with
        | true =>
          have O1 := Lib.hid (M3.out rfl)
          go_wp2
          go_ret
          exact ⟨by rw [O1.out]; rfl, _, rfl⟩
        | false =>
          have O1 := Lib.hid (M4.out rfl)
          go_wp2
          go_roundw
          case rel => exact ⟨k + 1, _, by go_num, by omega, rfl, O1⟩
          case measure => simp [intOf]; omega
      · obtain rfl : k = l.length := by omega
        have O1 := Lib.hid (K2.out H.out)
        clear K1 K2 H
        go_wp2
        go_ret
        exact ⟨by rw [O1.out]; rfl, q, rfl⟩
  · have e1 : ((l.length : Int) != (l2.length : Int)) = true := by simp; omega
    have e2 := Lib.hid (show decide (l = l2) = false from decide_eq_false (fun e => hl (by rw [e])))
    generalize decide (l = l2) = O at *
    go_enter Try.func10, Try.ntmps10
    go_wp2
    go_ret
    exact ⟨by rw [e2.out]; rfl, 0, rfl⟩

end Go.Proofs.Ytnghjkihdcmoiaa
/- The contract of dict.Entries. -/

namespace Go.Hm
open Go Go.RowKit
/-- The place of a cell among the unlike ones, if it is one. -/
def idxF (E : List CellS) (c : CellS) : Option Nat := if c ∈ E then some (E.idxOf c) else none
theorem idxF_snoc {E : List CellS} {c d : CellS} (h : c ∉ E) : (if d = c then some E.length else idxF E d) = idxF (E ++ [c]) d := by
  unfold idxF
  by_cases e : d = c
  · subst e
    rw [if_pos rfl, if_pos (by simp), List.idxOf_append, if_neg h]
    simp
  · rw [if_neg e]
    by_cases hd : d ∈ E
    · rw [if_pos hd, if_pos (by simp [hd]), List.idxOf_append, if_pos hd]
    · rw [if_neg hd, if_neg (by simp [hd, e])]
theorem set_next {P : List Nat} {n k q : Nat} (hP : P.length = k) (hk : k < n) : (P ++ List.replicate (n - k) 0).set k q = (P ++ [q]) ++ List.replicate (n - (k + 1)) 0 := by
  rw [List.set_append_right _ _ (by omega), hP, Nat.sub_self, show n - k = (n - (k + 1)) + 1 by omega, List.replicate_succ, List.set_cons_zero, List.append_assoc]
  rfl

end Go.Hm

namespace Go.Proofs.Ytnghjkihdcmoiaa
open Go.RowKit Go.Hm
theorem run_mkMapC (W : World) : (Instr.makeMap 52 none).run Try.prog W = .ok (.map (some W.heap.size)) (W.alloc (.map #[] 0)) := by
  simp [Instr.makeMap, Result.andThen]
theorem elCe : ElT Try.prog 22 40 (.agg #[.bool false, .int .i64 0, .string ⟨#[]⟩, .int .i64 0, .int .i64 0]) 5 48 := ⟨by kernel_rfl, by kernel_rfl, rfl, by omega⟩
def EntPost (L : List CellS) (w : World) (e : Ending) (w' : World) : Prop :=
  ∃ A1 n1 c1 A2 c2, e = .returned (.tuple #[.slice A1 n1 c1, .slice A2 L.length c2]) ∧ w'.ownsRow w.heap.size 40 5 (.slice A1 n1 c1) n1 (recs cellV (entS L).1) ∧ Go.Hm.Own w' w.heap.size 36 (.slice A2 L.length c2) (nums .u64 (entS L).2) ∧ New w w'
theorem keyFine {c : CellS} (h : CellFine c) : ∃ kl, keyOf Try.prog 40 (cellA c) = some kl := key_cell h.1.1 h.2.1 h.2.2.1 h.2.2.2
set_option maxHeartbeats 4000000 in
set_option maxRecDepth 100000 in
theorem entries_any {w : World} {A : Option Addr} {n c : Nat} {L : List CellS} (h : Reads w w.heap.size 5 A n (recs cellV L)) (hL : ∀ y ∈ L, CellFine y) (hn : n ≤ 100000) :
    Calls Try.prog 11 #[.slice A n c] w (EntPost L w) := by
  obtain rfl := h.lenCell
  have HR := Lib.hid h
  have HL := Lib.hid hL
  clear h hL
  have hmm := run_mkMapC
  have b0 : New w (w.alloc (.map #[] 0)) := (Below.refl _ _).alloc (Nat.le_refl _) _
  have M0 := MapC.made (P := Try.prog) (k := 40) w
  go_enter Try.func11, Try.ntmps11
  go_wp2_with (first
    | (refine wpList_mk elW rfl (.tmp 13) (.tmp 13) rfl (W := w) (B := w.heap.size) L.length L.length rfl rfl rfl rfl (by omega) b0 (by simp) rfl (by omega) (by simp only [maxLen]; omega) ?_
       intro w3 hown3 hg3 hb3 hs3))
  have M3 := M0.kept hg3 (by simp)
  simp only [World.size_alloc] at hown3 hs3
  clear M0 b0 hg3 hmm
  go_loopw [5, 17] (fun v i wr => ∃ (k cE : Nat) (AE : Option Addr), k ≤ L.length ∧ i = .int .i64 (k : Int) ∧ v = .slice AE (entS (L.take k)).1.length cE
    ∧ wr.ownsRow (w.heap.size + 2) 40 5 (.slice AE (entS (L.take k)).1.length cE) (entS (L.take k)).1.length (recs cellV (entS (L.take k)).1)
    ∧ MapC Try.prog 40 wr w.heap.size (entS (L.take k)).1.length (idxF (entS (L.take k)).1)
    ∧ Go.Hm.Own wr (w.heap.size + 1) 36 (.slice (some ⟨w.heap.size + 1, 0, none⟩) L.length L.length) (nums .u64 ((entS (L.take k)).2 ++ List.replicate (L.length - k) 0))
    ∧ New w wr ∧ w.heap.size + 2 ≤ wr.heap.size) (fun _ i _ => L.length - (intOf i).toNat)
  case atStart => exact ⟨0, 0, none, Nat.zero_le _, rfl, rfl, by simpa [recs, entS] using row_nil, by simpa [entS] using M3.eqf (f' := idxF []) (fun c _ => by simp [idxF]), by simpa [nums_replicate, entS] using hown3, hb3, by omega⟩
  case round =>
    obtain ⟨k, cE, AE, hk, rfl, rfl, oE, M, oP, b, hz2⟩ := hrel
    clear M3 hown3 hb3 hs3
    by_cases hlt : k < L.length
    · have htk := take_snoc L k (false, 0, [], 0, 0) hlt
      have hst := entS_snoc (L.take k) (L.getD k (false, 0, [], 0, 0))
      rw [← htk] at hst
      have hI := entS_is (L.take k)
      have hle := entS_le (L.take k)
      have hPl := hI.len
      rw [List.length_take, Nat.min_eq_left (by omega)] at hPl hle
      have hfine := HL.out _ (mem_getDC (false, 0, [], 0, 0) hlt)
      obtain ⟨ad, rfl, hb, d0, d1, d2, d3, d4⟩ := (Reads.later HR.out b).cell5 hlt
      generalize entS (L.take k) = EP at *
      obtain ⟨E, P⟩ := EP
      dsimp only at *
      generalize L.getD k (false, 0, [], 0, 0) = y at *
      have hkey := keyFine hfine
      have hbok : Bok y := hfine.1.2
      unfold entStep at hst
      try dsimp only at hst
      have hidx : y ∈ E → E.idxOf y < E.length := fun hm => List.idxOf_lt_length_iff.2 hm
      obtain ⟨y0, y1, y2, y3, y4⟩ := y
      dsimp only at d0 d1 d2 d3 d4
      have ha : New wr (wr.alloc (.cells #[.bool y0, .int .i64 y1, .string (bstr y2), .int .i64 y3, .int .i64 y4] 40)) := (Below.refl _ _).alloc (Nat.le_refl _) _
      have BC := Blk.new wr 40 #[.bool y0, .int .i64 y1, .string (bstr y2), .int .i64 y3, .int .i64 y4]
      obtain ⟨q0, q1, q2, q3, q4⟩ := cells5 BC
      have M1 := M.kept (row := none) ⟨ha.os, ha.tape, ha.output, ha.size, fun j hj _ => ha.block j hj⟩ (by simp)
      have oE1 := row_later oE ha
      have oP1 := oP.later ha
      have b1 := New.trans b ha
      have HF := Lib.hid hfine
      clear oE M oP hfine hb
      by_cases hm : (y0, y1, y2, y3, y4) ∈ E
      · rw [if_pos hm] at hst
        have hq := hidx hm
        have hix : idxF E (y0, y1, y2, y3, y4) = some (E.idxOf (y0, y1, y2, y3, y4)) := by unfold idxF; rw [if_pos hm]
        generalize E.idxOf (y0, y1, y2, y3, y4) = q at *
        obtain ⟨hg0, hgl, hc, hf, hs⟩ := oP1.num0 (i := k) hlt
        have hs := hs q
        rw [set_next hPl hlt] at hs
        have gS : (wr.alloc (.cells #[.bool y0, .int .i64 y1, .string (bstr y2), .int .i64 y3, .int .i64 y4] 40)).grownBy ((wr.alloc (.cells #[.bool y0, .int .i64 y1, .string (bstr y2), .int .i64 y3, .int .i64 y4] 40)).setCell ⟨w.heap.size + 1, k, none⟩ (.int .u64 (q : Int))) (some (w.heap.size + 1)) := setCell_grown
        have HS := Lib.hid hs
        have HM := Lib.hid (M1.kept gS (by simp))
        have HE := Lib.hid (oE1.kept gS (.inr (fun e => by have := (World.ownsRow.lt oE1 _ e).1; omega)))
        have HB := Lib.hid (b1.setCell (p := ⟨w.heap.size + 1, k, none⟩) (by simp) (.int .u64 (q : Int)))
        have HST := Lib.hid hst
        have HX := Lib.hid hix
        clear hst hix hs oE1 gS hidx
        go_wp2_with (first
          | (refine wpList_lookC rfl (.tmp 23) (.tmp 24) 52 rfl keyedC mapCT (zeroU _) M1 hbok hkey rfl rfl ?_
             rw [HX.out]
             simp only [Option.getD_some, Option.isSome_some, numV]))
        go_roundw
        case rel => exact ⟨k + 1, cE, AE, by omega, by go_num, by rw [HST.out], by rw [HST.out]; exact HE.out, by rw [HST.out]; exact HM.out, by rw [HST.out]; exact HS.out, HB.out, by simp; omega⟩
        case measure => simp [intOf]; omega
      · rw [if_neg hm] at hst
        have hix : idxF E (y0, y1, y2, y3, y4) = none := by unfold idxF; rw [if_neg hm]
        have hwr : IntKind.u64.wrap (E.length : Int) = (E.length : Int) := by rw [IntKind.wrap_u64]; omega
        have HST := Lib.hid hst
        have HX := Lib.hid hix
        have HN := Lib.hid hm
        clear hst hix hidx hm
        go_wp2_with (first
          | (refine wpList_lookC rfl (.tmp 23) (.tmp 24) 52 rfl keyedC mapCT (zeroU _) M1 hbok hkey rfl rfl ?_
             rw [HX.out]
             simp only [Option.getD_none, Option.isSome_none, numV])
          | (refine wpList_putC rfl (.tmp 33) (.tmp 34) (.tmp 35) 52 rfl keyedC mapCT M1 (by simp only [maxLen]; omega) hbok hkey E.length rfl rfl rfl ?_
             intro w4 M4 g4
             have hz4 := g4.size
             have BC4 := BC.grown g4 (by intro e; injection e with e; omega)
             obtain ⟨q0, q1, q2, q3, q4⟩ := cells5 BC4
             have oE4 := oE1.kept g4 (.inr (fun e => by have := (World.ownsRow.lt oE1 _ e).1; omega))
             have oP4 := oP1.kept g4 (.inr (by simp [Value.ownBlock]))
             have b4 := Far.below b1 g4 (Nat.le_refl _) (Nat.le_refl _)
             simp only [World.size_alloc] at hz4
             clear M1 oE1 oP1 BC g4)
          | (refine wpList_pushR elCe rfl (.tmp 36) (.tmp 38) rfl (W := w) (B := w.heap.size) (base := w.heap.size + 2) (n := E.length) oE4 rfl rfl b4 (by omega) (by omega) rfl (by simp [Value.oneCell']) (by omega) (by simp only [maxLen]; omega) ?_
             intro A5 c5 w5 hc5 _ o5 g5 b5 hz5 _
             have M5 := M4.kept g5 (fun e => by
               have := (World.ownsRow.lt oE4 _ e.symm).1
               omega)
             have oP5 := oP4.kept g5 (.inr (fun e => by
               have := (World.ownsRow.lt oE4 _ (show _ = some (w.heap.size + 1) by rw [← e]; rfl)).1
               omega))
             obtain ⟨hg0, hgl, hc, hf, hs⟩ := oP5.num0 (i := k) hlt
             have hs := hs E.length
             rw [set_next hPl hlt] at hs
             have gS : w5.grownBy (w5.setCell ⟨w.heap.size + 1, k, none⟩ (.int .u64 (E.length : Int))) (some (w.heap.size + 1)) := setCell_grown
             have HS := Lib.hid hs
             have HM := Lib.hid ((M5.kept gS (by simp)).eqf (fun d _ => idxF_snoc HN.out))
             have HE := Lib.hid (o5.kept gS (.inr (fun e => by have := (World.ownsRow.lt o5 _ e).1; omega)))
             have HB := Lib.hid (b5.setCell (p := ⟨w.heap.size + 1, k, none⟩) (by simp) (.int .u64 (E.length : Int)))
             clear hs M4 oE4 oP4 M5 oP5 o5 gS g5 q0 q1 q2 q3 q4))
        go_roundw
        case rel => exact ⟨k + 1, c5, A5, by omega, by go_num, by rw [HST.out]; simp, by rw [HST.out]; simpa [recs_append, recs, cellV] using HE.out, by rw [HST.out]; simpa using HM.out, by rw [HST.out]; exact HS.out, HB.out, by simp; omega⟩
        case measure => simp [intOf]; omega
    · obtain rfl : k = L.length := by omega
      rw [List.take_length] at oE oP
      rw [Nat.sub_self, List.replicate_zero, List.append_nil] at oP
      have oE := row_base oE (show w.heap.size ≤ w.heap.size + 2 by omega)
      have oP := oP.base_le (show w.heap.size ≤ w.heap.size + 1 by omega)
      have HE := Lib.hid oE
      have HP := Lib.hid oP
      clear oE oP M
      go_wp2_with fail
      go_ret2
      refine ⟨_, _, _, _, _, rfl, ?_, HP.out, b⟩
      rw [List.take_length]
      exact HE.out

end Go.Proofs.Ytnghjkihdcmoiaa
/- The contracts of dict.unlike and dict.inOrder. -/

namespace Go.Hm
theorem ordL_le : ∀ (l : List Nat) (m : Nat), ordL l = some m → m ≤ l.length := by
  refine snoc_ind ?_ ?_
  · intro m h; simp [ordL] at h; omega
  · intro l x ih m h
    rw [ordL_snoc] at h
    cases hl : ordL l with
    | none => rw [hl] at h; simp [ordStep] at h
    | some j =>
      rw [hl] at h
      have hi := ih j hl
      unfold ordStep at h
      dsimp only at h
      rw [List.length_append, List.length_cons, List.length_nil]
      split at h
      · cases h
      · split at h
        all_goals
          injection h with h
          omega
theorem ordL_bad {l : List Nat} {k j : Nat} (h : ordL (l.take k) = some j) (hk : k < l.length) (hj : j < l.getD k 0) : ordL l = none := by
  cases hl : ordL l with
  | none => rfl
  | some m =>
    exfalso
    obtain ⟨i, hi⟩ := ordL_take hl (k + 1)
    rw [take_snoc l k 0 hk, ordL_snoc, h] at hi
    unfold ordStep at hi
    dsimp only at hi
    rw [if_pos hj] at hi
    cases hi

end Go.Hm

namespace Go.Proofs.Ytnghjkihdcmoiaa
open Go.RowKit Go.Hm
set_option maxHeartbeats 1000000 in
set_option maxRecDepth 100000 in
theorem unlike_any {w : World} {A : Option Addr} {n c : Nat} {L : List CellS} (h : Reads w w.heap.size 5 A n (recs cellV L)) (hL : ∀ y ∈ L, CellFine y) (hn : n ≤ 100000) :
    Calls Try.prog 22 #[.slice A n c] w (NewPost (.bool (decide L.Nodup)) w) := by
  obtain rfl := h.lenCell
  have C := Lib.hid (entries_any (c := c) h hL hn)
  have HN := Lib.hid (entS_nodup L)
  clear h hL
  go_enter Try.func22, Try.ntmps22
  go_wp2_with fail
  refine C.out.mono ?_
  rintro e w1 ⟨A1, n1, c1, A2, c2, rfl, o1, o2, b⟩
  have l1 : n1 = (entS L).1.length := (Reads.of_own o1).lenCell
  have HL1 := Lib.hid l1
  clear o1 o2 l1
  go_wp2
  go_ret
  refine ⟨congrArg (fun q => Ending.returned (.bool q)) (show ((n1 : Int) == (L.length : Int)) = decide L.Nodup from ?_), b⟩
  rw [Bool.eq_iff_iff]
  have := HN.out
  have l1 := HL1.out
  simp only [decide_eq_true_eq, beq_iff_eq]
  rw [← this]
  omega
set_option maxHeartbeats 1000000 in
set_option maxRecDepth 100000 in
theorem inOrder_any {w : World} {A : Option Addr} {n c : Nat} {P : List Nat} {m : Nat} (h : Reads w w.heap.size 1 A n (nums .u64 P)) (hP : ∀ x ∈ P, x ≤ 18446744073709551615) (hn : n ≤ 100000) (hm : m ≤ 100000) :
    Calls Try.prog 24 #[.slice A n c, .int .i64 (m : Int)] w (ValPost (.bool (decide (ordL P = some m))) w) := by
  obtain rfl : n = P.length := h.len
  have HR := Lib.hid h
  have HP := Lib.hid hP
  have hmw : IntKind.u64.wrap (m : Int) = (m : Int) := by rw [IntKind.wrap_u64]; omega
  clear h hP
  go_enter Try.func24, Try.ntmps24
  go_wp2
  go_loop [5, 10] (fun v i => ∃ k j : Nat, k ≤ P.length ∧ i = .int .i64 (k : Int) ∧ v = .int .u64 (j : Int) ∧ Hid (ordL (P.take k) = some j)) (fun _ i => P.length - (intOf i).toNat)
  case atStart => exact ⟨0, 0, Nat.zero_le _, rfl, rfl, Lib.hid (by simp [ordL])⟩
  case round =>
    obtain ⟨k, j, hk, rfl, rfl, H⟩ := hrel
    have hjl := ordL_le _ _ H.out
    rw [List.length_take] at hjl
    have hj : j ≤ k := by omega
    clear hjl
    by_cases hlt : k < P.length
    · obtain ⟨ad, rfl, hb, hcell⟩ := HR.out.num hlt
      have htk := take_snoc P k 0 hlt
      have hbad := Lib.hid (fun hlt2 : j < P.getD k 0 => ordL_bad H.out hlt hlt2)
      have hst := ordL_snoc (P.take k) (P.getD k 0)
      rw [← htk, H.out] at hst
      have hx : P.getD k 0 ≤ 18446744073709551615 := HP.out _ (mem_getDC 0 hlt)
      have HST := Lib.hid hst
      clear htk hst H hb
      generalize P.getD k 0 = x at *
      by_cases h1 : j < x
      · have t1 : decide ((j : Int) < (x : Int)) = true := decide_eq_true (by omega)
        have hno := Lib.hid (hbad.out h1)
        clear hbad HST
        go_wp2
        go_ret
        exact ⟨by rw [hno.out]; rfl, rfl⟩
      · have t1 : decide ((j : Int) < (x : Int)) = false := decide_eq_false (by omega)
        by_cases h2 : x = j
        · subst h2
          have hs : ordL (P.take (k + 1)) = some (x + 1) := by
            rw [HST.out]; unfold ordStep; dsimp only; rw [if_neg (by omega), if_pos rfl]
          have HS := Lib.hid hs
          have hw : IntKind.u64.wrap ((x : Int) + 1) = ((x + 1 : Nat) : Int) := by rw [IntKind.wrap_u64]; omega
          clear hs hbad HST
          go_wp2
          go_round
          case rel => exact ⟨k + 1, x + 1, by omega, by go_num, by go_num, HS⟩
          case measure => simp [intOf]; omega
        · have hs : ordL (P.take (k + 1)) = some j := by
            rw [HST.out]; unfold ordStep; dsimp only; rw [if_neg (by omega), if_neg h2]
          have HS := Lib.hid hs
          have t2 : ((x : Int) == (j : Int)) = false := beq_eq_false_iff_ne.2 (by omega)
          clear hs hbad HST
          go_wp2
          go_round
          case rel => exact ⟨k + 1, j, by omega, by go_num, rfl, HS⟩
          case measure => simp [intOf]; omega
    · obtain rfl : k = P.length := by omega
      have H := H.out
      rw [List.take_length] at H
      have HS := Lib.hid H
      clear H
      go_wp2
      go_ret
      rw [HS.out]
      refine ⟨congrArg (fun q => Ending.returned (.bool q)) (show ((j : Int) == (m : Int)) = decide (some j = some m) from ?_), rfl⟩
      rw [Bool.eq_iff_iff]
      simp
      omega

end Go.Proofs.Ytnghjkihdcmoiaa
/- What is read off bytes, step by step, as plain functions: the state is what is left, or none if bad. No program is named here. -/

namespace Go.Hm
theorem vq_lt {N b : Nat} {r s : List Nat} (h : b :: s = vp N ++ r) (hb : b < 128) : N = b ∧ r = s := by
  by_cases hN : N < 128
  · rw [vp_lt hN] at h; simp at h; exact ⟨h.1.symm, h.2.symm⟩
  · rw [vp_ge hN] at h; simp at h; omega
theorem vq_ge {N b : Nat} {r s : List Nat} (h : b :: s = vp N ++ r) (hb : 128 ≤ b) : N % 128 + 128 = b ∧ 0 < N / 128 ∧ s = vp (N / 128) ++ r := by
  by_cases hN : N < 128
  · rw [vp_lt hN] at h; simp at h; omega
  · rw [vp_ge hN] at h; simp at h; exact ⟨h.1.symm, by omega, h.2⟩
/-- A number of at most f bytes. -/
def pv : Nat → List Nat → Option (Nat × List Nat)
  | 0, _ => none
  | _ + 1, [] => none
  | f + 1, b :: r => if b < 128 then some (b, r) else
      match pv f r with
      | some (0, _) => none
      | some (N + 1, r') => some (b - 128 + 128 * (N + 1), r')
      | none => none
theorem pv_app : ∀ (f N : Nat) (r : List Nat), (vp N).length ≤ f → pv f (vp N ++ r) = some (N, r) := by
  intro f
  induction f with
  | zero => intro N r h; have := vp_pos N; omega
  | succ f ih =>
    intro N r h
    by_cases hN : N < 128
    · rw [vp_lt hN]; simp [pv, hN]
    · rw [vp_ge hN] at h ⊢
      simp only [List.cons_append, pv]
      rw [if_neg (by omega), ih (N / 128) r (by simpa using h)]
      obtain ⟨m, hm⟩ : ∃ m, N / 128 = m + 1 := ⟨N / 128 - 1, by omega⟩
      simp only [hm]
      congr 2
      omega
theorem pv_some : ∀ (f N : Nat) (l r : List Nat), (∀ x ∈ l, x < 256) → pv f l = some (N, r) → l = vp N ++ r ∧ (vp N).length ≤ f := by
  intro f
  induction f with
  | zero => intro N l r _ h; simp [pv] at h
  | succ f ih =>
    intro N l r h8 h
    cases l with
    | nil => simp [pv] at h
    | cons b s =>
      simp only [pv] at h
      by_cases hb : b < 128
      · rw [if_pos hb] at h
        simp only [Option.some.injEq, Prod.mk.injEq] at h
        obtain ⟨rfl, rfl⟩ := h
        rw [vp_lt hb]; simp
      · rw [if_neg hb] at h
        split at h
        · simp at h
        · rename_i M r' hM
          simp only [Option.some.injEq, Prod.mk.injEq] at h
          obtain ⟨rfl, rfl⟩ := h
          obtain ⟨h1, h2⟩ := ih _ _ _ (fun x hx => h8 x (by simp [hx])) hM
          have hb2 := h8 b (by simp)
          rw [vp_ge (by omega), show (b - 128 + 128 * (M + 1)) / 128 = M + 1 by omega, show (b - 128 + 128 * (M + 1)) % 128 + 128 = b by omega, List.cons_append, ← h1]
          refine ⟨rfl, by simp; exact h2⟩
        · simp at h
/-- The number that l begins with, and what is behind it. -/
def gv (l : List Nat) : Option (Nat × List Nat) :=
  match pv 10 l with
  | some (N, r) => if N < 18446744073709551616 then some (N, r) else none
  | none => none
theorem gv_app (N : Nat) (r : List Nat) (hN : N < 18446744073709551616) : gv (vp N ++ r) = some (N, r) := by
  unfold gv
  rw [pv_app 10 N r (vp_len10 hN)]
  simp [hN]
theorem gv_some {l r : List Nat} {N : Nat} (h8 : ∀ x ∈ l, x < 256) (h : gv l = some (N, r)) : l = vp N ++ r ∧ N < 18446744073709551616 := by
  unfold gv at h
  split at h
  · rename_i M s hM
    split at h
    · simp only [Option.some.injEq, Prod.mk.injEq] at h
      obtain ⟨rfl, rfl⟩ := h
      exact ⟨(pv_some _ _ _ _ h8 hM).1, ‹_›⟩
    · cases h
  · cases h
theorem gv_none {l : List Nat} (h : gv l = none) : ∀ N r, l = vp N ++ r → 18446744073709551616 ≤ N := by
  intro N r hl
  rcases Nat.lt_or_ge N 18446744073709551616 with hN | hN
  · rw [hl, gv_app N r hN] at h
    cases h
  · exact hN

/-- The states: what is left; none: bad. -/
abbrev St := Option (List Nat)
def getS : St → Nat × St
  | none => (0, none)
  | some l => match gv l with
    | some (N, r) => (N, some r)
    | none => (0, none)
def lenS (m : Int) (S : St) : Nat × St :=
  match getS S with
  | (N, some r) => if (N : Int) ≤ m then (N, some r) else (0, none)
  | (_, none) => (0, none)
def byteS : St → Nat × St
  | some (b :: r) => (b, some r)
  | _ => (0, none)
def takeS (n : Int) : St → List Nat × St
  | some l => if 0 ≤ n ∧ n ≤ (l.length : Int) then (l.take n.toNat, some (l.drop n.toNat)) else ([], none)
  | none => ([], none)
def endS (S : St) : Bool := decide (S = some [])
/-- All that is left are bytes. -/
def St.ok (S : St) : Prop := ∀ l, S = some l → ∀ x ∈ l, x < 256
theorem St.ok_none : St.ok none := fun _ h => by cases h
theorem St.ok_some {l : List Nat} (h : ∀ x ∈ l, x < 256) : St.ok (some l) := fun _ e => by injection e with e; subst e; exact h

theorem getS_app (N : Nat) (r : List Nat) (hN : N < 18446744073709551616) : getS (some (vp N ++ r)) = (N, some r) := by simp [getS, gv_app N r hN]
theorem lenS_app (N : Nat) (r : List Nat) {m : Int} (hN : (N : Int) ≤ m) (hm : m ≤ 9223372036854775807) : lenS m (some (vp N ++ r)) = (N, some r) := by
  simp only [lenS, getS_app N r (by omega), if_pos hN]
theorem lenS_none (m : Int) : lenS m none = (0, none) := rfl
theorem getS_none : getS none = (0, none) := rfl
theorem byteS_none : byteS none = (0, none) := rfl
theorem takeS_none (n : Int) : takeS n none = ([], none) := rfl
theorem lenS_cases (m : Int) (S : St) (hS : S.ok) : lenS m S = (0, none) ∨ ∃ N r, S = some (vp N ++ r) ∧ (N : Int) ≤ m ∧ N < 18446744073709551616 ∧ lenS m S = (N, some r) := by
  unfold lenS getS
  cases S with
  | none => exact .inl rfl
  | some l =>
    simp only
    cases hg : gv l with
    | none => exact .inl rfl
    | some p =>
      obtain ⟨N, r⟩ := p
      obtain ⟨h1, h2⟩ := gv_some (hS l rfl) hg
      simp only
      split
      · exact .inr ⟨N, r, by rw [h1], ‹_›, h2, rfl⟩
      · exact .inl rfl
theorem getS_cases (S : St) (hS : S.ok) : getS S = (0, none) ∨ ∃ N r, S = some (vp N ++ r) ∧ N < 18446744073709551616 ∧ getS S = (N, some r) := by
  unfold getS
  cases S with
  | none => exact .inl rfl
  | some l =>
    simp only
    cases hg : gv l with
    | none => exact .inl rfl
    | some p =>
      obtain ⟨N, r⟩ := p
      obtain ⟨h1, h2⟩ := gv_some (hS l rfl) hg
      exact .inr ⟨N, r, by rw [h1], h2, rfl⟩
theorem takeS_cases (n : Int) (S : St) : takeS n S = ([], none) ∨ ∃ l, S = some l ∧ 0 ≤ n ∧ n ≤ (l.length : Int) ∧ takeS n S = (l.take n.toNat, some (l.drop n.toNat)) := by
  unfold takeS
  cases S with
  | none => exact .inl rfl
  | some l =>
    simp only
    split
    · rename_i h; exact .inr ⟨l, rfl, h.1, h.2, rfl⟩
    · exact .inl rfl
theorem takeS_app (a b : List Nat) : takeS (a.length : Int) (some (a ++ b)) = (a, some b) := by
  simp only [takeS]
  rw [if_pos ⟨by omega, by rw [List.length_append]; omega⟩]
  simp
theorem lenS_le {m : Int} (S : St) (hm : 0 ≤ m) (hS : S.ok) : ((lenS m S).1 : Int) ≤ m := by
  rcases lenS_cases m S hS with h | ⟨N, r, _, h1, _, h⟩
  · rw [h]; exact hm
  · rw [h]; exact h1
theorem lenS_ok {m : Int} {S : St} (hS : S.ok) : (lenS m S).2.ok := by
  rcases lenS_cases m S hS with h | ⟨N, r, h0, _, _, h⟩
  · rw [h]; exact St.ok_none
  · rw [h]; exact St.ok_some fun x hx => hS _ h0 x (by simp [hx])
theorem getS_ok {S : St} (hS : S.ok) : (getS S).2.ok := by
  rcases getS_cases S hS with h | ⟨N, r, h0, _, h⟩
  · rw [h]; exact St.ok_none
  · rw [h]; exact St.ok_some fun x hx => hS _ h0 x (by simp [hx])
theorem getS_lt {S : St} (hS : S.ok) : (getS S).1 < 18446744073709551616 := by
  rcases getS_cases S hS with h | ⟨N, r, h0, h1, h⟩
  · rw [h]; decide
  · rw [h]; exact h1
theorem byteS_ok {S : St} (hS : S.ok) : (byteS S).2.ok := by
  unfold byteS
  split
  · exact St.ok_some fun x hx => hS _ rfl x (by simp [hx])
  · exact St.ok_none
theorem byteS_lt {S : St} (hS : S.ok) : (byteS S).1 < 256 := by
  unfold byteS
  split
  · exact hS _ rfl _ (by simp)
  · decide
theorem takeS_ok {n : Int} {S : St} (hS : S.ok) : (takeS n S).2.ok ∧ ∀ x ∈ (takeS n S).1, x < 256 := by
  rcases takeS_cases n S with h | ⟨l, h0, _, _, h⟩
  · rw [h]; exact ⟨St.ok_none, by simp⟩
  · rw [h]; exact ⟨St.ok_some fun x hx => hS _ h0 x (List.mem_of_mem_drop hx), fun x hx => hS _ h0 x (List.mem_of_mem_take hx)⟩
theorem takeS_len {n : Int} {S : St} (hn : 0 ≤ n) : ((takeS n S).1.length : Int) ≤ n := by
  rcases takeS_cases n S with h | ⟨l, _, h1, h2, h⟩
  · rw [h]; simpa using hn
  · rw [h, List.length_take]; omega
theorem lenS_sub {m : Int} {S : St} (hS : S.ok) : ((lenS m S).2.getD []).length ≤ (S.getD []).length := by
  rcases lenS_cases m S hS with h | ⟨N, r, rfl, _, _, h⟩
  · rw [h]; simp
  · rw [h]; simp
theorem byteS_sub {S : St} : ((byteS S).2.getD []).length ≤ (S.getD []).length := by
  unfold byteS
  split <;> simp

end Go.Hm
/- Cells read as they are: plain lists. -/

namespace Go.Hm
open Go Go.RowKit
/-- A number of eight bytes is read. -/
def u64S : St → Nat × St
  | some l => if 8 ≤ l.length then (num (l.take 8), some (l.drop 8)) else (0, none)
  | none => (0, none)
/-- Bits as a number. -/
def i64Z (n : Nat) : Int := if n < 9223372036854775808 then (n : Int) else (n : Int) - 18446744073709551616
/-- A cell of a type that is not 1 is read. -/
def rdC (t : Int) (S : St) : CellS × St :=
  if t = 0 then ((false, i64Z (u64S S).1, [], 0, 0), (u64S S).2)
  else if t = 3 then ((false, 0, [], zag (getS S).1, zag (getS (getS S).2).1), (getS (getS S).2).2)
  else ((false, 0, (takeS ((lenS 65536 S).1 : Int) (lenS 65536 S).2).1, 0, 0), (takeS ((lenS 65536 S).1 : Int) (lenS 65536 S).2).2)
/-- So many cells are read, till none can be. -/
def rdL (t : Int) : Nat → St → List CellS × St
  | 0, S => ([], S)
  | _ + 1, none => ([], none)
  | k + 1, some l => ((rdC t (some l)).1 :: (rdL t k (rdC t (some l)).2).1, (rdL t k (rdC t (some l)).2).2)
theorem i64Z_u64N {n : Int} (h : -9223372036854775808 ≤ n ∧ n ≤ 9223372036854775807) : i64Z (u64N n) = n := by
  unfold i64Z u64N
  split <;> omega
theorem u64N_i64Z {n : Nat} (h : n < 18446744073709551616) : u64N (i64Z n) = n := by
  unfold i64Z u64N
  split <;> omega
theorem rd_app {t : Int} {c : CellS} (hr : rightB c t false = true) (ht : t ≠ 1) (hi : -9223372036854775808 ≤ c.2.1 ∧ c.2.1 ≤ 9223372036854775807) (r : List Nat) : rdC t (some (plE t c ++ r)) = (c, some r) := by
  have h0 := right0 hr
  obtain ⟨y0, y1, y2, y3, y4⟩ := c
  dsimp only at h0 hi
  subst h0
  rcases rightB_t hr with rfl | rfl | rfl | rfl
  · have e : y2 = [] ∧ y3 = 0 ∧ y4 = 0 := by simpa [rightB] using hr
    obtain ⟨rfl, rfl, rfl⟩ := e
    have hl := low_len (u64N y1) 8
    have e1 : plE 0 (false, y1, [], 0, 0) = low (u64N y1) 8 := by unfold plE; rw [if_pos rfl]
    have e2 : u64S (some (low (u64N y1) 8 ++ r)) = (u64N y1, some r) := by
      unfold u64S
      dsimp only
      rw [if_pos (by rw [List.length_append]; omega), List.take_left' hl, List.drop_left' hl, num_low_of_lt (by have := u64N_lt y1; omega)]
    unfold rdC
    rw [if_pos rfl, e1, e2]
    dsimp only
    rw [i64Z_u64N hi]
  · exact absurd rfl ht
  · have e : (y1 = 0 ∧ y3 = 0 ∧ y4 = 0) ∧ y2.length ≤ 65536 := by simpa [rightB] using hr
    obtain ⟨⟨rfl, rfl, rfl⟩, hl⟩ := e
    have e1 : plE 2 (false, 0, y2, 0, 0) = vp y2.length ++ y2 := by unfold plE; rw [if_neg (by decide), if_pos rfl]
    unfold rdC
    rw [if_neg (by decide), if_neg (by decide), e1, List.append_assoc, lenS_app _ _ (by omega) (by omega)]
    dsimp only
    rw [takeS_app]
  · have h3 := right3 hr
    have e : y1 = 0 ∧ y2 = [] := by
      have := right20 hr
      have h := hr
      unfold rightB at h
      simp at h
      exact ⟨h.1.1, this⟩
    obtain ⟨rfl, rfl⟩ := e
    dsimp only at h3
    have e1 : plE 3 (false, 0, [], y3, y4) = vp (zig y3) ++ vp (zig y4) := by unfold plE; rw [if_neg (by decide), if_neg (by decide), if_pos rfl]
    unfold rdC
    rw [if_neg (by decide), if_pos rfl, e1, List.append_assoc, getS_app _ _ (by unfold zig; split <;> omega)]
    dsimp only
    rw [getS_app _ _ (by unfold zig; split <;> omega)]
    dsimp only
    rw [zag_zig, zag_zig]
theorem rdL_app {t : Int} (ht : t ≠ 1) : ∀ (l : List CellS) (r : List Nat), (∀ c ∈ l, rightB c t false = true) → (∀ c ∈ l, -9223372036854775808 ≤ c.2.1 ∧ c.2.1 ≤ 9223372036854775807) → rdL t l.length (some (l.flatMap (plE t) ++ r)) = (l, some r)
  | [], r, _, _ => rfl
  | c :: l, r, h, k => by
    have ih := rdL_app ht l r (fun d hd => h d (by simp [hd])) (fun d hd => k d (by simp [hd]))
    rw [List.flatMap_cons, List.append_assoc, List.length_cons, rdL, rd_app (h c (by simp)) ht (k c (by simp))]
    dsimp only
    rw [ih]
theorem rd_some {t : Int} {S : St} {c : CellS} {r : List Nat} (hS : S.ok) (ht : t = 0 ∨ t = 2 ∨ t = 3) (h : rdC t S = (c, some r)) : S = some (plE t c ++ r) := by
  rcases ht with rfl | rfl | rfl
  · unfold rdC at h
    rw [if_pos rfl] at h
    injection h with h1 h2
    cases S with
    | none => simp [u64S] at h2
    | some l =>
      unfold u64S at h1 h2
      dsimp only at h1 h2
      by_cases h8 : 8 ≤ l.length
      · rw [if_pos h8] at h1 h2
        injection h2 with h2
        have hb := hS l rfl
        have ht8 : (l.take 8).length = 8 := by rw [List.length_take]; omega
        have hb8 : ∀ x ∈ l.take 8, x < 256 := fun x hx => hb x (List.mem_of_mem_take hx)
        have hn := num_lt (l.take 8) hb8
        rw [ht8] at hn
        have hl := low_num (l.take 8) hb8
        rw [ht8] at hl
        rw [← h1, ← h2]
        unfold plE
        rw [if_pos rfl]
        dsimp only
        rw [u64N_i64Z (by omega), hl, List.take_append_drop]
      · rw [if_neg h8] at h2
        cases h2
  · unfold rdC at h
    rw [if_neg (by decide), if_neg (by decide)] at h
    injection h with h1 h2
    rcases lenS_cases 65536 S hS with e | ⟨N, q, rfl, hN, -, e⟩
    · rw [e] at h2
      simp [takeS] at h2
    · rw [e] at h1 h2
      dsimp only at h1 h2
      rcases takeS_cases (N : Int) (some q) with e2 | ⟨l, e3, -, hl, e2⟩
      · rw [e2] at h2
        cases h2
      · injection e3 with e3
        subst e3
        rw [e2] at h1 h2
        injection h2 with h2
        rw [← h1, ← h2]
        unfold plE
        rw [if_neg (by decide), if_pos rfl]
        dsimp only
        rw [Int.toNat_natCast, List.length_take, Nat.min_eq_left (by omega), List.append_assoc, List.take_append_drop]
  · unfold rdC at h
    rw [if_neg (by decide), if_pos rfl] at h
    injection h with h1 h2
    rcases getS_cases S hS with e | ⟨N, q, rfl, hN, e⟩
    · rw [e] at h2
      simp [getS] at h2
    · rw [e] at h1 h2
      dsimp only at h1 h2
      have hq : St.ok (some q) := by have := getS_ok hS; rwa [e] at this
      rcases getS_cases (some q) hq with e2 | ⟨N2, q2, e3, hN2, e2⟩
      · rw [e2] at h2
        cases h2
      · injection e3 with e3
        subst e3
        rw [e2] at h1 h2
        injection h2 with h2
        rw [← h1, ← h2]
        unfold plE
        rw [if_neg (by decide), if_neg (by decide), if_pos rfl]
        dsimp only
        rw [zig_zag, zig_zag, List.append_assoc]
theorem rd_ok {t : Int} {S : St} (hS : S.ok) : (rdC t S).2.ok := by
  unfold rdC
  split
  · cases S with
    | none => exact St.ok_none
    | some l =>
      unfold u64S
      dsimp only
      split
      · exact St.ok_some fun x hx => hS l rfl x (List.mem_of_mem_drop hx)
      · exact St.ok_none
  · split
    · exact getS_ok (getS_ok hS)
    · exact (takeS_ok (lenS_ok hS)).1
theorem rdL_some {t : Int} (ht : t = 0 ∨ t = 2 ∨ t = 3) : ∀ (n : Nat) (S : St) (l : List CellS) (r : List Nat), S.ok → rdL t n S = (l, some r) → S = some (l.flatMap (plE t) ++ r) ∧ l.length = n
  | 0, S, l, r, _, h => by
    unfold rdL at h
    injection h with h1 h2
    subst h1
    exact ⟨by simpa using h2, rfl⟩
  | n + 1, none, l, r, _, h => by
    unfold rdL at h
    injection h with _ h2
    cases h2
  | n + 1, some s, l, r, hS, h => by
    unfold rdL at h
    injection h with h1 h2
    have ho := rd_ok (t := t) hS
    match hq : rdC t (some s) with
    | (c, none) =>
      rw [hq] at h2
      cases n with
      | zero => unfold rdL at h2; cases h2
      | succ n => unfold rdL at h2; cases h2
    | (c, some q) =>
      rw [hq] at h1 h2 ho
      obtain ⟨e1, e2⟩ := rdL_some ht n (some q) (rdL t n (some q)).1 r ho (by rw [← h2])
      have e3 := rd_some hS ht hq
      subst h1
      refine ⟨?_, by rw [List.length_cons, e2]⟩
      injection e1 with e1
      rw [e3, List.flatMap_cons, List.append_assoc, ← e1]

end Go.Hm
