/- What layer 8's laws share: the small case, and whether cells are few. -/
import Derived.Test.YtgjllfcnbkennaaNulK
import Derived.Test.YtgjllfcnbkennaaOpenCl

namespace Go.Hm
def s8L : List CellS := [(true, 0, [], 0, 0), (false, 5, [], 0, 0)]
def s8R : List CellS := [(false, 5, [], 0, 0)]
theorem s8_1 : valsN s8L = s8R := rfl
theorem s8_s : (bstr [2]).toList = [2] := by rw [bstr_toList]; rfl

end Go.Hm

namespace Go.Proofs.Ytgjllfcnbkennaa
open Go.RowKit Go.Hm
theorem s8_2 : splitB s8L = [2] := by decide
theorem s8_3 : joinO (unpackO [2] 1 2) s8R = some s8L := by decide
theorem s8_4 : joinO (unpackO [2] 1 2) [] = none := by decide
theorem s8_5 : joinO (unpackO [0] 1 2) s8R = none := by decide
theorem s8_6 : cntN (unpackO [2] 1 2) = 1 := by decide
theorem s8_7 : cntN (unpackO [2] 1 1) = -1 := by decide
/-- Whether cells are few; nothing that was is turned. -/
def FewPost (l : List CellS) (w : World) (e : Ending) (w' : World) : Prop := ∃ b, e = .returned (.bool b) ∧ (b = true → l.length ≤ 300) ∧ w = w'
set_option maxHeartbeats 1000000 in
set_option maxRecDepth 100000 in
theorem few08_any {w : World} {A : Option Addr} {n c : Nat} {l : List CellS} (h : Reads w w.heap.size 5 A n (recs cellV l)) (hL : ∀ y ∈ l, CellFine y) (hn : n ≤ 4611686018427387903) :
    Calls Try.prog 9 #[.slice A n c] w (FewPost l w) := by
  obtain rfl := h.lenCell
  go_enter Try.func9, Try.ntmps9
  go_wp2
  go_loopw [3, 4] (fun v i wr => ∃ (k : Nat) (x : Int), i = .int .i64 (k : Int) ∧ v = .int .i64 x ∧ k ≤ l.length ∧ w = wr) (fun _ i _ => l.length - (intOf i).toNat)
  case atStart => exact ⟨0, 0, rfl, rfl, by omega, rfl⟩
  case round =>
    obtain ⟨k, x, rfl, rfl, hk, rfl⟩ := hrel
    by_cases hlt : k < l.length
    · obtain ⟨ad, rfl, hbk, d0, d1, d2, d3, d4⟩ := h.cell5 hlt
      have hx := (hL _ (mem_getDC (false, 0, [], 0, 0) hlt)).1.1
      generalize (l.getD k (false, 0, [], 0, 0)).2.2.1 = s2 at *
      have zs := bstr_size s2
      have hiz : (k : Int) < (l.length : Int) := by omega
      generalize hy : IntKind.i64.wrap (x + (s2.length : Int)) = y
      clear d0 d1 d3 d4
      go_wp2
      go_roundw
      case rel => exact ⟨k + 1, _, by go_num, rfl, by omega, trivial⟩
      case measure => simp [intOf]; omega
    · obtain rfl : k = l.length := by omega
      by_cases h3 : l.length ≤ 300
      · have t1 : decide ((l.length : Int) ≤ 300) = true := by simp; omega
        go_wp2
        go_ret
        exact ⟨_, rfl, fun _ => h3, rfl⟩
      · have t1 : decide ((l.length : Int) ≤ 300) = false := by simp; omega
        go_wp2
        go_ret
        exact ⟨_, rfl, fun hh => by simp at hh, rfl⟩
set_option maxHeartbeats 2000000 in
set_option maxRecDepth 100000 in
theorem small08_any (w : World) : Calls Try.prog 8 #[] w (SmallPost w) := by
  have b0 : New w (w.alloc (.cells #[.bool true, .int .i64 0, .string ⟨#[]⟩, .int .i64 0, .int .i64 0, .bool false, .int .i64 5, .string ⟨#[]⟩, .int .i64 0, .int .i64 0] 34)) := (Below.refl _ _).alloc (Nat.le_refl _) _
  have P1 := split_any (c := 2) (Reads.litR w 34 #[.bool true, .int .i64 0, .string ⟨#[]⟩, .int .i64 0, .int .i64 0, .bool false, .int .i64 5, .string ⟨#[]⟩, .int .i64 0, .int .i64 0] 2 5 (recs cellV s8L) rfl rfl) (by omega)
  have P1 := Lib.hid P1
  go_enter Try.func8, Try.ntmps8
  go_wp2_with fail
  refine P1.out.mono ?_
  rintro e w1 ⟨A, n, c, A2, n2, c2, rfl, o1, u1, b1⟩
  rw [s8_2] at o1
  rw [s8_1] at u1
  obtain rfl : n = 1 := by have := o1.len; simpa [nums] using this
  obtain rfl : n2 = 1 := (Reads.of_own u1).lenCell
  have b01 := New.trans b0 b1
  have RB := Lib.hid (fun (W : World) (hW : New w1 W) => Reads.later o1.reads hW)
  have RC := Lib.hid (fun (W : World) (hW : New w1 W) => Reads.later (Reads.of_own u1) hW)
  clear P1 b0 b1 o1 u1
  have P2 := join_any (c := c) (n := 2) (c2 := c2) (RB.out w1 (New.refl _)) (by decide) (by omega) (by omega) (by omega) (RC.out w1 (New.refl _)) (by omega)
  rw [s8_3] at P2
  have P2 := Lib.hid P2
  go_wp2_with fail
  refine P2.out.mono ?_
  rintro e w2 ⟨A3, c3, rfl, u3, b2⟩
  have RX := Lib.hid (fun (W : World) (hW : New w2 W) => Reads.later (Reads.of_own u3) hW)
  have P3 := join_any (c := c) (n := 2) (A2 := none) (nr := 0) (c2 := 0) (r := []) (RB.out w2 b2) (by decide) (by omega) (by omega) (by omega) Reads.none_ (by omega)
  rw [s8_4] at P3
  have P3 := Lib.hid P3
  clear P2 u3
  go_wp2_with fail
  refine P3.out.mono ?_
  rintro e w3 ⟨rfl, b3⟩
  have b13 := New.trans b2 b3
  have b34 : New w3 (w3.alloc (.cells #[.int .u8 0] 5)) := (Below.refl _ _).alloc (Nat.le_refl _) _
  have P4 := join_any (c := 1) (n := 2) (c2 := c2) (Reads.litV w3 5 #[.int .u8 0] 1 (nums .u8 [0]) rfl rfl) (by decide) (by omega) (by omega) (by omega) (RC.out _ (New.trans b13 b34)) (by omega)
  rw [s8_5] at P4
  have P4 := Lib.hid P4
  clear P3
  go_wp2_with fail
  refine P4.out.mono ?_
  rintro e w4 ⟨rfl, b4⟩
  have b24 := New.trans b3 (New.trans b34 b4)
  have b14 := New.trans b2 b24
  have X1 := run_strB (c := c) (RB.out w4 b14)
  have HS := s8_s
  obtain ⟨ad, e2, _, _, p1, _⟩ := (RC.out w4 b14).cell5 (i := 0) (by omega)
  subst e2
  obtain ⟨ax, e3, _, q0, _⟩ := (RX.out w4 b24).cell5 (i := 0) (by decide)
  subst e3
  obtain ⟨ax', e3, _, _, r1, _⟩ := (RX.out w4 b24).cell5 (i := 1) (by decide)
  injection e3 with e3
  subst e3
  rw [Nat.zero_mul, add_zero'] at p1 q0
  rw [Nat.one_mul] at r1
  have p1 : w4.cell? ⟨ad.block, ad.off + 1, none⟩ = some (.int .i64 5) := p1
  have q0 : w4.cell? ax = some (.bool true) := q0
  have r1 : w4.cell? ⟨ax.block, ax.off + 5 + 1, none⟩ = some (.int .i64 5) := r1
  have P5 := count_any (c := c) (n := 2) (RB.out w4 b14) (by decide) (by omega) (by omega) (by omega)
  rw [s8_6] at P5
  have P5 := Lib.hid P5
  have hl8 : s8L.length = 2 := rfl
  rw [hl8]
  clear P4 hl8
  go_wp2_with fail
  refine P5.out.mono ?_
  rintro e w5 ⟨rfl, b5⟩
  have b15 := New.trans b14 b5
  have P6 := count_any (c := c) (n := 1) (RB.out w5 b15) (by decide) (by omega) (by omega) (by omega)
  rw [s8_7] at P6
  have P6 := Lib.hid P6
  clear P5 X1 HS p1 q0 r1
  go_wp2_with fail
  refine P6.out.mono ?_
  rintro e w6 ⟨rfl, b6⟩
  go_wp2
  go_ret
  exact ⟨by simp, New.trans b01 (New.trans b15 b6)⟩

end Go.Proofs.Ytgjllfcnbkennaa
