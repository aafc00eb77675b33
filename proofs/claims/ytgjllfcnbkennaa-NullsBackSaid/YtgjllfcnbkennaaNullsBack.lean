/- NullsBack returns true whatever comes in, and leaves all that was there as it was. -/
import Derived.Test.YtgjllfcnbkennaaLaw08
import Derived.Test.YtgjllfcnbkennaaTrod
import Derived.Deep.QuietTactic
import Derived.BigQuiet
import Derived.StillTailTactics

namespace Go.Proofs.Ytgjllfcnbkennaa
open Go.RowKit Go.Hm
theorem split_back {l : List CellS} (hl : l.length ≤ 65536) : joinO (unpackO (splitB l) 1 (l.length : Int)) (valsN l) = some (l.map zeroN) ∧ cntN (unpackO (splitB l) 1 (l.length : Int)) = ((valsN l).length : Int) := by
  rw [split_unpack hl]
  exact ⟨by rw [joinO_eq (sum_vals l), join_split], by rw [cntN, sum_vals]⟩
theorem splitB_lt (l : List CellS) : ∀ x ∈ splitB l, x < 256 := low_lt _ _
set_option maxHeartbeats 2000000 in
set_option maxRecDepth 100000 in
theorem nullsBack_walk {w : World} {A : Option Addr} {n c : Nat} {l : List CellS} (h : Reads w w.heap.size 5 A n (recs cellV l)) (hL : ∀ y ∈ l, CellFine y) (hn : n ≤ 4611686018427387903) :
    Calls Try.prog 4 #[.slice A n c] w (SmallPost w) := by
  obtain rfl := h.lenCell
  go_enter Try.func4, Try.ntmps4
  go_wp2_with fail
  refine (small08_any w).mono ?_
  rintro e w1 ⟨rfl, b1⟩
  have F := Lib.hid (few08_any (c := c) (Reads.later h b1) hL hn)
  go_wp2_with fail
  refine F.out.mono ?_
  rintro e w1' ⟨bb, rfl, hf, rfl⟩
  clear F
  cases bb with
  | false =>
    go_wp2
    go_ret
    exact ⟨rfl, b1⟩
  | true =>
    have hl3 := hf rfl
    obtain ⟨j1, j2⟩ := split_back (l := l) (by omega)
    have J := Lib.hid (And.intro j1 j2)
    have P1 := Lib.hid (split_any (c := c) (Reads.later h b1) (by omega))
    clear hf j1 j2
    go_wp2_with fail
    refine P1.out.mono ?_
    rintro e w2 ⟨A2, n2, c2, A3, n3, c3, rfl, o2, u2, b2⟩
    obtain rfl : n3 = (valsN l).length := (Reads.of_own u2).lenCell
    have hvl := vals_len l
    have hn2 : n2 ≤ 9223372036854775807 := by have := (o2.cap); have := o2.len; have h2 := o2.cap.2; simp only [maxLen] at h2; omega
    have b02 := New.trans b1 b2
    have P2 := join_any (c := c2) (c2 := c3) (n := (l.length : Int)) o2.reads (splitB_lt l) hn2 (by omega) (by omega) (Reads.of_own u2) (by omega)
    rw [J.out.1] at P2
    have P2 := Lib.hid P2
    have RB := Lib.hid (fun (W : World) (hW : New w2 W) => Reads.later o2.reads hW)
    clear P1 b2 o2 u2
    go_wp2_with fail
    refine P2.out.mono ?_
    rintro e w3 ⟨A4, c4, rfl, u4, b3⟩
    have b03 := New.trans b02 b3
    rw [List.length_map] at u4 ⊢
    have P3 := count_any (c := c2) (n := (l.length : Int)) (RB.out w3 b3) (splitB_lt l) hn2 (by omega) (by omega)
    rw [J.out.2] at P3
    have P3 := Lib.hid P3
    have RX := Lib.hid (fun (W : World) (hW : New w3 W) => Reads.later (Reads.of_own u4) hW)
    clear P2 RB J u4
    go_wp2_with fail
    refine P3.out.mono ?_
    rintro e w4 ⟨rfl, b4⟩
    have b04 := New.trans b03 b4
    clear P3
    go_wp2
    go_loopw [9] (fun i wr => ∃ k : Nat, i = .int .i64 (k : Int) ∧ k ≤ l.length ∧ New w4 wr) (fun i _ => l.length - (intOf i).toNat)
    case atStart => exact ⟨0, rfl, by omega, New.refl _⟩
    case round =>
      obtain ⟨k, rfl, hk, hb⟩ := hrel
      by_cases hlt : k < l.length
      · obtain ⟨ad, rfl, _, d0, d1, d2, d3, d4⟩ := (Reads.later h (New.trans b04 hb)).cell5 hlt
        have HX := Lib.hid (fun (W : World) (hW : New w3 W) => (RX.out W hW).cell5 hlt)
        have hz : (l.map zeroN).getD k (false, 0, [], 0, 0) = zeroN (l.getD k (false, 0, [], 0, 0)) := by
          rw [List.getD_eq_getElem?_getD, List.getElem?_map, List.getElem?_eq_getElem hlt, List.getD_eq_getElem?_getD, List.getElem?_eq_getElem hlt]; rfl
        rw [hz] at HX
        clear hz
        generalize l.getD k (false, 0, [], 0, 0) = x at *
        obtain ⟨xb, xn, xs, xx, xy⟩ := x
        simp only at d0 d1 d2 d3 d4
        obtain ⟨W5, hW5⟩ : ∃ W, W = wr.alloc (.cells #[.bool xb, .int .i64 xn, .string (bstr xs), .int .i64 xx, .int .i64 xy] 34) := ⟨_, rfl⟩
        have b5 : New wr W5 := by rw [hW5]; exact (Below.refl _ _).alloc (Nat.le_refl _) _
        have B5 : Blk W5 wr.heap.size 34 #[.bool xb, .int .i64 xn, .string (bstr xs), .int .i64 xx, .int .i64 xy] := by rw [hW5]; exact Blk.new _ _ _
        have i1 : (k : Int) < (l.length : Int) := by omega
        have hb5 := New.trans hb b5
        obtain ⟨p0, p1, p2, p3, p4⟩ := cells5 B5
        cases xb with
        | false =>
          obtain ⟨ax, ea, _, q0, q1, q2, q3, q4⟩ := HX.out W5 (New.trans b4 hb5)
          subst ea
          simp only [zeroN, Bool.false_eq_true, if_false] at q0 q1 q2 q3 q4
          have HW5 := Lib.hid hW5
          rw [hW5] at p0 p1 p2 p3 p4 q0 q1 q2 q3 q4
          have QN := fun W => neqCell (b := false) (b' := false) (n := xn) (n' := xn) (s := bstr xs) (s' := bstr xs) (x := xx) (x' := xx) (y := xy) (y' := xy) W
          simp only [beq_self_eq_true, Bool.and_self, Bool.not_true] at QN
          clear hW5 HX B5
          go_wp2
          rw [← HW5.out] at p0 p1 p2 p3 p4 q0 q1 q2 q3 q4 ⊢
          go_quiet (fail)
          go_wp2
          go_roundw
          case rel => exact ⟨k + 1, by go_num, by omega, New.trans hb5 (new_drewN _ _)⟩
          case measure => simp [intOf]; omega
        | true =>
          obtain ⟨W6, hW6⟩ : ∃ W, W = wr.alloc (.cells #[.bool true, .int .i64 0, .string ⟨#[]⟩, .int .i64 0, .int .i64 0] 34) := ⟨_, rfl⟩
          have g6 : New wr W6 := by rw [hW6]; exact (Below.refl _ _).alloc (Nat.le_refl _) _
          have B6 : Blk W6 wr.heap.size 34 #[.bool true, .int .i64 0, .string ⟨#[]⟩, .int .i64 0, .int .i64 0] := by rw [hW6]; exact Blk.new _ _ _
          have hb6 := New.trans hb g6
          obtain ⟨ax, ea, _, q0, q1, q2, q3, q4⟩ := HX.out W6 (New.trans b4 hb6)
          subst ea
          simp only [zeroN, if_true, nullC] at q0 q1 q2 q3 q4
          obtain ⟨r0, r1, r2, r3, r4⟩ := cells5 B6
          have f0 := B5.frozen 0
          have f1 := B5.frozen 1
          have f2 := B5.frozen 2
          have f3 := B5.frozen 3
          have f4 := B5.frozen 4
          have HW6 := Lib.hid hW6
          rw [hW5] at p0 p1 p2 p3 p4 f0 f1 f2 f3 f4
          have QN := fun W => neqCell (b := true) (b' := true) (n := 0) (n' := 0) (s := bstr []) (s' := ⟨#[]⟩) (x := 0) (x' := 0) (y := 0) (y' := 0) W
          have e8 : ((bstr []).toList == (⟨#[]⟩ : ByteArray).toList) = true := by simp [bstr]
          rw [e8] at QN
          simp only [beq_self_eq_true, Bool.and_self, Bool.not_true] at QN
          clear hW5 hW6 HX B5 B6 e8
          go_wp2
          rw [← HW6.out]
          clear p0 p1 p2 p3 p4 f0 f1 f2 f3 f4
          go_quiet (fail)
          go_wp2
          go_roundw
          case rel => exact ⟨k + 1, by go_num, by omega, New.trans hb6 (new_drewN _ _)⟩
          case measure => simp [intOf]; omega
      · obtain rfl : k = l.length := by omega
        go_wp2
        go_ret
        exact ⟨rfl, New.trans b04 hb⟩

set_option maxRecDepth 100000 in
open Go.WideShapes Go.ChangeShapes in
theorem nullsBack_contract {H : Type} {enc : TypeId × Value → H} (W : World) (base : Nat) (args : Array Value) (ds : List (DataW H)) (ps : List MemPlace)
    (hval : ∀ (j : Nat) t v, Try.f4.params[j]? = some t → args[j]? = some v → Value.okWide Try.prog W .any base t v)
    (hA : DataW.TrodAll enc Try.prog W 0 (fun _ => true) true Try.f4.params.toList args.toList ds ps) (hlt : ∀ p ∈ ps, p.block < W.heap.size)
    (hsz : (DataW.weightsEach Try.prog Try.f4.params.toList ds).all (· ≤ reachBytes) = true) :
    Calls Try.prog 4 args W fun e W' => e = .returned (.bool true) ∧ Below W.heap.size W W' := by
  rw [Try.params4] at hA hval hsz
  obtain ⟨v0, d0, rfl, rfl, h0⟩ := trodAll_one hA
  -- l: v0 d0 p0 h0, hval 0
  obtain ⟨A2, c2, r, rfl, hr, hf, hc2, hl2⟩ := open_Cells (hval 0 _ _ rfl rfl) h0 hlt (sized_at hsz (j := 0) rfl rfl)
  exact nullsBack_walk hr hf (by omega)

end Go.Proofs.Ytgjllfcnbkennaa
