/- CellOrder returns true whatever comes in, and leaves all that was there as it was. -/
import Derived.Test.YtcnaameebbcmhaaSmall07
import Derived.Test.YtcnaameebbcmhaaOpenTb
import Derived.Test.YtcnaameebbcmhaaOrdD
import Derived.Test.YtcnaameebbcmhaaCellE

namespace Go.Hm
open Go Go.RowKit
theorem cb_one : ∀ a b : List UInt8, Lib.compareBytes a b = -1 ∨ Lib.compareBytes a b = 0 ∨ Lib.compareBytes a b = 1
  | [], [] => by simp [Lib.compareBytes]
  | [], _ :: _ => by simp [Lib.compareBytes]
  | _ :: _, [] => by simp [Lib.compareBytes]
  | x :: a, y :: b => by
    have ih := cb_one a b
    unfold Lib.compareBytes
    split
    · simp
    · split
      · simp
      · exact ih
theorem cmpI_one (x y : Int) : cmpI x y = -1 ∨ cmpI x y = 0 ∨ cmpI x y = 1 := by
  unfold cmpI
  split
  · simp
  · split <;> simp
theorem cmpD_one (t : Int) (a b : CellS) : cmpD t a b = -1 ∨ cmpD t a b = 0 ∨ cmpD t a b = 1 := by
  unfold cmpD
  split
  · cases a.1 <;> cases b.1 <;> simp [cmpN]
  · split
    · exact cmpI_one _ _
    · split
      · exact cb_one _ _
      · split
        · unfold cmpP
          rw [orI3]
          split
          · split
            · exact cmpI_one _ _
            · exact cmpI_one _ _
          · exact cmpI_one _ _
        · simp

end Go.Hm

namespace Go.Proofs.Ytcnaameebbcmhaa
open Go.RowKit Go.Hm
set_option maxHeartbeats 1000000 in
set_option maxRecDepth 100000 in
theorem eqlCell {b b' : Bool} {n n' : Int} {s s' : ByteArray} {x x' y y' : Int} (W : World) :
    (binOp .eql 25 (.agg #[.bool b, .int .i64 n, .string s, .int .i64 x, .int .i64 y]) (.agg #[.bool b', .int .i64 n', .string s', .int .i64 x', .int .i64 y'])).run Try.prog W = .ok (.bool (b == b' && n == n' && s.toList == s'.toList && x == x' && y == y')) W := by
  by_cases h1 : b = b' <;> by_cases h2 : n = n' <;> by_cases h3 : s.toList = s'.toList <;> by_cases h4 : x = x' <;> by_cases h5 : y = y'
  all_goals go_simp
theorem cellEq {a b : CellS} {X : Int} (h : X = 0 ↔ a = b) (fa : ∀ z ∈ a.2.2.1, z < 256) (fb : ∀ z ∈ b.2.2.1, z < 256) : (a.1 == b.1 && a.2.1 == b.2.1 && (bstr a.2.2.1).toList == (bstr b.2.2.1).toList && a.2.2.2.1 == b.2.2.2.1 && a.2.2.2.2 == b.2.2.2.2) = (X == 0) := by
  obtain ⟨na, ia, sa, xa, ya⟩ := a
  obtain ⟨nb, ib, sb, xb, yb⟩ := b
  have e : ∀ l : List Nat, (bstr l).toList = l.map UInt8.ofNat := fun l => by rw [Lib.toList_data]; rfl
  have hs : sa.map UInt8.ofNat = sb.map UInt8.ofNat ↔ sa = sb := ⟨map_u8_inj fa fb, fun h => by rw [h]⟩
  rw [Bool.eq_iff_iff]
  simp only [Bool.and_eq_true, beq_iff_eq, e, h, hs, Prod.mk.injEq, and_assoc]
set_option maxHeartbeats 8000000 in
set_option maxRecDepth 100000 in
theorem cellOrder_walk {w : World} {a b c : CellS} {cn : List Nat} {t : Int} {nu : Bool} (fa : a.2.2.1.length ≤ 140737488351232 ∧ ∀ z ∈ a.2.2.1, z < 256) (fb : b.2.2.1.length ≤ 140737488351232 ∧ ∀ z ∈ b.2.2.1, z < 256) (fc : c.2.2.1.length ≤ 140737488351232 ∧ ∀ z ∈ c.2.2.1, z < 256) :
    Calls Try.prog 7 #[.agg (cellV a).toArray, .agg (cellV b).toArray, .agg (cellV c).toArray, .agg #[.string (bstr cn), .int .i64 t, .bool nu]] w (SmallPost w) := by
  have near := fun (p q : CellS) (h1 : rightB p t nu = true) (h2 : rightB q t nu = true) => show nearP p.2.2.2.1 p.2.2.2.2 q.2.2.2.1 q.2.2.2.2 from by
    have e1 := right_near h1
    have e2 := right_near h2
    exact ⟨by omega, by omega, by omega, by omega⟩
  have DN := cmpD_neg t a b
  have DZ := fun (h1 : rightB a t nu = true) (h2 : rightB b t nu = true) => cmpD_zero h1 h2 fa.2 fb.2
  have CE := fun (h1 : rightB a t nu = true) (h2 : rightB b t nu = true) => cellEq (cmpD_zero h1 h2 fa.2 fb.2) fa.2 fb.2
  have DT := @cmpD_trans t a b c
  have DU := @cmpD_null t a b
  have D1 := cmpD_one t a b
  have D2 := cmpD_one t b c
  have D3 := cmpD_one t a c
  obtain ⟨na, ia, sa, xa, ya⟩ := a
  obtain ⟨nb, ib, sb, xb, yb⟩ := b
  obtain ⟨nc, ic, sc, xc, yc⟩ := c
  have RA := Lib.hid (fun (W : World) => cright_any (w := W) (b := na) (n := ia) (s := sa) (x := xa) (y := ya) (cn := cn) (t := t) (nu := nu) fa.1)
  have RB := Lib.hid (fun (W : World) => cright_any (w := W) (b := nb) (n := ib) (s := sb) (x := xb) (y := yb) (cn := cn) (t := t) (nu := nu) fb.1)
  have RC := Lib.hid (fun (W : World) => cright_any (w := W) (b := nc) (n := ic) (s := sc) (x := xc) (y := yc) (cn := cn) (t := t) (nu := nu) fc.1)
  have AB := fun (h1 : rightB (na, ia, sa, xa, ya) t nu = true) (h2 : rightB (nb, ib, sb, xb, yb) t nu = true) (W : World) => compareD_any (w := W) (t := t) (a := na) (b := nb) (n := ia) (m := ib) (s := sa) (r := sb) (near _ _ h1 h2)
  have BA := fun (h1 : rightB (na, ia, sa, xa, ya) t nu = true) (h2 : rightB (nb, ib, sb, xb, yb) t nu = true) (W : World) => compareD_any (w := W) (t := t) (a := nb) (b := na) (n := ib) (m := ia) (s := sb) (r := sa) (near _ _ h2 h1)
  have BC := fun (h1 : rightB (nb, ib, sb, xb, yb) t nu = true) (h2 : rightB (nc, ic, sc, xc, yc) t nu = true) (W : World) => compareD_any (w := W) (t := t) (a := nb) (b := nc) (n := ib) (m := ic) (s := sb) (r := sc) (near _ _ h1 h2)
  have AC := fun (h1 : rightB (na, ia, sa, xa, ya) t nu = true) (h2 : rightB (nc, ic, sc, xc, yc) t nu = true) (W : World) => compareD_any (w := W) (t := t) (a := na) (b := nc) (n := ia) (m := ic) (s := sa) (r := sc) (near _ _ h1 h2)
  simp only at AB BA BC AC DU CE
  generalize rightB (na, ia, sa, xa, ya) t nu = Ra at *
  generalize rightB (nb, ib, sb, xb, yb) t nu = Rb at *
  generalize rightB (nc, ic, sc, xc, yc) t nu = Rc at *
  rw [DN] at BA
  generalize cmpD t (na, ia, sa, xa, ya) (nb, ib, sb, xb, yb) = X at *
  generalize cmpD t (nb, ib, sb, xb, yb) (nc, ic, sc, xc, yc) = Z at *
  generalize cmpD t (na, ia, sa, xa, ya) (nc, ic, sc, xc, yc) = V at *
  obtain ⟨W1, hW1⟩ : ∃ W, W = w.alloc (.cells #[.bool na, .int .i64 ia, .string (bstr sa), .int .i64 xa, .int .i64 ya] 25) := ⟨_, rfl⟩
  have bW1 : New w W1 := by rw [hW1]; exact (Below.refl _ _).alloc (Nat.le_refl _) _
  obtain ⟨W2, hW2⟩ : ∃ W, W = W1.alloc (.cells #[.bool nb, .int .i64 ib, .string (bstr sb), .int .i64 xb, .int .i64 yb] 25) := ⟨_, rfl⟩
  have bW2 : New W1 W2 := by rw [hW2]; exact (Below.refl _ _).alloc (Nat.le_refl _) _
  obtain ⟨W3, hW3⟩ : ∃ W, W = W2.alloc (.cells #[.bool nc, .int .i64 ic, .string (bstr sc), .int .i64 xc, .int .i64 yc] 25) := ⟨_, rfl⟩
  have bW3 : New W2 W3 := by rw [hW3]; exact (Below.refl _ _).alloc (Nat.le_refl _) _
  obtain ⟨W0, hW0⟩ : ∃ W, W = W3.alloc (.cells #[.string (bstr cn), .int .i64 t, .bool nu] 27) := ⟨_, rfl⟩
  have bW0 : New W3 W0 := by rw [hW0]; exact (Below.refl _ _).alloc (Nat.le_refl _) _
  have b0 := New.trans bW1 (New.trans bW2 (New.trans bW3 bW0))
  have e1 : W1.heap.size = w.heap.size + 1 := by rw [hW1]; simp
  have e2 : W2.heap.size = w.heap.size + 1 + 1 := by rw [hW2]; simp [e1]
  have e3 : W3.heap.size = w.heap.size + 1 + 1 + 1 := by rw [hW3]; simp [e2]
  have A0 : Blk W0 w.heap.size 25 #[.bool na, .int .i64 ia, .string (bstr sa), .int .i64 xa, .int .i64 ya] := by rw [hW0, hW3, hW2, hW1]; exact (((Blk.new _ _ _).alloc _).alloc _).alloc _
  have B0 : Blk W0 (w.heap.size + 1) 25 #[.bool nb, .int .i64 ib, .string (bstr sb), .int .i64 xb, .int .i64 yb] := by rw [hW0, hW3, hW2, ← e1]; exact ((Blk.new _ _ _).alloc _).alloc _
  have C0 : Blk W0 (w.heap.size + 1 + 1) 25 #[.bool nc, .int .i64 ic, .string (bstr sc), .int .i64 xc, .int .i64 yc] := by rw [hW0, hW3, ← e2]; exact (Blk.new _ _ _).alloc _
  have E0 : Blk W0 (w.heap.size + 1 + 1 + 1) 27 #[.string (bstr cn), .int .i64 t, .bool nu] := by rw [hW0, ← e3]; exact Blk.new _ _ _
  rw [hW3, hW2, hW1] at hW0
  have F := Lib.hid (fun (W : World) (hW : New W0 W) => And.intro (cells5 (A0.below hW A0.lt)) (And.intro (cells5 (B0.below hW B0.lt)) (And.intro (cells5 (C0.below hW C0.lt)) (ccells (E0.below hW E0.lt)))))
  have SM := Lib.hid (small07_any W0)
  have HW := Lib.hid hW0
  have HB := Lib.hid b0
  have z1 := bstr_size sa
  have z2 := bstr_size sb
  have z3 := bstr_size sc
  have AB := Lib.hid AB
  have BA := Lib.hid BA
  have BC := Lib.hid BC
  have AC := Lib.hid AC
  have DZ := Lib.hid DZ
  have DT := Lib.hid DT
  have CE := Lib.hid CE
  have DU := Lib.hid DU
  have D1 := Lib.hid D1
  have D2 := Lib.hid D2
  clear hW0 hW1 hW2 hW3 bW0 bW1 bW2 bW3 b0 A0 B0 C0 E0 e1 e2 e3 fa fb fc near DN D3
  simp only [cellV]
  go_enter Try.func7, Try.ntmps7
  go_wp2_with fail
  rw [← HW.out]
  refine SM.out.mono ?_
  rintro e w1 ⟨rfl, b1⟩
  clear SM HW
  obtain ⟨⟨p0, p1, p2, p3, p4⟩, ⟨q0, q1, q2, q3, q4⟩, ⟨r0, r1, r2, r3, r4⟩, ⟨o0, o1, o2⟩⟩ := F.out w1 b1
  by_cases h1 : 1000 < sa.length
  · have t1 : decide (1000 < (sa.length : Int)) = true := by simp; omega
    go_wp2
    go_ret
    exact ⟨rfl, New.trans HB.out b1⟩
  have t1 : decide (1000 < (sa.length : Int)) = false := by simp; omega
  by_cases h2 : 1000 < sb.length
  · have t2 : decide (1000 < (sb.length : Int)) = true := by simp; omega
    go_wp2
    go_ret
    exact ⟨rfl, New.trans HB.out b1⟩
  have t2 : decide (1000 < (sb.length : Int)) = false := by simp; omega
  by_cases h3 : 1000 < sc.length
  · have t3 : decide (1000 < (sc.length : Int)) = true := by simp; omega
    go_wp2
    go_ret
    exact ⟨rfl, New.trans HB.out b1⟩
  have t3 : decide (1000 < (sc.length : Int)) = false := by simp; omega
  clear h1 h2 h3
  go_wp2_with fail
  refine (RA.out _).mono ?_
  rintro e w2 ⟨rfl, b2⟩
  have b2 := New.trans b1 b2
  clear p0 p1 p2 p3 p4 q0 q1 q2 q3 q4 r0 r1 r2 r3 r4 o0 o1 o2 t1 t2 t3 b1 RA
  obtain ⟨⟨p0, p1, p2, p3, p4⟩, ⟨q0, q1, q2, q3, q4⟩, ⟨r0, r1, r2, r3, r4⟩, ⟨o0, o1, o2⟩⟩ := F.out w2 b2
  cases Ra with
  | false =>
    go_wp2
    go_ret
    exact ⟨rfl, New.trans HB.out b2⟩
  | true =>
    go_wp2_with fail
    refine (RB.out _).mono ?_
    rintro e w3 ⟨rfl, b3⟩
    have b3 := New.trans b2 b3
    clear p0 p1 p2 p3 p4 q0 q1 q2 q3 q4 r0 r1 r2 r3 r4 o0 o1 o2 b2 RB
    obtain ⟨⟨p0, p1, p2, p3, p4⟩, ⟨q0, q1, q2, q3, q4⟩, ⟨r0, r1, r2, r3, r4⟩, ⟨o0, o1, o2⟩⟩ := F.out w3 b3
    cases Rb with
    | false =>
      go_wp2
      go_ret
      exact ⟨rfl, New.trans HB.out b3⟩
    | true =>
      go_wp2_with fail
      refine (RC.out _).mono ?_
      rintro e w4 ⟨rfl, b4⟩
      have b4 := New.trans b3 b4
      clear p0 p1 p2 p3 p4 q0 q1 q2 q3 q4 r0 r1 r2 r3 r4 o0 o1 o2 b3 RC
      obtain ⟨⟨p0, p1, p2, p3, p4⟩, ⟨q0, q1, q2, q3, q4⟩, ⟨r0, r1, r2, r3, r4⟩, ⟨o0, o1, o2⟩⟩ := F.out w4 b4
      cases Rc with
      | false =>
        go_wp2
        go_ret
        exact ⟨rfl, New.trans HB.out b4⟩
      | true =>
        have AB2 := Lib.hid (AB.out (by trivial) (by trivial))
        clear AB
        have BA2 := Lib.hid (BA.out (by trivial) (by trivial))
        clear BA
        have BC2 := Lib.hid (BC.out (by trivial) (by trivial))
        clear BC
        have AC2 := Lib.hid (AC.out (by trivial) (by trivial))
        clear AC
        have CE2 := Lib.hid (CE.out (by trivial) (by trivial))
        clear CE DZ
        go_wp2_with fail
        refine (AB2.out _).mono ?_
        rintro e w5 ⟨rfl, b5⟩
        have b5 := New.trans b4 b5
        clear p0 p1 p2 p3 p4 q0 q1 q2 q3 q4 r0 r1 r2 r3 r4 o0 o1 o2 b4 AB2
        obtain ⟨⟨p0, p1, p2, p3, p4⟩, ⟨q0, q1, q2, q3, q4⟩, ⟨r0, r1, r2, r3, r4⟩, ⟨o0, o1, o2⟩⟩ := F.out w5 b5
        go_wp2_with fail
        refine (BC2.out _).mono ?_
        rintro e w6 ⟨rfl, b6⟩
        have b6 := New.trans b5 b6
        clear p0 p1 p2 p3 p4 q0 q1 q2 q3 q4 r0 r1 r2 r3 r4 o0 o1 o2 b5 BC2
        obtain ⟨⟨p0, p1, p2, p3, p4⟩, ⟨q0, q1, q2, q3, q4⟩, ⟨r0, r1, r2, r3, r4⟩, ⟨o0, o1, o2⟩⟩ := F.out w6 b6
        go_wp2_with fail
        have EQ := fun W => eqlCell (b := na) (b' := nb) (n := ia) (n' := ib) (s := bstr sa) (s' := bstr sb) (x := xa) (x' := xb) (y := ya) (y' := yb) W
        rw [CE2.out] at EQ
        clear p0 p1 p2 p3 p4 q0 q1 q2 q3 q4 r0 r1 r2 r3 r4 o0 o1 o2 AB BA BC AC CE DZ CE2
        have hX := D1.out
        by_cases hz : 0 < Z
        all_goals rcases hX with hX | hX | hX
        all_goals
          subst hX
          refine (BA2.out _).mono ?_
          rintro e w7 ⟨rfl, b7⟩
          have b7 := New.trans b6 b7
          obtain ⟨⟨p0, p1, p2, p3, p4⟩, ⟨q0, q1, q2, q3, q4⟩, ⟨r0, r1, r2, r3, r4⟩, ⟨o0, o1, o2⟩⟩ := F.out w7 b7
          try (have hv : V ≤ 0 := DT.out (by decide) (by omega))
          try (have d2 : decide (V ≤ 0) = true := by simpa using hv)
          try (have d1 : decide (0 < Z) = true := by simpa using hz)
          try (have d1 : decide (0 < Z) = false := by simpa using hz)
          try clear hv
          clear hz
          cases na
          · go_wp2_with (go_at_call 12; refine (AC2.out _).mono ?_; rintro e w8 ⟨rfl, b8⟩; have b8 := New.trans b7 b8; clear p0 p1 p2 p3 p4 q0 q1 q2 q3 q4 r0 r1 r2 r3 r4 o0 o1 o2; obtain ⟨⟨p0, p1, p2, p3, p4⟩, ⟨q0, q1, q2, q3, q4⟩, ⟨r0, r1, r2, r3, r4⟩, ⟨o0, o1, o2⟩⟩ := F.out w8 b8)
            go_ret
            first
              | exact ⟨by simp, New.trans HB.out b8⟩
              | exact ⟨by simp, New.trans HB.out b7⟩
          · first
              | exact absurd (DU.out (by trivial)) (by decide)
              | (go_wp2_with (go_at_call 12; refine (AC2.out _).mono ?_; rintro e w8 ⟨rfl, b8⟩; have b8 := New.trans b7 b8; clear p0 p1 p2 p3 p4 q0 q1 q2 q3 q4 r0 r1 r2 r3 r4 o0 o1 o2; obtain ⟨⟨p0, p1, p2, p3, p4⟩, ⟨q0, q1, q2, q3, q4⟩, ⟨r0, r1, r2, r3, r4⟩, ⟨o0, o1, o2⟩⟩ := F.out w8 b8)
                 go_ret
                 first
                   | exact ⟨by simp, New.trans HB.out b8⟩
                   | exact ⟨by simp, New.trans HB.out b7⟩)

set_option maxRecDepth 100000 in
open Go.WideShapes Go.ChangeShapes in
theorem cellOrder_contract {H : Type} {enc : TypeId × Value → H} (W : World) (base : Nat) (args : Array Value) (ds : List (DataW H)) (ps : List MemPlace)
    (hval : ∀ (j : Nat) t v, Try.f7.params[j]? = some t → args[j]? = some v → Value.okWide Try.prog W .any base t v)
    (hA : DataW.TrodAll enc Try.prog W 0 (fun _ => true) true Try.f7.params.toList args.toList ds ps) (hlt : ∀ p ∈ ps, p.block < W.heap.size)
    (hsz : (DataW.weightsEach Try.prog Try.f7.params.toList ds).all (· ≤ reachBytes) = true) :
    Calls Try.prog 7 args W fun e W' => e = .returned (.bool true) ∧ Below W.heap.size W W' := by
  rw [Try.params7] at hA hval hsz
  obtain ⟨v0, v1, v2, v3, d0, d1, d2, d3, p0, p1, p2, p3, rfl, rfl, rfl, h0, h1, h2, h3⟩ := trodAll_four hA
  -- a: v0 d0 p0 h0, hval 0
  -- b: v1 d1 p1 h1, hval 1
  -- c: v2 d2 p2 h2, hval 2
  -- d: v3 d3 p3 h3, hval 3
  obtain ⟨a, rfl, f1⟩ := open_C (hval 0 _ _ rfl rfl) h0 (fun p hp => hlt p (by simp [hp])) (sized_at hsz (j := 0) rfl rfl)
  obtain ⟨b, rfl, f2⟩ := open_C (hval 1 _ _ rfl rfl) h1 (fun p hp => hlt p (by simp [hp])) (sized_at hsz (j := 1) rfl rfl)
  obtain ⟨c, rfl, f3⟩ := open_C (hval 2 _ _ rfl rfl) h2 (fun p hp => hlt p (by simp [hp])) (sized_at hsz (j := 2) rfl rfl)
  obtain ⟨⟨cn, t, nu⟩, rfl, g1, g2, _⟩ := open_Col (hval 3 _ _ rfl rfl) h3 (fun p hp => hlt p (by simp [hp])) (sized_at hsz (j := 3) rfl rfl)
  exact cellOrder_walk f1.1 f2.1 f3.1

end Go.Proofs.Ytcnaameebbcmhaa
