/- NullsSplits returns true whatever comes in, and leaves all that was there as it was. -/
import Derived.Test.YtgjllfcnbkennaaLaw08
import Derived.Test.YtgjllfcnbkennaaTrod

namespace Go.Hm
open Go Go.RowKit
theorem row_set5y {w : World} {base : Nat} {e : TypeId} {g n c : Nat} {xs : List Value} (h : w.ownsRow base e 5 (.slice (some ⟨g, 0, none⟩) n c) n xs) (m : Nat) (u0 u1 u2 u3 u4 : Value) :
    ∃ W, W = ((((w.setCell ⟨g, m, none⟩ u0).setCell ⟨g, m + 1, none⟩ u1).setCell ⟨g, m + 2, none⟩ u2).setCell ⟨g, m + 3, none⟩ u3).setCell ⟨g, m + 4, none⟩ u4 ∧ w.grownBy W (some g) ∧ ∃ ys, W.ownsRow base e 5 (.slice (some ⟨g, 0, none⟩) n c) n ys := by
  obtain ⟨h0, g0⟩ := h.stored m u0
  obtain ⟨h1, g1⟩ := h0.stored (m + 1) u1
  obtain ⟨h2, g2⟩ := h1.stored (m + 2) u2
  obtain ⟨h3, g3⟩ := h2.stored (m + 3) u3
  obtain ⟨h4, g4⟩ := h3.stored (m + 4) u4
  exact ⟨_, rfl, (((g0.trans g1).trans g2).trans g3).trans g4, _, h4⟩

end Go.Hm

namespace Go.Proofs.Ytgjllfcnbkennaa
open Go.RowKit Go.Hm
theorem JoinPost.u {o : Option (List CellS)} {w w' : World} {e : Ending} (h : JoinPost o w e w') : ∃ A k c, e = .returned (.tuple #[.slice A k c, .bool o.isSome]) ∧ Reads w' w'.heap.size 5 A k (recs cellV (o.getD [])) ∧ New w w' := by
  cases o with
  | none => exact ⟨none, 0, 0, h.1, Reads.none_, h.2⟩
  | some x =>
    obtain ⟨A, c, h1, h2, h3⟩ := h
    exact ⟨A, x.length, c, h1, Reads.of_own h2, h3⟩
theorem join_bytes {U : Option (List Nat)} {r : List CellS} (hr : ∀ x ∈ r, ∀ z ∈ x.2.2.1, z < 256) : ∀ x ∈ (joinO U r).getD [], ∀ z ∈ x.2.2.1, z < 256 := by
  have key : ∀ (m : List Nat) (r x : List CellS), (∀ y ∈ r, ∀ z ∈ y.2.2.1, z < 256) → joinL m r = some x → ∀ y ∈ x, ∀ z ∈ y.2.2.1, z < 256 := by
    intro m
    induction m with
    | nil => intro r x _ h; simp [joinL] at h; subst h; simp
    | cons y m ih =>
      intro r x hr h
      rw [joinL_cons] at h
      split at h
      · cases hj : joinL m r with
        | none => rw [hj] at h; cases h
        | some x' =>
          rw [hj] at h; simp at h; subst h
          intro y hy
          rcases List.mem_cons.1 hy with rfl | hy
          · simp [nullC]
          · exact ih r x' hr hj y hy
      · cases r with
        | nil => cases h
        | cons c r =>
          simp only at h
          split at h
          · cases h
          · cases hj : joinL m r with
            | none => rw [hj] at h; cases h
            | some x' =>
              rw [hj] at h; simp at h; subst h
              intro y hy
              rcases List.mem_cons.1 hy with rfl | hy
              · exact hr _ (by simp)
              · exact ih r x' (fun z hz => hr z (by simp [hz])) hj y hy
  cases U with
  | none => intro x hx; cases hx
  | some m =>
    unfold joinO
    simp only
    split
    · cases hj : joinL m r with
      | none => simp
      | some x => exact key m r x hr hj
    · simp
theorem join_few {b : List Nat} {n : Int} {r : List CellS} (h8 : ∀ x ∈ b, x < 256) : ((joinO (unpackO b 1 n) r).getD []).length ≤ 65536 := by
  cases hU : unpackO b 1 n with
  | none => simp [joinO]
  | some m =>
    obtain ⟨_, _, _, q4⟩ := unpack1 h8 hU
    unfold joinO
    simp only
    split
    · cases hj : joinL m r with
      | none => simp
      | some x => have := joinL_len hj; simp; omega
    · simp
/-- What holds while the first answer's cells are turned. -/
structure SplInv (w wr : World) (B1 B2 : Nat) (Aa : Option Addr) (na ca : Nat) (Ab : Option Addr) (nb cb : Nat) (Ac : Option Addr) (nc cc : Nat) (Ad : Option Addr) (nd cd : Nat) (l : List CellS) : Prop where
  new : New w wr
  a : Own wr B1 5 (.slice Aa na ca) (nums .u8 (splitB l))
  b : ∃ xs, wr.ownsRow B1 34 5 (.slice Ab nb cb) nb xs
  c : Own wr B2 5 (.slice Ac nc cc) (nums .u8 (splitB l))
  d : wr.ownsRow B2 34 5 (.slice Ad nd cd) nd (recs cellV (valsN l))
theorem SplInv.later {w wr wr' : World} {B1 B2 : Nat} {Aa : Option Addr} {na ca : Nat} {Ab : Option Addr} {nb cb : Nat} {Ac : Option Addr} {nc cc : Nat} {Ad : Option Addr} {nd cd : Nat} {l : List CellS} (h : SplInv w wr B1 B2 Aa na ca Ab nb cb Ac nc cc Ad nd cd l) (hb : New wr wr') : SplInv w wr' B1 B2 Aa na ca Ab nb cb Ac nc cc Ad nd cd l := by
  obtain ⟨xs, hx⟩ := h.b
  exact ⟨New.trans h.new hb, h.a.later hb, ⟨xs, row_later hx hb⟩, h.c.later hb, row_later h.d hb⟩
set_option maxHeartbeats 4000000 in
set_option maxRecDepth 100000 in
theorem nullsSplits_walk {w : World} {A : Option Addr} {n c : Nat} {l : List CellS} {Ap : Option Addr} {mm cp : Nat} {b : List Nat} {p : Int} (h : Reads w w.heap.size 5 A n (recs cellV l)) (hL : ∀ y ∈ l, CellFine y) (hn : n ≤ 2932031007317)
    (hb : Reads w w.heap.size 1 Ap mm (nums .u8 b)) (h8 : ∀ x ∈ b, x < 256) (hm : mm ≤ 9223372036854775807) (hp0 : -9223372036854775808 ≤ p) (hp : p ≤ 9223372036854775807) :
    Calls Try.prog 3 #[.slice A n c, .slice Ap mm cp, .int .i64 p] w (SmallPost w) := by
  obtain rfl := h.lenCell
  have F1 := Lib.hid (fun (W : World) (hW : New w W) => few08_any (c := c) (Reads.later h hW) hL (by omega))
  have RL := Lib.hid (fun (W : World) (hW : New w W) => Reads.later h hW)
  have RB := Lib.hid (fun (W : World) (hW : New w W) => Reads.later hb hW)
  have C1 := Lib.hid (fun (W : World) (hW : New w W) => count_any (c := cp) (RB.out W hW) h8 hm hp0 hp)
  have C2 := Lib.hid (fun (W : World) (hW : New w W) => rcount_any (c := cp) (RB.out W hW) h8 hm hp0 hp)
  have J1 := Lib.hid (fun (W : World) (hW : New w W) => join_any (c := cp) (c2 := c) (RB.out W hW) h8 hm hp0 hp (RL.out W hW) (by omega))
  have J2 := Lib.hid (fun (W : World) (hW : New w W) => rjoin_any (c := cp) (c2 := c) (RB.out W hW) h8 hm hp0 hp (RL.out W hW) (by omega))
  have HB := Lib.hid (join_bytes (U := unpackO b 1 p) (r := l) (fun x hx => (hL x hx).1.2))
  have hJL : ((joinO (unpackO b 1 p) l).getD []).length ≤ 65536 := join_few h8
  have HV := Lib.hid (fun (x : CellS) (hx : x ∈ valsN l) => show ∀ z ∈ x.2.2.1, z < 256 from (hL x (List.mem_filter.1 hx).1).1.2)
  clear h hb
  generalize joinO (unpackO b 1 p) l = J at *
  generalize cntN (unpackO b 1 p) = CN at *
  go_enter Try.func3, Try.ntmps3
  go_wp2_with fail
  refine (small08_any w).mono ?_
  rintro e w1 ⟨rfl, b1⟩
  go_wp2_with fail
  refine (F1.out w1 b1).mono ?_
  rintro e w1' ⟨bb, rfl, hf, rfl⟩
  cases bb with
  | false =>
    go_wp2
    go_ret
    exact ⟨rfl, b1⟩
  | true =>
    have hl3 := hf rfl
    clear hf F1
    by_cases g1 : 100 < mm
    · have t1 : decide (100 < (mm : Int)) = true := by simp; omega
      go_wp2
      go_ret
      exact ⟨rfl, b1⟩
    have t1 : decide (100 < (mm : Int)) = false := by simp; omega
    by_cases g2 : 900 < p
    · have t2 : decide (900 < p) = true := by simpa using g2
      go_wp2
      go_ret
      exact ⟨rfl, b1⟩
    have t2 : decide (900 < p) = false := by simpa using g2
    have P1 := Lib.hid (split_any (c := c) (RL.out w1 b1) (by omega))
    go_wp2_with fail
    refine P1.out.mono ?_
    rintro e w2 ⟨Aa, na, ca, Ab, nb, cb, rfl, oa, ub, b2⟩
    obtain rfl : nb = (valsN l).length := (Reads.of_own ub).lenCell
    have b02 := New.trans b1 b2
    have P2 := Lib.hid (rsplit_any (c := c) (RL.out w2 b02) (by omega))
    clear P1 t1 t2
    go_wp2_with fail
    refine P2.out.mono ?_
    rintro e w3 ⟨Ac, nc, cc, Ad, nd, cd, rfl, oc, ud, b3⟩
    obtain rfl : nd = (valsN l).length := (Reads.of_own ud).lenCell
    have b03 := New.trans b02 b3
    have I3 : SplInv w w3 w1.heap.size w2.heap.size Aa na ca Ab (valsN l).length cb Ac nc cc Ad (valsN l).length cd l := ⟨b03, oa.later b3, ⟨_, row_later ub b3⟩, oc, ud⟩
    have hlow : ∀ g, Value.ownBlock (.slice Ab (valsN l).length cb) = some g → g < w2.heap.size := fun g e => (World.ownsRow.lt ub _ e).2
    have HLW := Lib.hid hlow
    have hB1 : w.heap.size ≤ w1.heap.size := b1.size
    have SB := Lib.hid (fun (W : World) (hW : New w3 W) => Reads.later (Reads.of_own ub) (New.trans b3 hW))
    have P3 := Lib.hid (J1.out w3 b03)
    clear P2 hlow oa ub oc ud b1 b2 b02 J1
    go_wp2_with fail
    refine P3.out.mono ?_
    intro e w4 hh
    obtain ⟨Ax, kx, cx, rfl, rx, b4⟩ := hh.u
    clear hh P3
    have b04 := New.trans b03 b4
    have P4 := Lib.hid (J2.out w4 b04)
    clear J2
    go_wp2_with fail
    refine P4.out.mono ?_
    intro e w5 hh
    obtain ⟨Ay, ky, cy, rfl, ry, b5⟩ := hh.u
    clear hh P4
    have b05 := New.trans b04 b5
    have b35 := New.trans b4 b5
    have I5 := I3.later b35
    have rx5 := Reads.later rx b5
    have hvl := vals_len l
    have P5 := rcells_any (c := cb) (c2 := cd) (SB.out w5 b35) (Reads.of_own I5.d) (by omega) (by omega) HV.out HV.out
    rw [decide_eq_true rfl] at P5
    have P5 := Lib.hid P5
    have PX := Lib.hid (fun (q : Nat) => rcells_any (w := w5.drewN q) (c := cx) (c2 := cy) (rx5.drewN q) (ry.drewN q))
    have hkx := rx5.lenCell
    have hky := ry.lenCell
    subst hkx hky
    clear rx rx5 ry I3 SB
    go_wp2_with fail
    refine P5.out.mono ?_
    rintro e w6 ⟨rfl, q, rfl⟩
    have P6 := PX.out q (by omega) (by omega) HB.out HB.out
    simp only [decide_true] at P6
    have P6 := Lib.hid P6
    clear P5 PX
    go_wp2_with fail
    refine P6.out.mono ?_
    rintro e w7 ⟨rfl, q2, rfl⟩
    have I7 := I5.later (New.trans (new_drewN w5 q) (new_drewN _ q2))
    clear I5 P6 HB b3 b03 b4 b04 b5 b05 b35
    generalize J.isSome = js at *
    go_wp2
    go_loopw [18] (fun i wr => ∃ k : Nat, i = .int .i64 (k : Int) ∧ k ≤ (valsN l).length ∧ SplInv w wr w1.heap.size w2.heap.size Aa na ca Ab (valsN l).length cb Ac nc cc Ad (valsN l).length cd l) (fun i _ => (valsN l).length - (intOf i).toNat)
    case atStart => exact ⟨0, rfl, by omega, by first | exact I7 | (rw [drewN_add] at I7; exact I7)⟩
    case round =>
      clear I7
      obtain ⟨k, rfl, hk, I⟩ := hrel
      by_cases hlt : k < (valsN l).length
      · obtain ⟨xs, hr⟩ := I.b
        obtain ⟨g, cap, hv, hbg, hgl⟩ := World.ownsRow.form hr (by omega)
        injection hv with e1 _ e2
        subst e1 e2
        have hg2 := HLW.out g rfl
        have hxl := hr.1
        have f0 := hr.frozenAt (k * 5)
        have f1 := hr.frozenAt (k * 5 + 1)
        have f2 := hr.frozenAt (k * 5 + 2)
        have f3 := hr.frozenAt (k * 5 + 3)
        have f4 := hr.frozenAt (k * 5 + 4)
        obtain ⟨u0, e0⟩ : ∃ u, wr.cell? ⟨g, k * 5, none⟩ = some u := ⟨_, (hr.cellAt (k * 5) (by omega)).trans (List.getElem?_eq_getElem (by omega))⟩
        obtain ⟨u1, e1⟩ : ∃ u, wr.cell? ⟨g, k * 5 + 1, none⟩ = some u := ⟨_, (hr.cellAt (k * 5 + 1) (by omega)).trans (List.getElem?_eq_getElem (by omega))⟩
        obtain ⟨u2, e2⟩ : ∃ u, wr.cell? ⟨g, k * 5 + 2, none⟩ = some u := ⟨_, (hr.cellAt (k * 5 + 2) (by omega)).trans (List.getElem?_eq_getElem (by omega))⟩
        obtain ⟨u3, e3⟩ : ∃ u, wr.cell? ⟨g, k * 5 + 3, none⟩ = some u := ⟨_, (hr.cellAt (k * 5 + 3) (by omega)).trans (List.getElem?_eq_getElem (by omega))⟩
        obtain ⟨u4, e4⟩ : ∃ u, wr.cell? ⟨g, k * 5 + 4, none⟩ = some u := ⟨_, (hr.cellAt (k * 5 + 4) (by omega)).trans (List.getElem?_eq_getElem (by omega))⟩
        obtain ⟨W8, hW8, g8, s8⟩ := row_set5y hr (k * 5) (.bool false) (.int .i64 (-7)) (.string ⟨#[]⟩) (.int .i64 0) (.int .i64 0)
        obtain ⟨cs, G⟩ := row_blk hr
        have I8 : SplInv w W8 w1.heap.size w2.heap.size Aa na ca (some ⟨g, 0, none⟩) (valsN l).length cb Ac nc cc Ad (valsN l).length cd l :=
          ⟨I.new.grown g8 I.new.size (fun k hk => by injection hk with hk; omega), I.a.keepT g8 G (by decide), s8, I.c.keepT g8 G (by decide), World.ownsRow.kept I.d g8 (.inr (fun e => by have := (World.ownsRow.lt I.d _ e).1; omega))⟩
        have HW8 := Lib.hid hW8
        have i2 : (k : Int) < ((valsN l).length : Int) := by omega
        clear hW8 g8 s8 hr I hg2 hxl G
        go_wp2
        rw [← HW8.out]
        clear HW8 f0 f1 f2 f3 f4 e0 e1 e2 e3 e4
        go_roundw
        case rel => exact ⟨k + 1, by go_num, by omega, I8⟩
        case measure => simp [intOf]; omega
      · obtain rfl : k = (valsN l).length := by omega
        have P7 := Lib.hid (split_any (c := c) (RL.out wr I.new) (by omega))
        clear hlt
        go_wp2_with fail
        refine P7.out.mono ?_
        rintro e w8 ⟨Ae, ne, ce, Af, nf, cf, rfl, oe, uf, b8⟩
        obtain rfl : nf = (valsN l).length := (Reads.of_own uf).lenCell
        have I8 := I.later b8
        have X1 := run_strB (c := ca) I8.a.reads
        have X2 := run_strB (c := cc) I8.c.reads
        have P8 := Lib.hid (C1.out w8 I8.new)
        clear P7 I
        go_wp2_with fail
        refine P8.out.mono ?_
        rintro e w9 ⟨rfl, b9⟩
        have I9 := I8.later b9
        have P9 := Lib.hid (C2.out w9 I9.new)
        clear P8 X1 X2
        go_wp2_with fail
        refine P9.out.mono ?_
        rintro e w10 ⟨rfl, b10⟩
        have I10 := I9.later b10
        have X1 := run_strB (c := ce) (Reads.later oe.reads (New.trans b9 b10))
        have X2 := run_strB (c := cc) I10.c.reads
        have P10 := rcells_any (c := cf) (c2 := cd) (Reads.later (Reads.of_own uf) (New.trans b9 b10)) (Reads.of_own I10.d) (by omega) (by omega) HV.out HV.out
        rw [decide_eq_true rfl] at P10
        have P10 := Lib.hid P10
        clear P9 oe uf I8 I9
        go_wp2_with fail
        refine P10.out.mono ?_
        rintro e w11 ⟨rfl, q3, rfl⟩
        clear X1 X2
        go_wp2
        go_ret
        exact ⟨by simp, New.trans I10.new (new_drewN _ _)⟩

set_option maxRecDepth 100000 in
open Go.WideShapes Go.ChangeShapes in
theorem nullsSplits_contract {H : Type} {enc : TypeId × Value → H} (W : World) (base : Nat) (args : Array Value) (ds : List (DataW H)) (ps : List MemPlace)
    (hval : ∀ (j : Nat) t v, Try.f3.params[j]? = some t → args[j]? = some v → Value.okWide Try.prog W .any base t v)
    (hA : DataW.TrodAll enc Try.prog W 0 (fun _ => true) true Try.f3.params.toList args.toList ds ps) (hlt : ∀ p ∈ ps, p.block < W.heap.size)
    (hsz : (DataW.weightsEach Try.prog Try.f3.params.toList ds).all (· ≤ reachBytes) = true) :
    Calls Try.prog 3 args W fun e W' => e = .returned (.bool true) ∧ Below W.heap.size W W' := by
  rw [Try.params3] at hA hval hsz
  obtain ⟨v0, v1, v2, d0, d1, d2, p0, p1, p2, rfl, rfl, rfl, h0, h1, h2⟩ := trodAll_three hA
  -- l: v0 d0 p0 h0, hval 0
  obtain ⟨A_b, c_b, b, rfl, hc_b, hm_b, hr_b, hl_b⟩ := open_B (hval 1 _ _ rfl rfl) h1 (fun p hp => hlt p (by simp [hp])) (sized_at hsz (j := 1) rfl rfl)
  obtain ⟨p, rfl, wp, wp'⟩ := open_i64 (hval 2 _ _ rfl rfl) h2
  obtain ⟨A1, c1, l, rfl, hr, hf, hc1, hl1⟩ := open_Cells (hval 0 _ _ rfl rfl) h0 (fun p hp => hlt p (by simp [hp])) (sized_at hsz (j := 0) rfl rfl)
  exact nullsSplits_walk hr hf hl1 hr_b hl_b (by omega) (by omega) (by omega)

end Go.Proofs.Ytgjllfcnbkennaa
