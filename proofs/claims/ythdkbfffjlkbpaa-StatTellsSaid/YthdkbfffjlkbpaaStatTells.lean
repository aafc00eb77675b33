/- StatTells returns true whatever comes in, and leaves all that was there as it was. -/
import Derived.Test.YthdkbfffjlkbpaaBun6

namespace Go.Proofs.Ythdkbfffjlkbpaa
open Go.RowKit Go.Hm

set_option maxHeartbeats 4000000 in
set_option maxRecDepth 100000 in
theorem statTells_walk {w : World} {t : Int} {A A' : Option Addr} {c c' : Nat} {L K : List CellS} (h : Reads w w.heap.size 5 A L.length (recs cellV L)) (k : Reads w w.heap.size 5 A' K.length (recs cellV K)) (hL : ∀ y ∈ L, CellFine y) (hK : ∀ y ∈ K, CellFine y) (hl : L.length ≤ 2932031007317) (hk : K.length ≤ 2932031007317) :
    Calls Try.prog 3 #[.int .i64 t, .slice A L.length c, .slice A' K.length c'] w (SmallPost w) := by
  have FW := Lib.hid (fun (W : World) (hW : New w W) => fewP_any (c := c) (Reads.later h hW) (fun y hy => (hL y hy).1.1) (by omega))
  have CW := Lib.hid (fun (W : World) (hW : New w W) => cells_any (t := t) (c := c) (Reads.later h hW) (fun y hy => (hL y hy).1.1) (by omega))
  have FK := Lib.hid (fun (W : World) (hW : New w W) => fewP_any (c := c') (Reads.later k hW) (fun y hy => (hK y hy).1.1) (by omega))
  have CK := Lib.hid (fun (W : World) (hW : New w W) => cells_any (t := t) (c := c') (Reads.later k hW) (fun y hy => (hK y hy).1.1) (by omega))
  have HR := Lib.hid h
  have HL := Lib.hid hL
  have KR := Lib.hid k
  have KL := Lib.hid hK
  clear h hL k hK
  go_enter Try.func3, Try.ntmps3
  go_wp2_with fail
  refine (small15_any w).mono ?_
  rintro e w1 ⟨rfl, b1⟩
  go_wp2_with fail
  refine (FW.out _ b1).mono ?_
  rintro e w2 ⟨b, rfl, hb, rfl⟩
  cases b with
  | false =>
    go_wp2_with fail
    refine (FK.out _ b1).mono ?_
    rintro e w3 ⟨d, rfl, hd, rfl⟩
    cases d with
    | false =>
      go_wp2_with fail
      go_ret
      exact ⟨rfl, b1⟩
    | true =>
      go_wp2_with fail
      refine (CK.out _ b1).mono ?_
      rintro e w3 ⟨rfl, b3⟩
      go_wp2_with fail
      go_ret
      exact ⟨rfl, New.trans b1 b3⟩
  | true =>
    have h300 := hb rfl
    clear hb
    go_wp2_with fail
    refine (CW.out _ b1).mono ?_
    rintro e w2 ⟨rfl, b2⟩
    have b02 := New.trans b1 b2
    clear b1 b2
    cases hq : cellsB t L with
    | false =>
      go_wp2_with fail
      refine (FK.out _ b02).mono ?_
      rintro e w3 ⟨d, rfl, hd, rfl⟩
      cases d with
      | false =>
        go_wp2_with fail
        go_ret
        exact ⟨rfl, b02⟩
      | true =>
        go_wp2_with fail
        refine (CK.out _ b02).mono ?_
        rintro e w3 ⟨rfl, b3⟩
        go_wp2_with fail
        go_ret
        exact ⟨rfl, New.trans b02 b3⟩
    | true =>
      have HQ := Lib.hid hq
      clear hq
      go_wp2_with fail
      refine (FK.out _ b02).mono ?_
      rintro e w3 ⟨d, rfl, hd, rfl⟩
      cases d with
      | false =>
        go_wp2_with fail
        go_ret
        exact ⟨rfl, b02⟩
      | true =>
        have h300k := hd rfl
        clear hd
        go_wp2_with fail
        refine (CK.out _ b02).mono ?_
        rintro e w3 ⟨rfl, b3⟩
        have b0 := New.trans b02 b3
        clear b02 b3 FW CW FK CK
        cases hqk : cellsB t K with
        | false =>
          go_wp2_with fail
          go_ret
          exact ⟨rfl, b0⟩
        | true =>
          have HQK := Lib.hid hqk
          clear hqk
          have nL := fineNear HQ.out
          have nK := fineNear HQK.out
          have O1 := of_any (t := t) (c := c) (Reads.later HR.out b0) nL (by omega)
          go_wp2_with fail
          refine O1.mono ?_
          rintro e w4 ⟨s1, rfl, i1, b4⟩
          have R1 : Hid (∀ W, New w W → Calls Try.prog 13 #[.int .i64 t, .slice A L.length c] W (NewPost (statA s1) W)) := Lib.hid fun W hW => (rof_any (t := t) (c := c) (Reads.later HR.out hW) nL (by omega)).mono (by
            rintro e w' ⟨s, rfl, is, b⟩
            rw [IsStat.uniq (cellsB_iff.1 HQ.out).1 (fun y hy => (HL.out y hy).1.2) is i1]
            exact ⟨rfl, b⟩)
          have n1 := i1.near nL
          have f1 := i1.few h300
          have hz1 := i1.none
          have b04 := New.trans b0 b4
          have O2 := fun (W : World) (hW : New w W) => of_any (t := t) (c := c') (Reads.later KR.out hW) nK (by omega)
          have I1 := Lib.hid i1
          clear i1 b4 O1
          obtain ⟨pn, ph, ⟨pa, pb, pc, pd, pe⟩, ⟨pf, pg, pi, pj, pk⟩⟩ := s1
          rw [show statA _ = .agg #[.int .i64 pn, .bool ph, .bool pa, .int .i64 pb, .string (bstr pc), .int .i64 pd, .int .i64 pe, .bool pf, .int .i64 pg, .string (bstr pi), .int .i64 pj, .int .i64 pk] from rfl]
          have al : New w4 (w4.alloc (.cells #[.int .i64 pn, .bool ph, .bool pa, .int .i64 pb, .string (bstr pc), .int .i64 pd, .int .i64 pe, .bool pf, .int .i64 pg, .string (bstr pi), .int .i64 pj, .int .i64 pk] 31)) := (Below.refl _ _).alloc (Nat.le_refl _) _
          have b05 := New.trans b04 al
          have B1 := Blk.new w4 31 #[.int .i64 pn, .bool ph, .bool pa, .int .i64 pb, .string (bstr pc), .int .i64 pd, .int .i64 pe, .bool pf, .int .i64 pg, .string (bstr pi), .int .i64 pj, .int .i64 pk]
          have O2 := O2 _ b05
          go_wp2_with fail
          refine O2.mono ?_
          rintro e w6 ⟨s2, rfl, i2, b6⟩
          have R2 : Hid (∀ W, New w W → Calls Try.prog 13 #[.int .i64 t, .slice A' K.length c'] W (NewPost (statA s2) W)) := Lib.hid fun W hW => (rof_any (t := t) (c := c') (Reads.later KR.out hW) nK (by omega)).mono (by
            rintro e w' ⟨s, rfl, is, b⟩
            rw [IsStat.uniq (cellsB_iff.1 HQK.out).1 (fun y hy => (KL.out y hy).1.2) is i2]
            exact ⟨rfl, b⟩)
          have n2 := i2.near nK
          have f2 := i2.few h300k
          have M1 := fun (W : World) => merge_any (w := W) (t := t) (a := (pn, ph, (pa, pb, pc, pd, pe), (pf, pg, pi, pj, pk))) (b := s2) n1.1 n1.2 n2.1 n2.2 f1 f2
          have M2 := fun (W : World) => rmerge_any (w := W) (t := t) (a := (pn, ph, (pa, pb, pc, pd, pe), (pf, pg, pi, pj, pk))) (b := s2) hz1 n1.1 n1.2 n2.1 n2.2 f1 f2
          generalize mergeS t (pn, ph, (pa, pb, pc, pd, pe), (pf, pg, pi, pj, pk)) s2 = M at *
          obtain ⟨qn, qh, ⟨qa, qb, qc, qd, qe⟩, ⟨qf, qg, qi, qj, qk⟩⟩ := s2
          obtain ⟨rn, rh, ⟨ra, rb, rc, rd, re⟩, ⟨rf, rg, ri, rj, rk⟩⟩ := M
          rw [show statA _ = .agg #[.int .i64 qn, .bool qh, .bool qa, .int .i64 qb, .string (bstr qc), .int .i64 qd, .int .i64 qe, .bool qf, .int .i64 qg, .string (bstr qi), .int .i64 qj, .int .i64 qk] from rfl]
          have M1 : Hid (∀ W, Calls Try.prog 14 #[.int .i64 t, .agg #[.int .i64 pn, .bool ph, .bool pa, .int .i64 pb, .string (bstr pc), .int .i64 pd, .int .i64 pe, .bool pf, .int .i64 pg, .string (bstr pi), .int .i64 pj, .int .i64 pk], .agg #[.int .i64 qn, .bool qh, .bool qa, .int .i64 qb, .string (bstr qc), .int .i64 qd, .int .i64 qe, .bool qf, .int .i64 qg, .string (bstr qi), .int .i64 qj, .int .i64 qk]] W (NewPost (.agg #[.int .i64 rn, .bool rh, .bool ra, .int .i64 rb, .string (bstr rc), .int .i64 rd, .int .i64 re, .bool rf, .int .i64 rg, .string (bstr ri), .int .i64 rj, .int .i64 rk]) W)) := Lib.hid M1
          have M2 : Hid (∀ W, Calls Try.prog 15 #[.int .i64 t, .agg #[.int .i64 pn, .bool ph, .bool pa, .int .i64 pb, .string (bstr pc), .int .i64 pd, .int .i64 pe, .bool pf, .int .i64 pg, .string (bstr pi), .int .i64 pj, .int .i64 pk], .agg #[.int .i64 qn, .bool qh, .bool qa, .int .i64 qb, .string (bstr qc), .int .i64 qd, .int .i64 qe, .bool qf, .int .i64 qg, .string (bstr qi), .int .i64 qj, .int .i64 qk]] W (NewPost (.agg #[.int .i64 rn, .bool rh, .bool ra, .int .i64 rb, .string (bstr rc), .int .i64 rd, .int .i64 re, .bool rf, .int .i64 rg, .string (bstr ri), .int .i64 rj, .int .i64 rk]) W)) := Lib.hid M2
          have R1 : Hid (∀ W, New w W → Calls Try.prog 13 #[.int .i64 t, .slice A L.length c] W (NewPost (.agg #[.int .i64 pn, .bool ph, .bool pa, .int .i64 pb, .string (bstr pc), .int .i64 pd, .int .i64 pe, .bool pf, .int .i64 pg, .string (bstr pi), .int .i64 pj, .int .i64 pk]) W)) := R1
          have R2 : Hid (∀ W, New w W → Calls Try.prog 13 #[.int .i64 t, .slice A' K.length c'] W (NewPost (.agg #[.int .i64 qn, .bool qh, .bool qa, .int .i64 qb, .string (bstr qc), .int .i64 qd, .int .i64 qe, .bool qf, .int .i64 qg, .string (bstr qi), .int .i64 qj, .int .i64 qk]) W)) := R2
          have al2 : New w6 (w6.alloc (.cells #[.int .i64 qn, .bool qh, .bool qa, .int .i64 qb, .string (bstr qc), .int .i64 qd, .int .i64 qe, .bool qf, .int .i64 qg, .string (bstr qi), .int .i64 qj, .int .i64 qk] 31)) := (Below.refl _ _).alloc (Nat.le_refl _) _
          have b07 := New.trans (New.trans b05 b6) al2
          have B1 := (B1.below b6 (by simp)).alloc (.cells #[.int .i64 qn, .bool qh, .bool qa, .int .i64 qb, .string (bstr qc), .int .i64 qd, .int .i64 qe, .bool qf, .int .i64 qg, .string (bstr qi), .int .i64 qj, .int .i64 qk] 31)
          have B2 := Blk.new w6 31 #[.int .i64 qn, .bool qh, .bool qa, .int .i64 qb, .string (bstr qc), .int .i64 qd, .int .i64 qe, .bool qf, .int .i64 qg, .string (bstr qi), .int .i64 qj, .int .i64 qk]
          have F : Hid (∀ W, New (w6.alloc (.cells #[.int .i64 qn, .bool qh, .bool qa, .int .i64 qb, .string (bstr qc), .int .i64 qd, .int .i64 qe, .bool qf, .int .i64 qg, .string (bstr qi), .int .i64 qj, .int .i64 qk] 31)) W → Blk W w4.heap.size 31 #[.int .i64 pn, .bool ph, .bool pa, .int .i64 pb, .string (bstr pc), .int .i64 pd, .int .i64 pe, .bool pf, .int .i64 pg, .string (bstr pi), .int .i64 pj, .int .i64 pk] ∧ Blk W w6.heap.size 31 #[.int .i64 qn, .bool qh, .bool qa, .int .i64 qb, .string (bstr qc), .int .i64 qd, .int .i64 qe, .bool qf, .int .i64 qg, .string (bstr qi), .int .i64 qj, .int .i64 qk]) := Lib.hid fun W hN => ⟨B1.below hN B1.lt, B2.below hN B2.lt⟩
          have EP : ∀ W, (binOp .eql 31 (.agg #[.int .i64 pn, .bool ph, .bool pa, .int .i64 pb, .string (bstr pc), .int .i64 pd, .int .i64 pe, .bool pf, .int .i64 pg, .string (bstr pi), .int .i64 pj, .int .i64 pk]) (.agg #[.int .i64 pn, .bool ph, .bool pa, .int .i64 pb, .string (bstr pc), .int .i64 pd, .int .i64 pe, .bool pf, .int .i64 pg, .string (bstr pi), .int .i64 pj, .int .i64 pk])).run Try.prog W = .ok (.bool true) W := fun W => eqS_self (pn, ph, (pa, pb, pc, pd, pe), (pf, pg, pi, pj, pk)) W
          have EQ : ∀ W, (binOp .eql 31 (.agg #[.int .i64 qn, .bool qh, .bool qa, .int .i64 qb, .string (bstr qc), .int .i64 qd, .int .i64 qe, .bool qf, .int .i64 qg, .string (bstr qi), .int .i64 qj, .int .i64 qk]) (.agg #[.int .i64 qn, .bool qh, .bool qa, .int .i64 qb, .string (bstr qc), .int .i64 qd, .int .i64 qe, .bool qf, .int .i64 qg, .string (bstr qi), .int .i64 qj, .int .i64 qk])).run Try.prog W = .ok (.bool true) W := fun W => eqS_self (qn, qh, (qa, qb, qc, qd, qe), (qf, qg, qi, qj, qk)) W
          have ER : ∀ W, (binOp .eql 31 (.agg #[.int .i64 rn, .bool rh, .bool ra, .int .i64 rb, .string (bstr rc), .int .i64 rd, .int .i64 re, .bool rf, .int .i64 rg, .string (bstr ri), .int .i64 rj, .int .i64 rk]) (.agg #[.int .i64 rn, .bool rh, .bool ra, .int .i64 rb, .string (bstr rc), .int .i64 rd, .int .i64 re, .bool rf, .int .i64 rg, .string (bstr ri), .int .i64 rj, .int .i64 rk])).run Try.prog W = .ok (.bool true) W := fun W => eqS_self (rn, rh, (ra, rb, rc, rd, re), (rf, rg, ri, rj, rk)) W
          clear B1 B2 n1 n2 f1 f2 hz1 i2 I1 O2 nL nK al al2 b6 b04 b05
          go_wp2_with fail
          refine wp_region_up New [(true, 0), (true, 1), (true, 2), (true, 3), (true, 4), (false, 5), (true, 6), (true, 7), (true, 8), (true, 9), (true, 10), (true, 11), (false, 12), (true, 13), (true, 14), (true, 15), (true, 16), (true, 17), (true, 18), (true, 20), (true, 21), (true, 22), (false, 19), (false, 23), (true, 24), (true, 25), (true, 26)]
            New.refl New.trans (by kernel_rfl) (by kernel_rfl) (by kernel_rfl) (by kernel_rfl) ?_
          have hU := New.drew (w6.alloc (.cells #[.int .i64 qn, .bool qh, .bool qa, .int .i64 qb, .string (bstr qc), .int .i64 qd, .int .i64 qe, .bool qf, .int .i64 qg, .string (bstr qi), .int .i64 qj, .int .i64 qk] 31))
          repeat (first
            | (refine up_skip rfl rfl ?_; simp only [Act.put, List.setIfInBounds_toArray, List.set_cons_zero, List.set_cons_succ])
            | (refine up_quiet rfl rfl (v := ?_) (fun W hQ => ?_) ?_; rotate_left; (obtain ⟨B1, B2⟩ := F.out W (New.trans hU hQ); obtain ⟨x0, x1, x2, x3, x4, x5, x6, x7, x8, x9, x10, x11⟩ := cells12 B1; obtain ⟨y0, y1, y2, y3, y4, y5, y6, y7, y8, y9, y10, y11⟩ := cells12 B2; clear B1 B2; go_simp <;> with_reducible rfl); simp only [Act.put, List.setIfInBounds_toArray, List.set_cons_zero, List.set_cons_succ]))
          refine up_call rfl rfl (fun K0 hK0 => ?_)
          go_simp
          (with_reducible refine (R1.out _ (New.trans b07 hU)).mono ?_)
          rintro e u ⟨rfl, b⟩
          refine hK0 _ _ b ?_
          replace hU := New.trans hU b
          clear hK0 b
          repeat (first
            | (refine up_skip rfl rfl ?_; simp only [Act.put, List.setIfInBounds_toArray, List.set_cons_zero, List.set_cons_succ])
            | (refine up_quiet rfl rfl (v := ?_) (fun W hQ => ?_) ?_; rotate_left; (obtain ⟨B1, B2⟩ := F.out W (New.trans hU hQ); obtain ⟨x0, x1, x2, x3, x4, x5, x6, x7, x8, x9, x10, x11⟩ := cells12 B1; obtain ⟨y0, y1, y2, y3, y4, y5, y6, y7, y8, y9, y10, y11⟩ := cells12 B2; clear B1 B2; go_simp <;> with_reducible rfl); simp only [Act.put, List.setIfInBounds_toArray, List.set_cons_zero, List.set_cons_succ]))
          refine up_call rfl rfl (fun K0 hK0 => ?_)
          go_simp
          (with_reducible refine (R2.out _ (New.trans b07 hU)).mono ?_)
          rintro e u ⟨rfl, b⟩
          refine hK0 _ _ b ?_
          replace hU := New.trans hU b
          clear hK0 b
          repeat (first
            | (refine up_skip rfl rfl ?_; simp only [Act.put, List.setIfInBounds_toArray, List.set_cons_zero, List.set_cons_succ])
            | (refine up_quiet rfl rfl (v := ?_) (fun W hQ => ?_) ?_; rotate_left; (obtain ⟨B1, B2⟩ := F.out W (New.trans hU hQ); obtain ⟨x0, x1, x2, x3, x4, x5, x6, x7, x8, x9, x10, x11⟩ := cells12 B1; obtain ⟨y0, y1, y2, y3, y4, y5, y6, y7, y8, y9, y10, y11⟩ := cells12 B2; clear B1 B2; go_simp <;> with_reducible rfl); simp only [Act.put, List.setIfInBounds_toArray, List.set_cons_zero, List.set_cons_succ]))
          refine up_call rfl rfl (fun K0 hK0 => ?_)
          go_simp
          (with_reducible refine (M1.out _).mono ?_)
          rintro e u ⟨rfl, b⟩
          refine hK0 _ _ b ?_
          replace hU := New.trans hU b
          clear hK0 b
          refine up_call rfl rfl (fun K0 hK0 => ?_)
          go_simp
          (with_reducible refine (M2.out _).mono ?_)
          rintro e u ⟨rfl, b⟩
          refine hK0 _ _ b ?_
          replace hU := New.trans hU b
          clear hK0 b
          repeat (first
            | (refine up_skip rfl rfl ?_; simp only [Act.put, List.setIfInBounds_toArray, List.set_cons_zero, List.set_cons_succ])
            | (refine up_quiet rfl rfl (v := ?_) (fun W hQ => ?_) ?_; rotate_left; (obtain ⟨B1, B2⟩ := F.out W (New.trans hU hQ); obtain ⟨x0, x1, x2, x3, x4, x5, x6, x7, x8, x9, x10, x11⟩ := cells12 B1; obtain ⟨y0, y1, y2, y3, y4, y5, y6, y7, y8, y9, y10, y11⟩ := cells12 B2; clear B1 B2; go_simp <;> with_reducible rfl); simp only [Act.put, List.setIfInBounds_toArray, List.set_cons_zero, List.set_cons_succ]))
          refine up_nil ?_
          go_wp2
          go_ret
          exact ⟨rfl, New.trans b07 hU⟩

set_option maxRecDepth 100000 in
open Go.WideShapes Go.ChangeShapes in
theorem statTells_contract {H : Type} {enc : TypeId × Value → H} (W : World) (base : Nat) (args : Array Value) (ds : List (DataW H)) (ps : List MemPlace)
    (hval : ∀ (j : Nat) t v, Try.f3.params[j]? = some t → args[j]? = some v → Value.okWide Try.prog W .any base t v)
    (hA : DataW.TrodAll enc Try.prog W 0 (fun _ => true) true Try.f3.params.toList args.toList ds ps) (hlt : ∀ p ∈ ps, p.block < W.heap.size)
    (hsz : (DataW.weightsEach Try.prog Try.f3.params.toList ds).all (· ≤ reachBytes) = true) :
    Calls Try.prog 3 args W fun e W' => e = .returned (.bool true) ∧ Below W.heap.size W W' := by
  rw [Try.params3] at hA hval hsz
  obtain ⟨v0, v1, v2, d0, d1, d2, p0, p1, p2, rfl, rfl, rfl, h0, h1, h2⟩ := trodAll_three hA
  obtain ⟨t, rfl, wt, wt'⟩ := open_i64 (hval 0 _ _ rfl rfl) h0
  -- L: v1 d1 p1 h1, hval 1
  -- K: v2 d2 p2 h2, hval 2
  obtain ⟨A1, c1, L, rfl, hr, hf, hc1, hl1⟩ := open_Cells (hval 1 _ _ rfl rfl) h1 (fun p hp => hlt p (by simp [hp])) (sized_at hsz (j := 1) rfl rfl)
  obtain ⟨A2, c2, K, rfl, hr2, hf2, hc2, hl2⟩ := open_Cells (hval 2 _ _ rfl rfl) h2 (fun p hp => hlt p (by simp [hp])) (sized_at hsz (j := 2) rfl rfl)
  exact statTells_walk hr hr2 hf hf2 hl1 hl2

end Go.Proofs.Ythdkbfffjlkbpaa
