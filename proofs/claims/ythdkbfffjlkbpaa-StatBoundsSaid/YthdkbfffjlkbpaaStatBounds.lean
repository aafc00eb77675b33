/- StatBounds returns true whatever comes in, and leaves all that was there as it was. -/
import Derived.Test.YthdkbfffjlkbpaaBun6

namespace Go.Hm
open Go Go.RowKit
theorem nullsL_lt : ∀ l : List CellS, (nullsL l < l.length ↔ ∃ c ∈ l, c.1 = false)
  | [] => by simp [nullsL]
  | c :: l => by
    have ih := nullsL_lt l
    have hle := nullsL_le l
    have e : nullsL (c :: l) = (if c.1 then 1 else 0) + nullsL l := by
      have := nullsL_append [c] l
      rw [List.singleton_append] at this
      rw [this]
      cases hc : c.1 <;> simp [nullsL, hc]
    rw [e, List.length_cons]
    cases hc : c.1 with
    | true =>
      rw [if_pos rfl]
      constructor
      · intro h
        obtain ⟨d, hd, k⟩ := ih.1 (by omega)
        exact ⟨d, by simp [hd], k⟩
      · rintro ⟨d, hd, k⟩
        rcases List.mem_cons.1 hd with rfl | hd
        · rw [hc] at k; cases k
        · have := ih.2 ⟨d, hd, k⟩; omega
    | false =>
      rw [if_neg (by simp)]
      exact ⟨fun _ => ⟨c, by simp, hc⟩, fun _ => by omega⟩

end Go.Hm

namespace Go.Proofs.Ythdkbfffjlkbpaa
open Go.RowKit Go.Hm
set_option maxHeartbeats 1000000 in
set_option maxRecDepth 100000 in
theorem eqCell_any (a b : CellS) (W : World) : (binOp .eql 29 (cellA a) (cellA b)).run Try.prog W = .ok (.bool (eqC a b)) W := by
  obtain ⟨a1, a2, a3, a4, a5⟩ := a
  obtain ⟨b1, b2, b3, b4, b5⟩ := b
  show (binOp .eql 29 (.agg #[.bool a1, .int .i64 a2, .string (bstr a3), .int .i64 a4, .int .i64 a5]) (.agg #[.bool b1, .int .i64 b2, .string (bstr b3), .int .i64 b4, .int .i64 b5])).run Try.prog W = _
  go_simp
  unfold eqC
  repeat' split
  all_goals simp_all
theorem blk_later {w W : World} {g : Nat} {t : TypeId} {cs : Array Value} (h : Blk W g t cs) (hl : New w W) : Hid (∀ W', New W W' → Blk W' g t cs ∧ New w W') :=
  Lib.hid fun _ hN => ⟨h.below hN h.lt, New.trans hl hN⟩
set_option maxHeartbeats 4000000 in
set_option maxRecDepth 100000 in
theorem statBounds_walk {w : World} {t : Int} {A : Option Addr} {c : Nat} {L : List CellS} (h : Reads w w.heap.size 5 A L.length (recs cellV L)) (hL : ∀ y ∈ L, CellFine y) (hl : L.length ≤ 2932031007317) :
    Calls Try.prog 5 #[.int .i64 t, .slice A L.length c] w (SmallPost w) := by
  have FW := Lib.hid (fun (W : World) (hW : New w W) => fewP_any (c := c) (Reads.later h hW) (fun y hy => (hL y hy).1.1) (by omega))
  have CW := Lib.hid (fun (W : World) (hW : New w W) => cells_any (t := t) (c := c) (Reads.later h hW) (fun y hy => (hL y hy).1.1) (by omega))
  have HR := Lib.hid h
  have HL := Lib.hid hL
  clear h hL
  go_enter Try.func5, Try.ntmps5
  go_wp2_with fail
  refine (small15_any w).mono ?_
  rintro e w1 ⟨rfl, b1⟩
  go_wp2_with fail
  refine (FW.out _ b1).mono ?_
  rintro e w2 ⟨b, rfl, hb, rfl⟩
  cases b with
  | false =>
    go_wp2_with fail
    go_ret
    exact ⟨rfl, b1⟩
  | true =>
    have h300 := hb rfl
    clear hb FW
    go_wp2_with fail
    refine (CW.out _ b1).mono ?_
    rintro e w2 ⟨rfl, b2⟩
    have b0 := New.trans b1 b2
    clear b1 b2 CW
    cases hq : cellsB t L with
    | false =>
      go_wp2_with fail
      go_ret
      exact ⟨rfl, b0⟩
    | true =>
      have HQ := Lib.hid hq
      clear hq
      have nL := fineNear HQ.out
      have O1 := of_any (t := t) (c := c) (Reads.later HR.out b0) nL (by omega)
      go_wp2_with fail
      refine O1.mono ?_
      rintro e w4 ⟨s1, rfl, i1, b4⟩
      have n1 := i1.near nL
      have hmay := fun (y : CellS) (hy : y ∈ L) => i1.may hy
      have hri := i1.right (cellsB_iff.1 HQ.out).1 (cellsB_iff.1 HQ.out).2 (by omega)
      have hN := i1.nulls
      have hH := i1.has
      have hP := fun hh => (i1.least hh).1
      have hQ := fun hh => (i1.most hh).1
      have hfin : statFine s1 := by
        cases hh : s1.2.1 with
        | false =>
          obtain ⟨e1, e2⟩ := i1.none hh
          unfold statFine
          rw [e1, e2]
          simp [cell0]
        | true => exact ⟨(HL.out _ (hP hh).1).1, (HL.out _ (hQ hh).1).1⟩
      have SR := fun (W : World) => sright_any (w := W) (t := t) hfin
      rw [hri] at SR
      have MA := fun (y : CellS) (hy : y ∈ L) (W : World) => may_any (w := W) (t := t) n1.1 n1.2 (nL y hy)
      have MA : ∀ y ∈ L, ∀ W, Calls Try.prog 25 #[.int .i64 t, statA s1, cellA y] W (NewPost (.bool true) W) := fun y hy W => by
        have := MA y hy W
        rwa [hmay y hy] at this
      have b04 := New.trans b0 b4
      clear hmay hri i1 b4 O1 n1
      obtain ⟨pn, ph, ⟨pa, pb, pc, pd, pe⟩, ⟨pf, pg, pi, pj, pk⟩⟩ := s1
      rw [show statA _ = .agg #[.int .i64 pn, .bool ph, .bool pa, .int .i64 pb, .string (bstr pc), .int .i64 pd, .int .i64 pe, .bool pf, .int .i64 pg, .string (bstr pi), .int .i64 pj, .int .i64 pk] from rfl]
      dsimp only at hN hH hP hQ hfin
      have hpc : ∀ z ∈ pc, z < 256 := hfin.1.2
      have hic : ∀ z ∈ pi, z < 256 := hfin.2.2
      have HN := Lib.hid hN
      have HH := Lib.hid hH
      have HP := Lib.hid hP
      have HQ2 := Lib.hid hQ
      have MA := Lib.hid MA
      have SR : Hid (∀ W, Calls Try.prog 16 #[.int .i64 t, .agg #[.int .i64 pn, .bool ph, .bool pa, .int .i64 pb, .string (bstr pc), .int .i64 pd, .int .i64 pe, .bool pf, .int .i64 pg, .string (bstr pi), .int .i64 pj, .int .i64 pk]] W (NewPost (.bool true) W)) := Lib.hid SR
      have B1 := Blk.new w4 31 #[.int .i64 pn, .bool ph, .bool pa, .int .i64 pb, .string (bstr pc), .int .i64 pd, .int .i64 pe, .bool pf, .int .i64 pg, .string (bstr pi), .int .i64 pj, .int .i64 pk]
      have al : New w4 (w4.alloc (.cells #[.int .i64 pn, .bool ph, .bool pa, .int .i64 pb, .string (bstr pc), .int .i64 pd, .int .i64 pe, .bool pf, .int .i64 pg, .string (bstr pi), .int .i64 pj, .int .i64 pk] 31)) := (Below.refl _ _).alloc (Nat.le_refl _) _
      have b05 := New.trans b04 al
      have HF : Hid (∀ W, New (w4.alloc (.cells #[.int .i64 pn, .bool ph, .bool pa, .int .i64 pb, .string (bstr pc), .int .i64 pd, .int .i64 pe, .bool pf, .int .i64 pg, .string (bstr pi), .int .i64 pj, .int .i64 pk] 31)) W → Blk W w4.heap.size 31 #[.int .i64 pn, .bool ph, .bool pa, .int .i64 pb, .string (bstr pc), .int .i64 pd, .int .i64 pe, .bool pf, .int .i64 pg, .string (bstr pi), .int .i64 pj, .int .i64 pk] ∧ New w W) := Lib.hid fun W hN => ⟨B1.below hN B1.lt, New.trans b05 hN⟩
      obtain ⟨x0, x1, x2, x3, x4, x5, x6, x7, x8, x9, x10, x11⟩ := cells12 B1
      clear hN hH hP hQ hfin B1 al b04
      go_wp2_with fail
      clear x0 x1 x2 x3 x4 x5 x6 x7 x8 x9 x10 x11
      go_loopw [8, 9, 10, 11] (fun v8 v9 v10 v11 wr => ∃ (k m : Nat) (le mo : Bool), k ≤ L.length ∧ m ≤ k ∧ v11 = .int .i64 (k : Int) ∧ v8 = .int .i64 (m : Int) ∧ v9 = .bool le ∧ v10 = .bool mo ∧ New (w4.alloc (.cells #[.int .i64 pn, .bool ph, .bool pa, .int .i64 pb, .string (bstr pc), .int .i64 pd, .int .i64 pe, .bool pf, .int .i64 pg, .string (bstr pi), .int .i64 pj, .int .i64 pk] 31)) wr ∧ Hid (m = nullsL (L.take k)) ∧ Hid (le = true ↔ (ph = false ∨ (pa, pb, pc, pd, pe) ∈ L.take k)) ∧ Hid (mo = true ↔ (ph = false ∨ (pf, pg, pi, pj, pk) ∈ L.take k))) (fun _ _ _ v11 _ => L.length - (intOf v11).toNat)
      case atStart => exact ⟨0, 0, !ph, !ph, Nat.zero_le _, Nat.zero_le _, rfl, rfl, rfl, rfl, New.refl _, Lib.hid (by simp [nullsL]), Lib.hid (by cases ph <;> simp), Lib.hid (by cases ph <;> simp)⟩
      case round =>
        obtain ⟨k, m, le, mo, hk, hm, rfl, rfl, rfl, rfl, hW, hn, hle, hmo⟩ := hrel
        by_cases hlt : k < L.length
        · obtain ⟨B1, hl2⟩ := HF.out _ hW
          obtain ⟨ad, rfl, hb, d0, d1, d2, d3, d4⟩ := (Reads.later HR.out hl2).cell5 hlt
          have hmem : L.getD k (false, 0, [], 0, 0) ∈ L := by rw [List.getD_eq_getElem?_getD, List.getElem?_eq_getElem hlt]; exact List.getElem_mem hlt
          have HY : ∀ W, New w W → W.cell? (ad.add (k * 5)) = some (.bool (L.getD k (false, 0, [], 0, 0)).1) ∧ W.cell? ⟨(ad.add (k * 5)).block, (ad.add (k * 5)).off + 1, none⟩ = some (.int .i64 (L.getD k (false, 0, [], 0, 0)).2.1) ∧ W.cell? ⟨(ad.add (k * 5)).block, (ad.add (k * 5)).off + 2, none⟩ = some (.string (bstr (L.getD k (false, 0, [], 0, 0)).2.2.1))
              ∧ W.cell? ⟨(ad.add (k * 5)).block, (ad.add (k * 5)).off + 3, none⟩ = some (.int .i64 (L.getD k (false, 0, [], 0, 0)).2.2.2.1) ∧ W.cell? ⟨(ad.add (k * 5)).block, (ad.add (k * 5)).off + 4, none⟩ = some (.int .i64 (L.getD k (false, 0, [], 0, 0)).2.2.2.2) := fun W hN => by
            obtain ⟨ad', e, _, d⟩ := (Reads.later HR.out hN).cell5 hlt
            injection e with e
            subst e
            exact d
          have MY := MA.out _ hmem
          have htk := take_snoc L k (false, 0, [], 0, 0) hlt
          have hnk := nullsL_append (L.take k) [L.getD k (false, 0, [], 0, 0)]
          rw [← htk, ← hn.out] at hnk
          have hy8 := (HL.out _ hmem).1.2
          have ep := eqC_is (b := (pa, pb, pc, pd, pe)) hy8 hpc
          have eq := eqC_is (b := (pf, pg, pi, pj, pk)) hy8 hic
          have EP := fun (W : World) => eqCell_any (L.getD k (false, 0, [], 0, 0)) (pa, pb, pc, pd, pe) W
          have EQ := fun (W : World) => eqCell_any (L.getD k (false, 0, [], 0, 0)) (pf, pg, pi, pj, pk) W
          rw [ep] at EP
          rw [eq] at EQ
          have hle2 : ∀ b : Bool, (b = true ↔ (le = true ∨ (L.getD k (false, 0, [], 0, 0)) = (pa, pb, pc, pd, pe))) → (b = true ↔ (ph = false ∨ (pa, pb, pc, pd, pe) ∈ L.take (k + 1))) := fun b hb => by
            rw [hb, hle.out, htk, List.mem_append, List.mem_singleton]
            constructor
            · rintro ((h | h) | h)
              · exact .inl h
              · exact .inr (.inl h)
              · exact .inr (.inr h.symm)
            · rintro (h | h | h)
              · exact .inl (.inl h)
              · exact .inl (.inr h)
              · exact .inr h.symm
          have hmo2 : ∀ b : Bool, (b = true ↔ (mo = true ∨ (L.getD k (false, 0, [], 0, 0)) = (pf, pg, pi, pj, pk))) → (b = true ↔ (ph = false ∨ (pf, pg, pi, pj, pk) ∈ L.take (k + 1))) := fun b hb => by
            rw [hb, hmo.out, htk, List.mem_append, List.mem_singleton]
            constructor
            · rintro ((h | h) | h)
              · exact .inl h
              · exact .inr (.inl h)
              · exact .inr (.inr h.symm)
            · rintro (h | h | h)
              · exact .inl (.inl h)
              · exact .inl (.inr h)
              · exact .inr h.symm
          have hpn := fun hh => (HP.out hh).2
          have hqn := fun hh => (HQ2.out hh).2
          have hle0 := hle.out
          have hmo0 := hmo.out
          have hnn := nullsL_le [L.getD k (false, 0, [], 0, 0)]
          clear htk hmem hy8 ep eq hn hle hmo d0 d1 d2 d3 d4
          generalize hone : nullsL [L.getD k (false, 0, [], 0, 0)] = o at *
          generalize L.getD k (false, 0, [], 0, 0) = y at *
          generalize hz1 : decide (y = (pa, pb, pc, pd, pe)) = z1 at *
          generalize hz2 : decide (y = (pf, pg, pi, pj, pk)) = z2 at *
          have Z1 : Hid (z1 = true ↔ y = (pa, pb, pc, pd, pe)) := Lib.hid (by rw [← hz1, decide_eq_true_iff])
          have Z2 : Hid (z2 = true ↔ y = (pf, pg, pi, pj, pk)) := Lib.hid (by rw [← hz2, decide_eq_true_iff])
          have HO := Lib.hid hone
          have HK := Lib.hid hnk
          have HLE := Lib.hid hle2
          have HMO := Lib.hid hmo2
          have HPN := Lib.hid hpn
          have HQN := Lib.hid hqn
          have HL0 := Lib.hid hle0
          have HM0 := Lib.hid hmo0
          clear hone hnk hle2 hmo2 hpn hqn hle0 hmo0 hz1 hz2
          obtain ⟨y0, y1, y2, y3, y4⟩ := y
          dsimp only at HY
          have HY := Lib.hid HY
          have MY : Hid (∀ W, Calls Try.prog 25 #[.int .i64 t, .agg #[.int .i64 pn, .bool ph, .bool pa, .int .i64 pb, .string (bstr pc), .int .i64 pd, .int .i64 pe, .bool pf, .int .i64 pg, .string (bstr pi), .int .i64 pj, .int .i64 pk], .agg #[.bool y0, .int .i64 y1, .string (bstr y2), .int .i64 y3, .int .i64 y4]] W (NewPost (.bool true) W)) := Lib.hid MY
          have EP : ∀ W, (binOp .eql 29 (.agg #[.bool y0, .int .i64 y1, .string (bstr y2), .int .i64 y3, .int .i64 y4]) (.agg #[.bool pa, .int .i64 pb, .string (bstr pc), .int .i64 pd, .int .i64 pe])).run Try.prog W = .ok (.bool z1) W := EP
          have EQ : ∀ W, (binOp .eql 29 (.agg #[.bool y0, .int .i64 y1, .string (bstr y2), .int .i64 y3, .int .i64 y4]) (.agg #[.bool pf, .int .i64 pg, .string (bstr pi), .int .i64 pj, .int .i64 pk])).run Try.prog W = .ok (.bool z2) W := EQ
          have HEP := Lib.hid EP
          have HEQ := Lib.hid EQ
          clear EP EQ
          have F := blk_later B1 hl2
          have hU := drew_of B1
          clear B1 hl2
          go_wp2_with fail
          refine wp_region_up New [(true, 0), (true, 1), (true, 2), (true, 3), (true, 4), (true, 5), (false, 6), (true, 7)] New.refl New.trans (by kernel_rfl) (by kernel_rfl) (by kernel_rfl) (by kernel_rfl) ?_
          repeat (first
            | (refine up_skip rfl rfl ?_; simp only [Act.put, List.setIfInBounds_toArray, List.set_cons_zero, List.set_cons_succ])
            | (refine up_quiet rfl rfl (v := ?_) (fun W hQ => ?_) ?_; rotate_left; (obtain ⟨B1, hh⟩ := F.out W (New.trans hU hQ); obtain ⟨x0, x1, x2, x3, x4, x5, x6, x7, x8, x9, x10, x11⟩ := cells12 B1; obtain ⟨z0, z1', z2', z3, z4⟩ := HY.out W hh; clear B1 hh; go_simp <;> with_reducible rfl); simp only [Act.put, List.setIfInBounds_toArray, List.set_cons_zero, List.set_cons_succ]))
          refine up_call rfl rfl (fun K0 hK0 => ?_)
          go_simp
          (with_reducible refine (MY.out _).mono ?_)
          rintro e u ⟨rfl, b⟩
          refine hK0 _ _ b ?_
          replace hU := New.trans hU b
          clear hK0 b
          repeat (first
            | (refine up_skip rfl rfl ?_; simp only [Act.put, List.setIfInBounds_toArray, List.set_cons_zero, List.set_cons_succ])
            | (refine up_quiet rfl rfl (v := ?_) (fun W hQ => ?_) ?_; rotate_left; (obtain ⟨B1, hh⟩ := F.out W (New.trans hU hQ); obtain ⟨x0, x1, x2, x3, x4, x5, x6, x7, x8, x9, x10, x11⟩ := cells12 B1; obtain ⟨z0, z1', z2', z3, z4⟩ := HY.out W hh; clear B1 hh; go_simp <;> with_reducible rfl); simp only [Act.put, List.setIfInBounds_toArray, List.set_cons_zero, List.set_cons_succ]))
          refine up_nil ?_
          obtain ⟨B1, hl2⟩ := F.out _ hU
          replace hW := New.trans hW hU
          clear F hU
          obtain ⟨z0, z1', z2', z3, z4⟩ := HY.out _ hl2
          cases y0 with
          | true =>
            have ho : o = 1 := by rw [← HO.out]; simp [nullsL]
            subst ho
            go_wp2_with fail
            go_roundw
            case rel => exact ⟨k + 1, m + 1, le, mo, by omega, by omega, by go_num, by go_num, rfl, rfl, hW, Lib.hid HK.out.symm, Lib.hid (HLE.out le ⟨.inl, fun hh => hh.elim id fun e => by
                cases hp : ph with
                | false => exact HL0.out.2 (.inl hp)
                | true => have := HPN.out hp; injection e with e _; rw [← e] at this; cases this⟩), Lib.hid (HMO.out mo ⟨.inl, fun hh => hh.elim id fun e => by
                cases hp : ph with
                | false => exact HM0.out.2 (.inl hp)
                | true => have := HQN.out hp; injection e with e _; rw [← e] at this; cases this⟩)⟩
            case measure => simp [intOf]; omega
          | false =>
            have ho : o = 0 := by rw [← HO.out]; simp [nullsL]
            subst ho
            clear z0 z1' z2' z3 z4
            have HZ := HEP
            clear HEP
            obtain ⟨z0, z1', z2', z3, z4⟩ := HY.out _ hl2
            have EP := HZ.out
            have EQ := HEQ.out
            cases le
            all_goals cases mo
            all_goals
              have F := blk_later B1 hl2
              have hU := drew_of B1
              clear B1 hl2
              go_wp2_with fail
              refine wp_region_up New [(true, 0), (true, 1), (true, 2), (true, 3), (true, 4), (true, 5), (true, 6), (true, 7), (true, 8), (true, 9), (true, 10)] New.refl New.trans (by kernel_rfl) (by kernel_rfl) (by kernel_rfl) (by kernel_rfl) ?_
              repeat (first
                | (refine up_skip rfl rfl ?_; simp only [Act.put, List.setIfInBounds_toArray, List.set_cons_zero, List.set_cons_succ])
                | (refine up_quiet rfl rfl (v := ?_) (fun W hQ => ?_) ?_; rotate_left; (obtain ⟨B1, hh⟩ := F.out W (New.trans hU hQ); obtain ⟨x0, x1, x2, x3, x4, x5, x6, x7, x8, x9, x10, x11⟩ := cells12 B1; obtain ⟨z0, z1', z2', z3, z4⟩ := HY.out W hh; clear B1 hh; go_simp <;> with_reducible rfl); simp only [Act.put, List.setIfInBounds_toArray, List.set_cons_zero, List.set_cons_succ]))
              refine up_nil ?_
              obtain ⟨B1, hl2⟩ := F.out _ hU
              replace hW := New.trans hW hU
              clear F hU
              have F := blk_later B1 hl2
              have hU := drew_of B1
              clear B1 hl2
              go_wp2_with fail
              refine wp_region_up New [(true, 0), (true, 1), (true, 2), (true, 3), (true, 4), (true, 5), (true, 6), (true, 7), (true, 8), (true, 9), (true, 10)] New.refl New.trans (by kernel_rfl) (by kernel_rfl) (by kernel_rfl) (by kernel_rfl) ?_
              repeat (first
                | (refine up_skip rfl rfl ?_; simp only [Act.put, List.setIfInBounds_toArray, List.set_cons_zero, List.set_cons_succ])
                | (refine up_quiet rfl rfl (v := ?_) (fun W hQ => ?_) ?_; rotate_left; (obtain ⟨B1, hh⟩ := F.out W (New.trans hU hQ); obtain ⟨x0, x1, x2, x3, x4, x5, x6, x7, x8, x9, x10, x11⟩ := cells12 B1; obtain ⟨z0, z1', z2', z3, z4⟩ := HY.out W hh; clear B1 hh; go_simp <;> with_reducible rfl); simp only [Act.put, List.setIfInBounds_toArray, List.set_cons_zero, List.set_cons_succ]))
              refine up_nil ?_
              obtain ⟨B1, hl2⟩ := F.out _ hU
              replace hW := New.trans hW hU
              clear F hU
              go_wp2_with fail
              go_roundw
              case rel => exact ⟨k + 1, m, _, _, by omega, by omega, by go_num, rfl, rfl, rfl, hW, Lib.hid (by have := HK.out; omega), Lib.hid (HLE.out _ (by have := Z1.out; simp [this])), Lib.hid (HMO.out _ (by have := Z2.out; simp [this]))⟩
              case measure => simp [intOf]; omega
        · obtain rfl : k = L.length := by omega
          obtain ⟨B1, hl2⟩ := HF.out _ hW
          have hn2 := hn.out
          have hle2 := hle.out
          have hmo2 := hmo.out
          rw [List.take_length] at hn2 hle2 hmo2
          have el : le = true := hle2.2 (by cases hp : ph with | false => exact .inl rfl | true => exact .inr (HP.out hp).1)
          have em : mo = true := hmo2.2 (by cases hp : ph with | false => exact .inl rfl | true => exact .inr (HQ2.out hp).1)
          have e1 : pn = (m : Int) := by rw [HN.out, hn2]
          have e2 : decide ((m : Int) < (L.length : Int)) = ph := by
            rw [Bool.eq_iff_iff, HH.out, ← nullsL_lt, ← hn2, decide_eq_true_iff]
            omega
          clear hn2 hle2 hmo2 hn hle hmo
          subst el em e1
          have E2 := Lib.hid e2
          clear e2
          obtain ⟨x0, x1, x2, x3, x4, x5, x6, x7, x8, x9, x10, x11⟩ := cells12 B1
          go_wp2_with fail
          refine (SR.out _).mono ?_
          rintro e w6 ⟨rfl, b6⟩
          clear x0 x1 x2 x3 x4 x5 x6 x7 x8 x9 x10 x11
          obtain ⟨x0, x1, x2, x3, x4, x5, x6, x7, x8, x9, x10, x11⟩ := cells12 (B1.below b6 B1.lt)
          by_cases hml : m < L.length
          · have ep : ph = true := by rw [← E2.out]; exact decide_eq_true (by omega)
            subst ep
            have d1 : decide ((m : Int) < (L.length : Int)) = true := by simp; omega
            clear E2
            go_wp2
            go_ret
            exact ⟨rfl, New.trans hl2 b6⟩
          · have ep : ph = false := by rw [← E2.out]; exact decide_eq_false (by omega)
            subst ep
            have d1 : decide ((m : Int) < (L.length : Int)) = false := by simp; omega
            clear E2
            go_wp2
            go_ret
            exact ⟨rfl, New.trans hl2 b6⟩

set_option maxRecDepth 100000 in
open Go.WideShapes Go.ChangeShapes in
theorem statBounds_contract {H : Type} {enc : TypeId × Value → H} (W : World) (base : Nat) (args : Array Value) (ds : List (DataW H)) (ps : List MemPlace)
    (hval : ∀ (j : Nat) t v, Try.f5.params[j]? = some t → args[j]? = some v → Value.okWide Try.prog W .any base t v)
    (hA : DataW.TrodAll enc Try.prog W 0 (fun _ => true) true Try.f5.params.toList args.toList ds ps) (hlt : ∀ p ∈ ps, p.block < W.heap.size)
    (hsz : (DataW.weightsEach Try.prog Try.f5.params.toList ds).all (· ≤ reachBytes) = true) :
    Calls Try.prog 5 args W fun e W' => e = .returned (.bool true) ∧ Below W.heap.size W W' := by
  rw [Try.params5] at hA hval hsz
  obtain ⟨v0, v1, d0, d1, p0, p1, rfl, rfl, rfl, h0, h1⟩ := trodAll_two hA
  obtain ⟨t, rfl, wt, wt'⟩ := open_i64 (hval 0 _ _ rfl rfl) h0
  -- L: v1 d1 p1 h1, hval 1
  obtain ⟨A1, c1, L, rfl, hr, hf, hc1, hl1⟩ := open_Cells (hval 1 _ _ rfl rfl) h1 (fun p hp => hlt p (by simp [hp])) (sized_at hsz (j := 1) rfl rfl)
  exact statBounds_walk hr hf hl1

end Go.Proofs.Ythdkbfffjlkbpaa
