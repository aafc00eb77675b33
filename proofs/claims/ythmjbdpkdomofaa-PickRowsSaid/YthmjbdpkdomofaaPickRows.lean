/- PickRows returns true whatever comes in, and leaves all that was there as it was. -/
import Derived.Test.YthmjbdpkdomofaaBun7
import Derived.Test.YthmjbdpkdomofaaBun5
import Derived.Test.YthmjbdpkdomofaaBun4
import Derived.Test.YthmjbdpkdomofaaBun8

namespace Go.Proofs.Ythmjbdpkdomofaa
open Go Go.RowKit Go.Hm
theorem rows_facts {F : FootS} {Q : List Int} {f t : Int} (h : okQ F Q f t = true) :
    (∀ k, k < (partsQ true F Q f t).length → ∃ g c x y : Nat, (partsQ true F Q f t).getD k partZ = ((g : Int), (c : Int), (x : Int), (y : Int)) ∧ x < y ∧ y ≤ (spansF F (g : Int) (c : Int)).length ∧ (spansF F (g : Int) (c : Int)).length ≤ 65536 ∧
      (∀ cc, (c : Int) ≠ cc → rowsTo F f t cc (partsQ true F Q f t) (k + 1) = rowsTo F f t cc (partsQ true F Q f t) k) ∧
      ∃ V : Nat → Int, V x = rowsTo F f t c (partsQ true F Q f t) k ∧ V y = rowsTo F f t c (partsQ true F Q f t) (k + 1) ∧
      ∀ q, x ≤ q → q < y → V (q + 1) = V q + rowsIn f t ((spansF F (g : Int) (c : Int)).getD q (0, 0)) ∧ 1 ≤ rowsIn f t ((spansF F (g : Int) (c : Int)).getD q (0, 0)) ∧ rowsIn f t ((spansF F (g : Int) (c : Int)).getD q (0, 0)) ≤ 65536 ∧ -1000000000000 ≤ V q ∧ V q ≤ 1000000000000) ∧
    (∀ i, i < Q.length → rowsTo F f t (Q.getD i 0) (partsQ true F Q f t) (partsQ true F Q f t).length = t - f) ∧
    (partsQ true F Q f t).length = ((groupsQ true F f t).2 - (groupsQ true F f t).1) * Q.length ∧ (groupsQ true F f t).1 ≤ (groupsQ true F f t).2 ∧ (groupsQ true F f t).2 ≤ 65536 ∧ Q.length ≤ 64 ∧ (partsQ true F Q f t).length ≤ 4194304 ∧ 0 ≤ f ∧ f ≤ t ∧ t ≤ 65536 := by
  have hF := okQ_foot h
  obtain ⟨-, hQ, h0, h1, h2, h3⟩ := okQ_cols h
  have hle := groupsQ_le h
  have hgf := rows_sum_le hF
  have hr := hF.2.2.2.1
  have hl := parts_len h
  have hs := fun k (hk : k < (partsQ (okQ F Q f t) F Q f t).length) => rows_step h hk
  have ha := fun i (hi : i < Q.length) => rows_all h (mem_getDF (0 : Int) hi)
  rw [h] at hl hs ha
  refine ⟨fun k hk => ?_, ha, by unfold partsQ; rw [partsTo_len], hle.1, by omega, h3, hl, h0, h1, by omega⟩
  obtain ⟨g, c, x, y, a1, a2, a3, a4, a5, a6⟩ := hs k hk
  have hin := spansF_in hF a2 (c := (c : Int)) (by omega) (by omega)
  rw [Int.toNat_natCast] at hin
  exact ⟨g, c, x, y, a1, a4, a5, by rw [hin, spansL_len]; exact pages_few hF a2 a3, a6⟩

section
variable {w : World} {Ac : Option Addr} {cc : Nat} {L : List ColS} {r : Int} {Ag : Option Addr} {cg : Nat} {G : List GrD} {Aq : Option Addr} {cq : Nat} {Q : List Int} {f t : Int}
set_option maxHeartbeats 16000000 in
set_option maxRecDepth 100000 in
theorem pickRows_walk (h : FQ w Ac cc L r Ag cg G Aq cq Q) :
    Calls Try.prog 4 #[.agg #[.slice Ac L.length cc, .int .i64 r, .slice Ag G.length cg], .agg #[.slice Aq Q.length cq, .int .i64 f, .int .i64 t]] w (SmallPost w) := by
  have FW := Lib.hid (fun (W : World) (hW : New w W) => show Calls Try.prog 10 #[.agg #[.slice Ac L.length cc, .int .i64 r, .slice Ag G.length cg]] W (BoolNew W) from few19_any (r := r) (cc := cc) (cg := cg) (h.foot.later hW) h.fine)
  have R1 := Lib.hid (fun (W : World) (hW : New w W) => show Calls Try.prog 20 #[.agg #[.slice Ac L.length cc, .int .i64 r, .slice Ag G.length cg]] W (NewPost (.bool (rightF (footP L r G))) W) from rfright_any (r := r) (cc := cc) (cg := cg) (h.foot.later hW) h.stat h.row8)
  have F1 := Lib.hid (fun (W : World) (hW : New w W) => show Calls Try.prog 21 #[.agg #[.slice Aq Q.length cq, .int .i64 f, .int .i64 t], .agg #[.slice Ac L.length cc, .int .i64 r, .slice Ag G.length cg]] W (NewPost (.bool (qfits Q f t L.length r)) W) from rqfits_any (A1 := Ac) (n1 := L.length) (c1 := cc) (rows := r) (A2 := Ag) (n2 := G.length) (c2 := cg) (c := cq) (f := f) (t := t) (Reads.later h.cols hW) (by have := h.fewq; omega))
  have OK := fun (e : rightF (footP L r G) = true) (e2 : qfits Q f t L.length r = true) => show okQ (footP L r G) Q f t = true from by
    unfold okQ
    rw [e]
    exact e2
  have SP := Lib.hid (fun (W : World) (hW : New w W) (g c : Int) => show Calls Try.prog 22 #[.agg #[.slice Ac L.length cc, .int .i64 r, .slice Ag G.length cg], .int .i64 g, .int .i64 c] W (SpansPost (spansF (footP L r G) g c) W) from fspans_any (r := r) (cc := cc) (cg := cg) (h.foot.later hW) h.stat h.cap)
  have HE := fun (e : rightF (footP L r G) = true) (e2 : qfits Q f t L.length r = true) => And.intro (fun (W : World) (hW : New w W) => show Calls Try.prog 14 #[.agg #[.slice Ac L.length cc, .int .i64 r, .slice Ag G.length cg], .agg #[.slice Aq Q.length cq, .int .i64 f, .int .i64 t]] W (PartsPost (partsQ true (footP L r G) Q f t) W) from by
      have := pparts_any (f := f) (t := t) (h.later hW)
      rw [OK e e2] at this
      exact this)
    (And.intro (fun (W : World) (hW : New w W) => show Calls Try.prog 11 #[.agg #[.slice Ac L.length cc, .int .i64 r, .slice Ag G.length cg], .agg #[.slice Aq Q.length cq, .int .i64 f, .int .i64 t]] W (NewPost (pairN (groupsQ true (footP L r G) f t)) W) from by
      have := pgroups_any (f := f) (t := t) (h.later hW)
      rw [OK e e2] at this
      exact this) (rows_facts (OK e e2)))
  have S0 := Lib.hid (fun c => rowsTo_zero (footP L r G) f t c (partsQ true (footP L r G) Q f t))
  have HQ := Lib.hid h.cols
  have hfewq := h.fewq
  have hfewG := h.fewG
  have hcq := h.capq
  clear h OK
  replace HE := Lib.hid HE
  generalize rightF (footP L r G) = M at *
  generalize qfits Q f t L.length r = N at *
  generalize rowsTo (footP L r G) f t = RT at *
  generalize spansF (footP L r G) = SF at *
  generalize partsQ true (footP L r G) Q f t = l at *
  generalize groupsQ true (footP L r G) f t = ab at *
  have B0 := (Blk.new w 25 #[.slice Ac L.length cc, .int .i64 r, .slice Ag G.length cg]).alloc (.cells #[.slice Aq Q.length cq, .int .i64 f, .int .i64 t] 28)
  have B1 := Blk.new (w.alloc (.cells #[.slice Ac L.length cc, .int .i64 r, .slice Ag G.length cg] 25)) 28 #[.slice Aq Q.length cq, .int .i64 f, .int .i64 t]
  have b0 := new2 w (.cells #[.slice Ac L.length cc, .int .i64 r, .slice Ag G.length cg] 25) (.cells #[.slice Aq Q.length cq, .int .i64 f, .int .i64 t] 28)
  simp only [World.size_alloc] at B1
  go_enter Try.func4, Try.ntmps4
  go_wp2_with fail
  refine (small25_any _).mono ?_
  rintro e w1 ⟨rfl, b1⟩
  have B0 := B0.below b1 B0.lt
  have B1 := B1.below b1 B1.lt
  have b01 := New.trans b0 b1
  clear b0 b1
  obtain ⟨x0, x1, x2⟩ := ccells B0
  go_wp2_with fail
  refine (FW.out _ b01).mono ?_
  rintro e w2 ⟨bb, rfl, b2⟩
  have B0 := B0.below b2 B0.lt
  have B1 := B1.below b2 B1.lt
  have b03 := New.trans b01 b2
  clear x0 x1 x2 FW b01 b2
  obtain ⟨x0, x1, x2⟩ := ccells B0
  obtain ⟨y0, y1, y2⟩ := ccells B1
  cases bb with
  | false =>
    go_wp2
    go_ret
    exact ⟨rfl, b03⟩
  | true =>
    by_cases hq : (100 : Int) < (Q.length : Int)
    · go_wp2
      go_ret
      exact ⟨rfl, b03⟩
    · go_wp2_with fail
      refine (R1.out _ b03).mono ?_
      rintro e w3 ⟨rfl, b3⟩
      have B0 := B0.below b3 B0.lt
      have B1 := B1.below b3 B1.lt
      have b04 := New.trans b03 b3
      clear x0 x1 x2 y0 y1 y2 R1 b03 b3
      cases M with
      | false =>
        go_wp2
        go_ret
        exact ⟨rfl, b04⟩
      | true =>
        have HE1 := Lib.hid (HE.out (by trivial))
        clear HE
        obtain ⟨x0, x1, x2⟩ := ccells B0
        obtain ⟨y0, y1, y2⟩ := ccells B1
        go_wp2_with fail
        refine (F1.out _ b04).mono ?_
        rintro e w4 ⟨rfl, b4⟩
        have B0 := B0.below b4 B0.lt
        have B1 := B1.below b4 B1.lt
        have b05 := New.trans b04 b4
        clear x0 x1 x2 y0 y1 y2 F1 b04 b4
        cases N with
        | false =>
          go_wp2
          go_ret
          exact ⟨rfl, b05⟩
        | true =>
          obtain ⟨HP, HGR, ST, SA, hpl, hab, hb65, hq64, hl4, hf0, hft, ht65⟩ := HE1.out (by trivial)
          have HST := Lib.hid ST
          have HSA := Lib.hid SA
          have HPL := Lib.hid hpl
          have HGR1 := Lib.hid HGR
          have HP1 := Lib.hid HP
          clear HE1 ST SA hpl HGR HP
          obtain ⟨x0, x1, x2⟩ := ccells B0
          obtain ⟨y0, y1, y2⟩ := ccells B1
          go_wp2_with fail
          refine (HP1.out _ b05).mono ?_
          rintro e w5 ⟨A5, n5, c5, rfl, hn5, o5, b5⟩
          subst hn5
          have B0 := B0.below b5 B0.lt
          have B1 := B1.below b5 B1.lt
          have R5 := Lib.hid (Reads.of_own o5)
          have b06 := New.trans b05 b5
          clear x0 x1 x2 y0 y1 y2 o5 b5 b05 HP1
          go_wp2_with fail
          go_loopw [8] (fun i wr => ∃ k : Nat, k ≤ Q.length ∧ i = .int .i64 (k : Int) ∧ Blk wr w.heap.size 25 #[.slice Ac L.length cc, .int .i64 r, .slice Ag G.length cg] ∧ Blk wr (w.heap.size + 1) 28 #[.slice Aq Q.length cq, .int .i64 f, .int .i64 t] ∧ New w5 wr) (fun i _ => Q.length - (intOf i).toNat)
          case atStart => exact ⟨0, Nat.zero_le _, rfl, B0, B1, New.refl _⟩
          case round =>
            obtain ⟨i, hi, rfl, B, B1q, b⟩ := hrel
            clear B0 B1
            obtain ⟨y0, y1, y2⟩ := ccells B1q
            by_cases hlt : i < Q.length
            · have hii : (i : Int) < (Q.length : Int) := by omega
              obtain ⟨aq, rfl, -, -⟩ := HQ.out.int hlt
              have FQc := Lib.hid (fun (W : World) (hW : New w W) => show W.cell? (aq.add i) = some (.int .i64 (Q.getD i 0)) from by
                obtain ⟨a', e, _, f⟩ := (Reads.later HQ.out hW).int hlt
                injection e with e
                subst e
                exact f)
              have HSAi := Lib.hid (HSA.out i hlt)
              generalize Q.getD i 0 = ci at *
              go_wp2_with fail
              go_loopw [9, 10] (fun v j wr => ∃ k : Nat, k ≤ l.length ∧ j = .int .i64 (k : Int) ∧ v = .int .i64 (RT ci l k) ∧ Blk wr w.heap.size 25 #[.slice Ac L.length cc, .int .i64 r, .slice Ag G.length cg] ∧ Blk wr (w.heap.size + 1) 28 #[.slice (some aq) Q.length cq, .int .i64 f, .int .i64 t] ∧ New w5 wr) (fun _ j _ => l.length - (intOf j).toNat)
              case atStart => exact ⟨0, Nat.zero_le _, rfl, by rw [S0.out], B, B1q, b⟩
              case round =>
                clear B B1q b y0 y1 y2
                obtain ⟨k, hk, rfl, rfl, B, B1q, b⟩ := hrel
                by_cases hlk : k < l.length
                · have hkk : (k : Int) < (l.length : Int) := by omega
                  obtain ⟨g, c, x, y, hp, hxy, hyl, hsl, hne, V, hVx, hVy, hV⟩ := HST.out k hlk
                  obtain ⟨ap, rfl, -, -⟩ := read_part4 R5.out hlk
                  have FP := Lib.hid (fun (W : World) (hW : New w5 W) => show W.cell? (ap.add (k * 4)) = some (.int .i64 (g : Int)) ∧ W.cell? ⟨(ap.add (k * 4)).block, (ap.add (k * 4)).off + 1, none⟩ = some (.int .i64 (c : Int)) ∧ W.cell? ⟨(ap.add (k * 4)).block, (ap.add (k * 4)).off + 2, none⟩ = some (.int .i64 (x : Int)) ∧ W.cell? ⟨(ap.add (k * 4)).block, (ap.add (k * 4)).off + 3, none⟩ = some (.int .i64 (y : Int)) from by
                    obtain ⟨a', e, _, f0, f1, f2, f3⟩ := read_part4 (Reads.later R5.out hW) hlk
                    injection e with e
                    subst e
                    rw [hp] at f0 f1 f2 f3
                    exact ⟨f0, f1, f2, f3⟩)
                  have HNE := Lib.hid hne
                  have HVx := Lib.hid hVx
                  have HVy := Lib.hid hVy
                  have HV := Lib.hid hV
                  have b7 := New.trans b06 b
                  have F3 := Lib.hid (fun (W : World) (hW : New wr W) => And.intro (B.below hW B.lt) (And.intro (B1q.below hW B1q.lt) (And.intro (FP.out W (New.trans b hW)) (FQc.out W (New.trans b7 hW)))))
                  clear hp hne hVx hVy hV B B1q FP
                  obtain ⟨rk, hrk⟩ : ∃ rk, rk = RT ci l k := ⟨_, rfl⟩
                  rw [← hrk]
                  have HRK := Lib.hid hrk
                  clear hrk
                  go_wp2_with fail
                  refine wp_region_up New [(true, 0), (true, 1), (true, 2), (true, 3), (true, 4), (true, 5), (true, 6), (true, 7), (true, 8), (true, 9), (true, 10)]
                    New.refl New.trans (by kernel_rfl) (by kernel_rfl) (by kernel_rfl) (by kernel_rfl) ?_
                  have hU := New.drew wr
                  repeat (first
                    | (refine up_quiet rfl rfl (v := ?_) (fun W hQ => ?_) ?_; rotate_left; (obtain ⟨F1, F2, ⟨p0, p1, p2, p3⟩, q0⟩ := F3.out W (New.trans hU hQ); obtain ⟨x0, x1, x2⟩ := ccells F1; obtain ⟨y0, y1, y2⟩ := ccells F2; clear F1 F2; go_simp <;> with_reducible rfl); simp only [Act.put, List.setIfInBounds_toArray, List.set_cons_zero, List.set_cons_succ]))
                  refine up_nil ?_
                  have b8 := New.trans b hU
                  have F4 := Lib.hid (fun (W : World) (hW : New wr.drew W) => F3.out W (New.trans hU hW))
                  clear F3 hU b7 b
                  generalize wr.drew = wd at *
                  by_cases hcx : (c : Int) = ci
                  · subst hcx
                    have b7 := New.trans b06 b8
                    have SPk := Lib.hid (fun (W : World) (hW : New w W) => SP.out W hW (g : Int) (c : Int))
                    generalize SF (g : Int) (c : Int) = s at *
                    go_wp2_with fail
                    refine wp_region_up New [(true, 0), (true, 1), (true, 2), (true, 3), (true, 4), (true, 5), (true, 6), (true, 7), (true, 8), (true, 9), (true, 10), (false, 11), (true, 12)]
                      New.refl New.trans (by kernel_rfl) (by kernel_rfl) (by kernel_rfl) (by kernel_rfl) ?_
                    have hU := New.drew wd
                    repeat (first
                      | (refine up_quiet rfl rfl (v := ?_) (fun W hQ => ?_) ?_; rotate_left; (obtain ⟨F1, F2, ⟨p0, p1, p2, p3⟩, q0⟩ := F4.out W (New.trans hU hQ); obtain ⟨x0, x1, x2⟩ := ccells F1; obtain ⟨y0, y1, y2⟩ := ccells F2; clear F1 F2; go_simp <;> with_reducible rfl); simp only [Act.put, List.setIfInBounds_toArray, List.set_cons_zero, List.set_cons_succ]))
                    refine up_call rfl rfl (fun K hK => ?_)
                    go_simp
                    refine (SPk.out _ (New.trans b7 hU)).mono ?_
                    rintro e w6 ⟨A6, n6, c6, rfl, o6, b6⟩
                    refine hK _ _ b6 ?_
                    clear hK
                    have R6 := Reads.of_own o6
                    obtain rfl := R6.lenP
                    replace hU := New.trans hU b6
                    repeat (first
                      | (refine up_quiet rfl rfl (v := ?_) (fun W hQ => ?_) ?_; rotate_left; (go_simp <;> with_reducible rfl); simp only [Act.put, List.setIfInBounds_toArray, List.set_cons_zero, List.set_cons_succ]))
                    refine up_nil ?_
                    have b9 := New.trans b8 hU
                    have F5 := Lib.hid (fun (W : World) (hW : New w6 W) => And.intro (F4.out W (New.trans hU hW)) (Reads.later R6 hW))
                    clear F4 hU b7 b8 b6 o6 R6 SPk
                    have t1 : ¬ (x : Int) < 0 := by omega
                    have t2 : ¬ (y : Int) ≤ (x : Int) := by omega
                    have t3 : ¬ (s.length : Int) < (y : Int) := by omega
                    have t4 : ¬ y ≤ x := by omega
                    have t5 : ¬ s.length < y := by omega
                    go_wp2_with fail
                    refine wp_region_up New [(true, 0), (true, 1), (true, 2), (true, 3), (true, 4), (true, 5), (true, 6), (true, 7), (true, 8), (true, 9), (true, 10), (true, 11), (true, 12), (true, 13), (true, 14), (true, 15), (true, 16), (true, 17), (true, 18), (true, 19), (true, 20), (true, 21), (true, 22), (true, 23), (true, 24), (true, 25), (true, 26), (true, 27), (true, 28)]
                      New.refl New.trans (by kernel_rfl) (by kernel_rfl) (by kernel_rfl) (by kernel_rfl) ?_
                    have hU := New.drew w6
                    repeat (first
                      | (refine up_quiet rfl rfl (v := ?_) (fun W hQ => ?_) ?_; rotate_left; (obtain ⟨F1, F2, ⟨p0, p1, p2, p3⟩, q0⟩ := (fun W h => (F5.out W h).1) W (New.trans hU hQ); obtain ⟨x0, x1, x2⟩ := ccells F1; obtain ⟨y0, y1, y2⟩ := ccells F2; clear F1 F2; go_simp <;> with_reducible rfl); simp only [Act.put, List.setIfInBounds_toArray, List.set_cons_zero, List.set_cons_succ]))
                    refine up_nil ?_
                    have F6 := Lib.hid (fun (W : World) (hW : New w6.drew W) => F5.out W (New.trans hU hW))
                    have b10 := New.trans b9 hU
                    clear F5 hU b9
                    generalize w6.drew = wd2 at *
                    obtain ⟨⟨F1, F2, ⟨p0, p1, p2, p3⟩, q0⟩, RS⟩ := F6.out wd2 (New.refl _)
                    go_wp2_with fail
                    go_loopw [9, 12] (fun v j wr => ∃ q : Nat, x ≤ q ∧ q ≤ y ∧ j = .int .i64 (q : Int) ∧ v = .int .i64 (V q) ∧ New wd2 wr) (fun _ j _ => y - (intOf j).toNat)
                    case atStart => exact ⟨x, Nat.le_refl _, by omega, rfl, by rw [HVx.out, HRK.out], New.refl _⟩
                    case round =>
                      clear F1 F2 p0 p1 p2 p3 q0 RS
                      obtain ⟨q, hq1, hq2, rfl, rfl, b⟩ := hrel
                      obtain ⟨⟨F1, F2, ⟨p0, p1, p2, p3⟩, q0⟩, RS⟩ := F6.out wr b
                      obtain ⟨x0, x1, x2⟩ := ccells F1
                      obtain ⟨y0, y1, y2⟩ := ccells F2
                      by_cases hlq : q < y
                      · obtain ⟨v1, v2, v3, v4, v5⟩ := HV.out q hq1 hlq
                        have hql : q < s.length := by omega
                        obtain ⟨ads, rfl, -, -, -⟩ := RS.pair hql
                        have F7 := Lib.hid (fun (W : World) (hW : New wr W) => show _ ∧ W.cell? (ads.add (q * 2)) = some (.int .i64 (s.getD q (0, 0)).1) ∧ W.cell? ⟨(ads.add (q * 2)).block, (ads.add (q * 2)).off + 1, none⟩ = some (.int .i64 (s.getD q (0, 0)).2) from by
                          obtain ⟨F, R⟩ := F6.out W (New.trans b hW)
                          obtain ⟨a', e, _, f0, f1⟩ := R.pair hql
                          injection e with e
                          subst e
                          rw [← add_of_add] at f1
                          exact ⟨F, f0, f1⟩)
                        generalize s.getD q (0, 0) = sp at *
                        obtain ⟨s1, s2⟩ := sp
                        dsimp only at F7
                        have hn0 : rowsIn f t (s1, s2) = min s2 t - max s1 f := by
                          unfold rowsIn
                          dsimp only
                          split <;> split <;> omega
                        have hn : IntKind.i64.wrap (min s2 t - max s1 f) = rowsIn f t (s1, s2) := by
                          rw [← hn0, IntKind.wrap_i64]
                          omega
                        clear hn0
                        generalize rowsIn f t (s1, s2) = nn at *
                        have H1 := Lib.hid v1
                        clear v1
                        generalize V q = Vq at *
                        have wA : IntKind.i64.wrap (Vq + nn) = Vq + nn := by rw [IntKind.wrap_i64]; omega
                        have t4 : ¬ nn < 1 := by omega
                        have hqi : (q : Int) < (y : Int) := by omega
                        have hqs : (q : Int) < (s.length : Int) := by omega
                        have wB : IntKind.i64.wrap ((q : Int) + 1) = (q : Int) + 1 := by rw [IntKind.wrap_i64]; omega
                        go_wp2_with fail
                        refine wp_region_up New [(true, 0), (true, 1), (true, 2), (true, 3), (true, 4), (true, 5), (true, 6), (true, 7), (true, 8), (true, 9), (true, 10), (true, 11), (true, 12), (true, 13), (true, 14), (true, 15), (true, 16), (true, 17)]
                          New.refl New.trans (by kernel_rfl) (by kernel_rfl) (by kernel_rfl) (by kernel_rfl) ?_
                        have hU := New.drew wr
                        repeat (first
                          | (refine up_quiet rfl rfl (v := ?_) (fun W hQ => ?_) ?_; rotate_left; (obtain ⟨⟨F1, F2, ⟨p0, p1, p2, p3⟩, q0⟩, g0, g1⟩ := F7.out W (New.trans hU hQ); obtain ⟨x0, x1, x2⟩ := ccells F1; obtain ⟨y0, y1, y2⟩ := ccells F2; clear F1 F2; go_simp <;> with_reducible rfl); simp only [Act.put, List.setIfInBounds_toArray, List.set_cons_zero, List.set_cons_succ]))
                        refine up_nil ?_
                        have b11 := New.trans b hU
                        clear F7 hU
                        generalize wr.drew = wd3 at *
                        go_wp2_with fail
                        go_roundw
                        case rel => exact ⟨q + 1, by omega, by omega, by go_num, by rw [H1.out], b11⟩
                        case measure => simp [intOf]; omega
                      · obtain rfl : q = y := by omega
                        rw [HVy.out]
                        have hw9 := New.trans b10 b
                        go_wp2_with fail
                        go_roundw
                        case rel => exact ⟨k + 1, by omega, by go_num, rfl, F1, F2, hw9⟩
                        case measure => simp [intOf]; omega
                  · obtain ⟨F1, F2, ⟨p0, p1, p2, p3⟩, q0⟩ := F4.out wd (New.refl _)
                    rw [HRK.out]
                    have e9 := HNE.out ci hcx
                    rw [← e9]
                    clear e9
                    go_wp2_with fail
                    go_roundw
                    case rel => exact ⟨k + 1, by omega, by go_num, rfl, F1, F2, b8⟩
                    case measure => simp [intOf]; omega
                · obtain rfl : k = l.length := by omega
                  rw [HSAi.out]
                  obtain ⟨y0, y1, y2⟩ := ccells B1q
                  have wE : IntKind.i64.wrap (t - f) = t - f := by rw [IntKind.wrap_i64]; omega
                  go_wp2_with fail
                  go_roundw
                  case rel => exact ⟨i + 1, by omega, by go_num, B, B1q, b⟩
                  case measure => simp [intOf]; omega
            · obtain rfl : i = Q.length := by omega
              obtain ⟨x0, x1, x2⟩ := ccells B
              have b7 := New.trans b06 b
              go_wp2_with fail
              refine (HGR1.out _ b7).mono ?_
              rintro e w6 ⟨rfl, b6⟩
              have B1q := B1q.below b6 B1q.lt
              have b8 := New.trans b7 b6
              have HPL2 := HPL.out
              obtain ⟨a, bb⟩ := ab
              dsimp only at hab hb65 HPL2
              have w1 : IntKind.i64.wrap ((bb : Int) - (a : Int)) = (bb : Int) - (a : Int) := by rw [IntKind.wrap_i64]; omega
              have w2 : IntKind.i64.wrap (((bb : Int) - (a : Int)) * (Q.length : Int)) = (l.length : Int) := by
                obtain ⟨d, rfl⟩ : ∃ d, bb = a + d := ⟨bb - a, by omega⟩
                rw [Nat.add_sub_cancel_left] at HPL2
                have hm : d * Q.length ≤ 65536 * 64 := Nat.mul_le_mul (by omega) hq64
                have e1 : (((a + d : Nat) : Int) - (a : Int)) * (Q.length : Int) = ((d * Q.length : Nat) : Int) := by
                  rw [show ((a + d : Nat) : Int) - (a : Int) = (d : Int) by omega, Int.natCast_mul]
                rw [e1, IntKind.wrap_i64, HPL2]
                omega
              clear x0 x1 x2 y0 y1 y2 B b b6 b7 HPL2
              obtain ⟨y0, y1, y2⟩ := ccells B1q
              unfold pairN
              dsimp only
              go_wp2_with fail
              go_ret
              exact ⟨by simp, b8⟩
end

set_option maxRecDepth 100000 in
open Go.WideShapes Go.ChangeShapes in
theorem pickRows_contract {H : Type} {enc : TypeId × Value → H} (W : World) (base : Nat) (args : Array Value) (ds : List (DataW H)) (ps : List MemPlace)
    (hval : ∀ (j : Nat) t v, Try.f4.params[j]? = some t → args[j]? = some v → Value.okWide Try.prog W .any base t v)
    (hA : DataW.TrodAll enc Try.prog W 0 (fun _ => true) true Try.f4.params.toList args.toList ds ps) (hlt : ∀ p ∈ ps, p.block < W.heap.size)
    (hsz : (DataW.weightsEach Try.prog Try.f4.params.toList ds).all (· ≤ reachBytes) = true) :
    Calls Try.prog 4 args W fun e W' => e = .returned (.bool true) ∧ Below W.heap.size W W' := by
  rw [Try.params4] at hA hval hsz
  obtain ⟨v0, v1, d0, d1, p0, p1, rfl, rfl, rfl, h0, h1⟩ := trodAll_two hA
  -- t: v0 d0 p0 h0, hval 0
  -- q: v1 d1 p1 h1, hval 1
  obtain ⟨Ac, cc, L, r, Ag, cg, G, rfl, hF, hcg, hr, _, hG, hfew, hcap⟩ := open_Fo2 (hval 0 _ _ rfl rfl) h0 (fun p hp => hlt p (by simp [hp])) (sized_at hsz (j := 0) rfl rfl)
  obtain ⟨A, c, l, f, t, rfl, hc, hm, hq, hl⟩ := open_Q (hval 1 _ _ rfl rfl) h1 (fun p hp => hlt p (by simp [hp])) (sized_at hsz (j := 1) rfl rfl)
  exact pickRows_walk ⟨hF, hcg, hfew, hr, fun g hg => (hG g hg).1, fun g hg => (hG g hg).2, hcap, hq, hc, by omega, hl⟩

end Go.Proofs.Ythmjbdpkdomofaa
