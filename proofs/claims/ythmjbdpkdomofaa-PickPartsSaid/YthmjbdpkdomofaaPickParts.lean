/- PickParts returns true whatever comes in, and leaves all that was there as it was. -/
import Derived.Test.YthmjbdpkdomofaaBun7
import Derived.Test.YthmjbdpkdomofaaBun5
import Derived.Test.YthmjbdpkdomofaaBun4
import Derived.Test.YthmjbdpkdomofaaBun8

namespace Go.Proofs.Ythmjbdpkdomofaa
open Go Go.RowKit Go.Hm

section
variable {w : World} {Ac : Option Addr} {cc : Nat} {L : List ColS} {r : Int} {Ag : Option Addr} {cg : Nat} {G : List GrD} {Aq : Option Addr} {cq : Nat} {Q : List Int} {f m t : Int}
set_option maxHeartbeats 16000000 in
set_option maxRecDepth 100000 in
theorem pickParts_walk (h : FQ w Ac cc L r Ag cg G Aq cq Q) :
    Calls Try.prog 6 #[.agg #[.slice Ac L.length cc, .int .i64 r, .slice Ag G.length cg], .agg #[.slice Aq Q.length cq, .int .i64 f, .int .i64 t], .int .i64 m] w (SmallPost w) := by
  have FW := Lib.hid (fun (W : World) (hW : New w W) => show Calls Try.prog 10 #[.agg #[.slice Ac L.length cc, .int .i64 r, .slice Ag G.length cg]] W (BoolNew W) from few19_any (r := r) (cc := cc) (cg := cg) (h.foot.later hW) h.fine)
  have R1 := Lib.hid (fun (W : World) (hW : New w W) => show Calls Try.prog 20 #[.agg #[.slice Ac L.length cc, .int .i64 r, .slice Ag G.length cg]] W (NewPost (.bool (rightF (footP L r G))) W) from rfright_any (r := r) (cc := cc) (cg := cg) (h.foot.later hW) h.stat h.row8)
  have F1 := Lib.hid (fun (W : World) (hW : New w W) => show Calls Try.prog 21 #[.agg #[.slice Aq Q.length cq, .int .i64 f, .int .i64 t], .agg #[.slice Ac L.length cc, .int .i64 r, .slice Ag G.length cg]] W (NewPost (.bool (qfits Q f t L.length r)) W) from rqfits_any (A1 := Ac) (n1 := L.length) (c1 := cc) (rows := r) (A2 := Ag) (n2 := G.length) (c2 := cg) (c := cq) (f := f) (t := t) (Reads.later h.cols hW) (by have := h.fewq; omega))
  have OK := fun (e : rightF (footP L r G) = true) (e2 : qfits Q f t L.length r = true) => show okQ (footP L r G) Q f t = true from by
    unfold okQ
    rw [e]
    exact e2
  have SP := Lib.hid (fun (W : World) (hW : New w W) (g c : Int) => show Calls Try.prog 22 #[.agg #[.slice Ac L.length cc, .int .i64 r, .slice Ag G.length cg], .int .i64 g, .int .i64 c] W (SpansPost (spansF (footP L r G) g c) W) from fspans_any (r := r) (cc := cc) (cg := cg) (h.foot.later hW) h.stat h.cap)
  have HE := fun (e : rightF (footP L r G) = true) (e2 : qfits Q f t L.length r = true) (m1 : f ≤ m) (m2 : m ≤ t) => And.intro (fun (W : World) (hW : New w W) => show Calls Try.prog 18 #[.agg #[.slice Ac L.length cc, .int .i64 r, .slice Ag G.length cg], .agg #[.slice Aq Q.length cq, .int .i64 f, .int .i64 t]] W (NewPost (.int .i64 (bytesI (footP L r G) Q f t)) W) from by
      have := pbytes_any (f := f) (t := t) (h.later hW)
      rw [OK e e2] at this
      exact this)
    (And.intro (fun (W : World) (hW : New w W) => show Calls Try.prog 18 #[.agg #[.slice Ac L.length cc, .int .i64 r, .slice Ag G.length cg], .agg #[.slice Aq Q.length cq, .int .i64 f, .int .i64 m]] W (NewPost (.int .i64 (bytesI (footP L r G) Q f m)) W) from by
      have := pbytes_any (f := f) (t := m) (h.later hW)
      rw [(okQ_cut (OK e e2) m1 m2).1] at this
      exact this)
    (And.intro (fun (W : World) (hW : New w W) => show Calls Try.prog 18 #[.agg #[.slice Ac L.length cc, .int .i64 r, .slice Ag G.length cg], .agg #[.slice Aq Q.length cq, .int .i64 m, .int .i64 t]] W (NewPost (.int .i64 (bytesI (footP L r G) Q m t)) W) from by
      have := pbytes_any (f := m) (t := t) (h.later hW)
      rw [(okQ_cut (OK e e2) m1 m2).2] at this
      exact this)
    (And.intro (cut_all (OK e e2) m1 m2) (And.intro (bytesI_few (OK e e2)) (And.intro (bytesI_few (okQ_cut (OK e e2) m1 m2).1) (And.intro (bytesI_few (okQ_cut (OK e e2) m1 m2).2)
    (And.intro (cutA_few (okQ_foot (OK e e2)) (okQ_cols (OK e e2)).1 f m t Q.length (Nat.le_refl _)) (And.intro (okQ_cols (OK e e2)).2.2.2.2.2 (fun i hi => cut_step (f := f) (m := m) (t := t) (OK e e2) (i := i) hi)))))))))
  have S0 := Lib.hid (cutA_zero (footP L r G) f m t Q)
  have S1 := Lib.hid (fun c => cutG_zero (footP L r G) f m t c)
  have S2 := Lib.hid (fun c g => cutC_zero (footP L r G) f m t c g)
  have HQ := Lib.hid h.cols
  have HG := Lib.hid h.foot.groups
  have HCH := Lib.hid h.foot.chunks
  have HPG := Lib.hid h.foot.pages
  have hfewq := h.fewq
  have hfewG := h.fewG
  have hcq := h.capq
  clear h OK
  replace HE := Lib.hid HE
  generalize rightF (footP L r G) = M at *
  generalize qfits Q f t L.length r = N at *
  generalize cutA (footP L r G) f m t Q = CA at *
  generalize cutG (footP L r G) f m t = CG at *
  generalize cutC (footP L r G) f m t = CC at *
  generalize bytesI (footP L r G) Q = BI at *
  generalize spansF (footP L r G) = SF at *
  generalize aheadR (footP L r G).groups = AH at *
  have B0 := (Blk.new w 25 #[.slice Ac L.length cc, .int .i64 r, .slice Ag G.length cg]).alloc (.cells #[.slice Aq Q.length cq, .int .i64 f, .int .i64 t] 28)
  have B1 := Blk.new (w.alloc (.cells #[.slice Ac L.length cc, .int .i64 r, .slice Ag G.length cg] 25)) 28 #[.slice Aq Q.length cq, .int .i64 f, .int .i64 t]
  have b0 := new2 w (.cells #[.slice Ac L.length cc, .int .i64 r, .slice Ag G.length cg] 25) (.cells #[.slice Aq Q.length cq, .int .i64 f, .int .i64 t] 28)
  simp only [World.size_alloc] at B1
  go_enter Try.func6, Try.ntmps6
  go_wp2_with fail
  refine (small25_any _).mono ?_
  rintro e w1 ⟨rfl, b1⟩
  have B0 := B0.below b1 B0.lt
  have B1 := B1.below b1 B1.lt
  have b01 := New.trans b0 b1
  clear b0 b1
  obtain ⟨x0, x1, x2⟩ := ccells B0
  go_wp2_with fail
  refine (FW.out _ b01).mono ?_
  rintro e w2 ⟨bb, rfl, b2⟩
  have B0 := B0.below b2 B0.lt
  have B1 := B1.below b2 B1.lt
  have b03 := New.trans b01 b2
  clear x0 x1 x2 FW b01 b2
  obtain ⟨x0, x1, x2⟩ := ccells B0
  obtain ⟨y0, y1, y2⟩ := ccells B1
  cases bb with
  | false =>
    go_wp2
    go_ret
    exact ⟨rfl, b03⟩
  | true =>
    by_cases hq : (100 : Int) < (Q.length : Int)
    · go_wp2
      go_ret
      exact ⟨rfl, b03⟩
    · go_wp2_with fail
      refine (R1.out _ b03).mono ?_
      rintro e w3 ⟨rfl, b3⟩
      have B0 := B0.below b3 B0.lt
      have B1 := B1.below b3 B1.lt
      have b04 := New.trans b03 b3
      clear x0 x1 x2 y0 y1 y2 R1 b03 b3
      cases M with
      | false =>
        go_wp2
        go_ret
        exact ⟨rfl, b04⟩
      | true =>
        have HE1 := Lib.hid (HE.out (by trivial))
        clear HE
        obtain ⟨x0, x1, x2⟩ := ccells B0
        obtain ⟨y0, y1, y2⟩ := ccells B1
        go_wp2_with fail
        refine (F1.out _ b04).mono ?_
        rintro e w4 ⟨rfl, b4⟩
        have B0 := B0.below b4 B0.lt
        have B1 := B1.below b4 B1.lt
        have b05 := New.trans b04 b4
        clear x0 x1 x2 y0 y1 y2 F1 b04 b4
        cases N with
        | false =>
          go_wp2
          go_ret
          exact ⟨rfl, b05⟩
        | true =>
          obtain ⟨x0, x1, x2⟩ := ccells B0
          obtain ⟨y0, y1, y2⟩ := ccells B1
          by_cases hm1 : m < f
          · go_wp2
            go_ret
            exact ⟨rfl, b05⟩
          by_cases hm2 : t < m
          · go_wp2
            go_ret
            exact ⟨rfl, b05⟩
          obtain ⟨HB0, HB1, HB2, hsum, hq1, hq2, hq3, hq4, hq64, ST⟩ := HE1.out (by trivial) (by omega) (by omega)
          have HST := Lib.hid ST
          have K0 := Lib.hid HB0
          have K1 := Lib.hid HB1
          have K2 := Lib.hid HB2
          have HS := Lib.hid hsum
          clear HE1 ST HB0 HB1 HB2 hsum
          go_wp2_with fail
          refine (K0.out _ b05).mono ?_
          rintro e w5 ⟨rfl, b5⟩
          have B0 := B0.below b5 B0.lt
          have B1 := B1.below b5 B1.lt
          have b06 := New.trans b05 b5
          clear x0 x1 x2 y0 y1 y2 K0 b5 b05
          obtain ⟨x0, x1, x2⟩ := ccells B0
          obtain ⟨y0, y1, y2⟩ := ccells B1
          go_wp2_with fail
          refine (K1.out _ b06).mono ?_
          rintro e w6 ⟨rfl, b6⟩
          have B0 := B0.below b6 B0.lt
          have B1 := B1.below b6 B1.lt
          have b07 := New.trans b06 b6
          clear x0 x1 x2 y0 y1 y2 K1 b6 b06
          obtain ⟨x0, x1, x2⟩ := ccells B0
          obtain ⟨y0, y1, y2⟩ := ccells B1
          go_wp2_with fail
          refine (K2.out _ b07).mono ?_
          rintro e w7 ⟨rfl, b7⟩
          have B0 := B0.below b7 B0.lt
          have B1 := B1.below b7 B1.lt
          have b08 := New.trans b07 b7
          clear x0 x1 x2 y0 y1 y2 K2 b7 b07
          generalize BI f t = bt at *
          generalize BI f m = ba at *
          generalize BI m t = bb at *
          go_wp2_with fail
          go_loopw [12, 13] (fun v j wr => ∃ i : Nat, i ≤ Q.length ∧ j = .int .i64 (i : Int) ∧ v = .int .i64 (CA i) ∧ Blk wr w.heap.size 25 #[.slice Ac L.length cc, .int .i64 r, .slice Ag G.length cg] ∧ Blk wr (w.heap.size + 1) 28 #[.slice Aq Q.length cq, .int .i64 f, .int .i64 t] ∧ New w wr) (fun _ j _ => Q.length - (intOf j).toNat)
          case atStart => exact ⟨0, Nat.zero_le _, rfl, by rw [S0.out], B0, B1, b08⟩
          case round =>
            obtain ⟨i, hi, rfl, rfl, B, B1q, b⟩ := hrel
            clear B0 B1
            obtain ⟨y0, y1, y2⟩ := ccells B1q
            by_cases hlt : i < Q.length
            · have hii : (i : Int) < (Q.length : Int) := by omega
              obtain ⟨c, hqc, hcL, hA, hA0, hA1, hG65, hst⟩ := HST.out i hlt
              obtain ⟨aq, rfl, -, -⟩ := HQ.out.int hlt
              have FQc := Lib.hid (fun (W : World) (hW : New w W) => show W.cell? (aq.add i) = some (.int .i64 (c : Int)) from by
                obtain ⟨a', e, _, f⟩ := (Reads.later HQ.out hW).int hlt
                injection e with e
                subst e
                rw [hqc] at f
                exact f)
              have HA := Lib.hid hA
              have HSg := Lib.hid hst
              clear hqc hA hst
              generalize CA i = ai at *
              go_wp2_with fail
              go_loopw [12, 14] (fun v j wr => ∃ g : Nat, g ≤ G.length ∧ j = .int .i64 (g : Int) ∧ v = .int .i64 (ai + CG (c : Int) g) ∧ Blk wr w.heap.size 25 #[.slice Ac L.length cc, .int .i64 r, .slice Ag G.length cg] ∧ Blk wr (w.heap.size + 1) 28 #[.slice (some aq) Q.length cq, .int .i64 f, .int .i64 t] ∧ New w wr) (fun _ j _ => G.length - (intOf j).toNat)
              case atStart => exact ⟨0, Nat.zero_le _, rfl, by rw [S1.out, Int.add_zero], B, B1q, b⟩
              case round =>
                clear B B1q b y0 y1 y2
                obtain ⟨g, hg, rfl, rfl, B, B1q, b⟩ := hrel
                obtain ⟨x0, x1, x2⟩ := ccells B
                by_cases hlg : g < G.length
                · have hgi : (g : Int) < (G.length : Int) := by omega
                  obtain ⟨hDl, hsp, hpl, hG1, hG2, hG3, hpg2⟩ := HSg.out g hlg
                  obtain ⟨ag, rfl, -, -, -⟩ := HG.out.gr2 hlg
                  have FG := Lib.hid (fun (W : World) (hW : New w W) => show W.cell? ⟨(ag.add (g * 2)).block, (ag.add (g * 2)).off + 1, none⟩ = some (.slice (G.getD g grZ).2.1 (G.getD g grZ).2.2.2.length (G.getD g grZ).2.2.1) from by
                    obtain ⟨a', e, _, _, f⟩ := (Reads.later HG.out hW).gr2 hlg
                    injection e with e
                    subst e
                    exact f)
                  have hgm := mem_getDF grZ hlg
                  have hch := HCH.out _ hgm
                  have hpg := HPG.out _ hgm
                  clear hgm
                  generalize G.getD g grZ = gg at *
                  obtain ⟨gr, Ach, cch, D⟩ := gg
                  dsimp only at FG hch hpg hDl hsp hpl hG1 hpg2
                  have hcD : c < D.length := by omega
                  obtain ⟨ac, rfl, -, -⟩ := hch.1.ch1 hcD
                  have FC := Lib.hid (fun (W : World) (hW : New w W) => show W.cell? (ac.add c) = some (.slice (D.getD c chZ).1 (D.getD c chZ).2.2.length (D.getD c chZ).2.1) from by
                    obtain ⟨a', e, _, f⟩ := (Reads.later hch.1 hW).ch1 hcD
                    injection e with e
                    subst e
                    exact f)
                  obtain ⟨hpr, hpn⟩ := hpg _ (mem_getDF chZ hcD)
                  clear hch hpg
                  generalize D.getD c chZ = xx at *
                  obtain ⟨Ax, cx, pl⟩ := xx
                  dsimp only at FC hpn hpr hsp hpl hG1 hpg2
                  have SPk := Lib.hid (fun (W : World) (hW : New w W) => SP.out W hW (g : Int) (c : Int))
                  rw [hsp] at SPk
                  have hsl : (spansL (AH g) pl).length = pl.length := spansL_len _ _
                  generalize spansL (AH g) pl = s at *
                  have HG1 := Lib.hid hG1
                  have HP := Lib.hid hpg2
                  have HPR := Lib.hid hpr
                  have HDl := Lib.hid hDl
                  obtain ⟨z0, hz0⟩ : ∃ z, z = ai + CG (c : Int) g := ⟨_, rfl⟩
                  rw [← hz0]
                  have hz1 : 0 ≤ z0 ∧ z0 ≤ 20000000000000000 := by omega
                  have HZ := Lib.hid hz0
                  have hci : (c : Int) < (D.length : Int) := by omega
                  clear hsp hG1 hpg2 hpr hDl hz0 hG2 hG3
                  have F3 := Lib.hid (fun (W : World) (hW : New wr W) => And.intro (B.below hW B.lt) (And.intro (B1q.below hW B1q.lt) (And.intro (FG.out W (New.trans b hW)) (And.intro (FC.out W (New.trans b hW)) (FQc.out W (New.trans b hW))))))
                  clear B B1q FG FC
                  go_wp2_with fail
                  clear x0 x1 x2
                  refine wp_region_up New [(true, 0), (true, 1), (true, 2), (true, 3), (true, 4), (true, 5), (true, 6), (false, 7), (true, 8)]
                    New.refl New.trans (by kernel_rfl) (by kernel_rfl) (by kernel_rfl) (by kernel_rfl) ?_
                  have hU := New.drew wr
                  repeat (first
                    | (refine up_quiet rfl rfl (v := ?_) (fun W hQ => ?_) ?_; rotate_left; (obtain ⟨F1, F2, f1, f2, f3⟩ := F3.out W (New.trans hU hQ); obtain ⟨x0, x1, x2⟩ := ccells F1; obtain ⟨y0, y1, y2⟩ := ccells F2; clear F1 F2; go_simp <;> with_reducible rfl); simp only [Act.put, List.setIfInBounds_toArray, List.set_cons_zero, List.set_cons_succ]))
                  refine up_call rfl rfl (fun K hK => ?_)
                  go_simp
                  refine (SPk.out _ (New.trans b hU)).mono ?_
                  rintro e w8 ⟨A6, n6, c6, rfl, o6, b6⟩
                  refine hK _ _ b6 ?_
                  clear hK
                  have R6 := Reads.of_own o6
                  obtain rfl : n6 = pl.length := by rw [R6.lenP, hsl]
                  replace hU := New.trans hU b6
                  repeat (first
                    | (refine up_quiet rfl rfl (v := ?_) (fun W hQ => ?_) ?_; rotate_left; (go_simp <;> with_reducible rfl); simp only [Act.put, List.setIfInBounds_toArray, List.set_cons_zero, List.set_cons_succ]))
                  refine up_nil ?_
                  have b9 := New.trans b hU
                  have F5 := Lib.hid (fun (W : World) (hW : New w8 W) => And.intro (F3.out W (New.trans hU hW)) (Reads.later R6 hW))
                  clear F3 hU b b6 o6 R6 SPk
                  have t3 : ((pl.length : Int) != (pl.length : Int)) = false := by simp
                  go_wp2_with fail
                  refine wp_region_up New [(true, 0), (true, 1), (true, 2), (true, 3), (true, 4), (true, 5), (true, 6), (true, 7), (true, 8), (true, 9), (true, 10), (true, 11), (true, 12), (true, 13), (true, 14), (true, 15), (true, 16)]
                    New.refl New.trans (by kernel_rfl) (by kernel_rfl) (by kernel_rfl) (by kernel_rfl) ?_
                  have hU := New.drew w8
                  repeat (first
                    | (refine up_quiet rfl rfl (v := ?_) (fun W hQ => ?_) ?_; rotate_left; (obtain ⟨F1, F2, f1, f2, f3⟩ := (F5.out W (New.trans hU hQ)).1; obtain ⟨x0, x1, x2⟩ := ccells F1; obtain ⟨y0, y1, y2⟩ := ccells F2; clear F1 F2; go_simp <;> with_reducible rfl); simp only [Act.put, List.setIfInBounds_toArray, List.set_cons_zero, List.set_cons_succ]))
                  refine up_nil ?_
                  have F6 := Lib.hid (fun (W : World) (hW : New w8.drew W) => F5.out W (New.trans hU hW))
                  have b10 := New.trans b9 hU
                  clear F5 hU b9 t3
                  generalize w8.drew = wd2 at *
                  go_wp2_with fail
                  go_loopw [12, 16] (fun v j wr => ∃ q : Nat, q ≤ pl.length ∧ j = .int .i64 (q : Int) ∧ v = .int .i64 (z0 + CC (c : Int) g q) ∧ New wd2 wr) (fun _ j _ => pl.length - (intOf j).toNat)
                  case atStart => exact ⟨0, Nat.zero_le _, rfl, by rw [S2.out, Int.add_zero], New.refl _⟩
                  case round =>
                    obtain ⟨q, hq, rfl, rfl, b⟩ := hrel
                    by_cases hlq : q < pl.length
                    · obtain ⟨hc0, hc1, hcs, hsz0, hsz1⟩ := HP.out q hlq
                      obtain ⟨⟨F1, F2, -, -, -⟩, RS⟩ := F6.out wr b
                      have hql : q < pl.length := hlq
                      obtain ⟨ads, rfl, -, s0, s1⟩ := RS.pair hql
                      have s2 : wr.cell? ⟨(ads.add (q * 2)).block, (ads.add (q * 2)).off + 1, none⟩ = some (.int .i64 (s.getD q (0, 0)).2) := by rw [← add_of_add] at s1; exact s1
                      clear s1
                      obtain ⟨ax, rfl, -, -⟩ := HPR.out.page14 hql
                      have F7 := Lib.hid (fun (W : World) (hW : New wr W) => show _ ∧ W.cell? (ax.add (q * 14)) = some (.int .i64 (pl.getD q pageZ).1) from by
                        obtain ⟨F, R⟩ := F6.out W (New.trans b hW)
                        obtain ⟨a', e, _, d0, _⟩ := (Reads.later HPR.out (New.trans b10 (New.trans b hW))).page14 hql
                        injection e with e
                        subst e
                        exact ⟨F, d0⟩)
                      generalize pl.getD q pageZ = pg at *
                      generalize s.getD q (0, 0) = sp at *
                      obtain ⟨u1, u2⟩ := sp
                      obtain ⟨sz, pgr⟩ := pg
                      dsimp only at s0 s2 F7 hsz0 hsz1
                      clear RS
                      obtain ⟨y0, y1, y2⟩ := ccells F2
                      have HC := Lib.hid hcs
                      clear hcs
                      generalize CC (c : Int) g q = cq0 at *
                      have wB : IntKind.i64.wrap ((q : Int) + 1) = (q : Int) + 1 := by rw [IntKind.wrap_i64]; omega
                      have hqi : (q : Int) < (pl.length : Int) := by omega
                      have b11 := New.trans b10 b
                      by_cases hall : u1 < m ∧ m < u2 ∧ f < m ∧ m < t
                      · have e1 : midI f m t ((u1, u2), (sz, pgr)) = sz := if_pos hall
                        rw [e1] at HC
                        have wA : IntKind.i64.wrap (z0 + cq0 + sz) = z0 + cq0 + sz := by rw [IntKind.wrap_i64]; omega
                        obtain ⟨a1, a2, a3, a4⟩ := hall
                        clear e1
                        go_wp2_with fail
                        clear s0 s2 y0 y1 y2 F1 F2
                        refine wp_region_up New [(true, 0), (true, 1), (true, 2), (true, 3), (true, 4), (true, 5), (true, 6), (true, 7), (true, 8), (true, 9), (true, 10), (true, 11), (true, 12), (true, 13), (true, 14), (true, 15), (true, 16), (true, 17), (true, 18), (true, 19)]
                          New.refl New.trans (by kernel_rfl) (by kernel_rfl) (by kernel_rfl) (by kernel_rfl) ?_
                        have hU := New.drew wr
                        repeat (first
                          | (refine up_quiet rfl rfl (v := ?_) (fun W hQ => ?_) ?_; rotate_left; (obtain ⟨⟨F1, F2, f1, f2, f3⟩, d0⟩ := F7.out W (New.trans hU hQ); obtain ⟨x0, x1, x2⟩ := ccells F1; obtain ⟨y0, y1, y2⟩ := ccells F2; clear F1 F2; go_simp <;> with_reducible rfl); simp only [Act.put, List.setIfInBounds_toArray, List.set_cons_zero, List.set_cons_succ]))
                        refine up_nil ?_
                        have b12 := New.trans b hU
                        clear F7 hU
                        generalize wr.drew = wd3 at *
                        go_wp2_with fail
                        go_roundw
                        case rel => exact ⟨q + 1, by omega, by go_num, by rw [HC.out, Int.add_assoc], b12⟩
                        case measure => simp [intOf]; omega
                      · have e1 : midI f m t ((u1, u2), (sz, pgr)) = 0 := if_neg hall
                        rw [e1, Int.add_zero] at HC
                        have hor : (decide (u1 < m) = false) ∨ (decide (u1 < m) = true ∧ decide (m < u2) = false) ∨ (decide (u1 < m) = true ∧ decide (m < u2) = true ∧ decide (f < m) = false) ∨ (decide (u1 < m) = true ∧ decide (m < u2) = true ∧ decide (f < m) = true ∧ decide (m < t) = false) := by
                          by_cases a1 : u1 < m
                          · by_cases a2 : m < u2
                            · by_cases a3 : f < m
                              · exact .inr (.inr (.inr ⟨decide_eq_true a1, decide_eq_true a2, decide_eq_true a3, decide_eq_false (fun a4 => hall ⟨a1, a2, a3, a4⟩)⟩))
                              · exact .inr (.inr (.inl ⟨decide_eq_true a1, decide_eq_true a2, decide_eq_false a3⟩))
                            · exact .inr (.inl ⟨decide_eq_true a1, decide_eq_false a2⟩)
                          · exact .inl (decide_eq_false a1)
                        clear e1 hall F7
                        rcases hor with a1 | ⟨a1, a2⟩ | ⟨a1, a2, a3⟩ | ⟨a1, a2, a3, a4⟩
                        all_goals
                          go_wp2_with fail
                          go_roundw
                          case rel => exact ⟨q + 1, by omega, by go_num, by rw [HC.out], b⟩
                          case measure => simp [intOf]; omega
                    · obtain rfl : q = pl.length := by omega
                      obtain ⟨⟨F1, F2, -, -, -⟩, -⟩ := F6.out wr b
                      have b11 := New.trans b10 b
                      have e2 : z0 + CC (c : Int) g pl.length = ai + CG (c : Int) (g + 1) := by rw [HZ.out, HG1.out]; omega
                      rw [e2]
                      clear e2
                      go_wp2_with fail
                      go_roundw
                      case rel => exact ⟨g + 1, by omega, by go_num, rfl, F1, F2, b11⟩
                      case measure => simp [intOf]; omega
                · obtain rfl : g = G.length := by omega
                  rw [← HA.out]
                  go_wp2_with fail
                  go_roundw
                  case rel => exact ⟨i + 1, by omega, by go_num, rfl, B, B1q, b⟩
                  case measure => simp [intOf]; omega
            · obtain rfl : i = Q.length := by omega
              have HS2 := HS.out
              generalize CA Q.length = cz at *
              have w1 : IntKind.i64.wrap (ba + bb) = bt + cz := by rw [IntKind.wrap_i64]; omega
              have w2 : IntKind.i64.wrap (bt + cz) = bt + cz := by rw [IntKind.wrap_i64]; omega
              clear HS2
              go_wp2_with fail
              go_ret
              exact ⟨by simp, b⟩
end

set_option maxRecDepth 100000 in
open Go.WideShapes Go.ChangeShapes in
theorem pickParts_contract {H : Type} {enc : TypeId × Value → H} (W : World) (base : Nat) (args : Array Value) (ds : List (DataW H)) (ps : List MemPlace)
    (hval : ∀ (j : Nat) t v, Try.f6.params[j]? = some t → args[j]? = some v → Value.okWide Try.prog W .any base t v)
    (hA : DataW.TrodAll enc Try.prog W 0 (fun _ => true) true Try.f6.params.toList args.toList ds ps) (hlt : ∀ p ∈ ps, p.block < W.heap.size)
    (hsz : (DataW.weightsEach Try.prog Try.f6.params.toList ds).all (· ≤ reachBytes) = true) :
    Calls Try.prog 6 args W fun e W' => e = .returned (.bool true) ∧ Below W.heap.size W W' := by
  rw [Try.params6] at hA hval hsz
  obtain ⟨v0, v1, v2, d0, d1, d2, p0, p1, p2, rfl, rfl, rfl, h0, h1, h2⟩ := trodAll_three hA
  -- t: v0 d0 p0 h0, hval 0
  -- q: v1 d1 p1 h1, hval 1
  obtain ⟨m, rfl, wm, wm'⟩ := open_i64 (hval 2 _ _ rfl rfl) h2
  obtain ⟨Ac, cc, L, r, Ag, cg, G, rfl, hF, hcg, hr, _, hG, hfew, hcap⟩ := open_Fo2 (hval 0 _ _ rfl rfl) h0 (fun p hp => hlt p (by simp [hp])) (sized_at hsz (j := 0) rfl rfl)
  obtain ⟨A, c, l, f, t, rfl, hc, hm, hq, hl⟩ := open_Q (hval 1 _ _ rfl rfl) h1 (fun p hp => hlt p (by simp [hp])) (sized_at hsz (j := 1) rfl rfl)
  exact pickParts_walk ⟨hF, hcg, hfew, hr, fun g hg => (hG g hg).1, fun g hg => (hG g hg).2, hcap, hq, hc, by omega, hl⟩

end Go.Proofs.Ythmjbdpkdomofaa
