/- PickFew returns true whatever comes in, and leaves all that was there as it was. -/
import Derived.Test.YthmjbdpkdomofaaBun7
import Derived.Test.YthmjbdpkdomofaaBun5
import Derived.Test.YthmjbdpkdomofaaBun4
import Derived.Test.YthmjbdpkdomofaaBun8
import Derived.Test.YthmjbdpkdomofaaBun6

namespace Go.Proofs.Ythmjbdpkdomofaa
open Go Go.RowKit Go.Hm
theorem few_facts {F : FootS} {Q : List Int} {f t : Int} (h : okQ F Q f t = true) :
    (∀ m k, k < (partsQ true F Q f t).length → ∃ g c x y : Nat, (partsQ true F Q f t).getD k partZ = ((g : Int), (c : Int), (x : Int), (y : Int)) ∧ x ≤ y ∧ y ≤ (spansF F (g : Int) (c : Int)).length ∧ (spansF F (g : Int) (c : Int)).length ≤ 65536 ∧
      (∀ q, x ≤ q → q < y → besTo f t (spansF F (g : Int) (c : Int)) x (q + 1) = besTo f t (spansF F (g : Int) (c : Int)) x q + besI f t ((spansF F (g : Int) (c : Int)).getD q (0, 0))) ∧
      (∀ q, x ≤ q → q ≤ y → 0 ≤ besTo f t (spansF F (g : Int) (c : Int)) x q ∧ besTo f t (spansF F (g : Int) (c : Int)) x q ≤ 2) ∧
      mostTo F m (partsQ true F Q f t) (k + 1) = mostTo F m (partsQ true F Q f t) k + 2 * (depthN (spansF F (g : Int) (c : Int)).length : Nat) + (depthN F.cols.length : Nat) ∧
      m ≤ mostTo F m (partsQ true F Q f t) k ∧ mostTo F m (partsQ true F Q f t) k ≤ m + 201326592 ∧ depthN (spansF F (g : Int) (c : Int)).length ≤ 16 ∧ depthN F.cols.length ≤ 16) ∧
    (0 ≤ digestsQ true F Q f t ∧ digestsQ true F Q f t ≤ mostTo F (2 * (depthN F.groups.length : Nat) + 1 + (((groupsQ true F f t).2 : Nat) - ((groupsQ true F f t).1 : Nat))) (partsQ true F Q f t) (partsQ true F Q f t).length) ∧
    (groupsQ true F f t).1 ≤ (groupsQ true F f t).2 ∧ (groupsQ true F f t).2 ≤ 65536 ∧ depthN F.groups.length ≤ 16 ∧ F.cols.length ≤ 64 ∧ F.groups.length ≤ 65536 ∧ (partsQ true F Q f t).length ≤ 4194304 := by
  have hF := okQ_foot h
  have hle := groupsQ_le h
  have hgf := rows_sum_le hF
  have hl := parts_len h
  have hs := fun m k (hk : k < (partsQ (okQ F Q f t) F Q f t).length) => few_step h m hk
  have ha := few_all h
  rw [h] at hl hs ha
  refine ⟨fun m k hk => ?_, ha, hle.1, by omega, depth_few hgf, cols_few hF, hgf, hl⟩
  obtain ⟨g, c, x, y, a1, _, _, a4⟩ := hs m k hk
  exact ⟨g, c, x, y, a1, a4⟩

section
variable {w : World} {Ac : Option Addr} {cc : Nat} {L : List ColS} {r : Int} {Ag : Option Addr} {cg : Nat} {G : List GrD} {Aq : Option Addr} {cq : Nat} {Q : List Int} {f t : Int}
set_option maxHeartbeats 16000000 in
set_option maxRecDepth 100000 in
theorem pickFew_walk (h : FQ w Ac cc L r Ag cg G Aq cq Q) :
    Calls Try.prog 5 #[.agg #[.slice Ac L.length cc, .int .i64 r, .slice Ag G.length cg], .agg #[.slice Aq Q.length cq, .int .i64 f, .int .i64 t]] w (SmallPost w) := by
  have FW := Lib.hid (fun (W : World) (hW : New w W) => show Calls Try.prog 10 #[.agg #[.slice Ac L.length cc, .int .i64 r, .slice Ag G.length cg]] W (BoolNew W) from few19_any (r := r) (cc := cc) (cg := cg) (h.foot.later hW) h.fine)
  have R1 := Lib.hid (fun (W : World) (hW : New w W) => show Calls Try.prog 20 #[.agg #[.slice Ac L.length cc, .int .i64 r, .slice Ag G.length cg]] W (NewPost (.bool (rightF (footP L r G))) W) from rfright_any (r := r) (cc := cc) (cg := cg) (h.foot.later hW) h.stat h.row8)
  have F1 := Lib.hid (fun (W : World) (hW : New w W) => show Calls Try.prog 21 #[.agg #[.slice Aq Q.length cq, .int .i64 f, .int .i64 t], .agg #[.slice Ac L.length cc, .int .i64 r, .slice Ag G.length cg]] W (NewPost (.bool (qfits Q f t L.length r)) W) from rqfits_any (A1 := Ac) (n1 := L.length) (c1 := cc) (rows := r) (A2 := Ag) (n2 := G.length) (c2 := cg) (c := cq) (f := f) (t := t) (Reads.later h.cols hW) (by have := h.fewq; omega))
  have OK := fun (e : rightF (footP L r G) = true) (e2 : qfits Q f t L.length r = true) => show okQ (footP L r G) Q f t = true from by
    unfold okQ
    rw [e]
    exact e2
  have SP := Lib.hid (fun (W : World) (hW : New w W) (g c : Int) => show Calls Try.prog 22 #[.agg #[.slice Ac L.length cc, .int .i64 r, .slice Ag G.length cg], .int .i64 g, .int .i64 c] W (SpansPost (spansF (footP L r G) g c) W) from fspans_any (r := r) (cc := cc) (cg := cg) (h.foot.later hW) h.stat h.cap)
  have HE := fun (e : rightF (footP L r G) = true) (e2 : qfits Q f t L.length r = true) => And.intro (fun (W : World) (hW : New w W) => show Calls Try.prog 14 #[.agg #[.slice Ac L.length cc, .int .i64 r, .slice Ag G.length cg], .agg #[.slice Aq Q.length cq, .int .i64 f, .int .i64 t]] W (PartsPost (partsQ true (footP L r G) Q f t) W) from by
      have := pparts_any (f := f) (t := t) (h.later hW)
      rw [OK e e2] at this
      exact this)
    (And.intro (fun (W : World) (hW : New w W) => show Calls Try.prog 11 #[.agg #[.slice Ac L.length cc, .int .i64 r, .slice Ag G.length cg], .agg #[.slice Aq Q.length cq, .int .i64 f, .int .i64 t]] W (NewPost (pairN (groupsQ true (footP L r G) f t)) W) from by
      have := pgroups_any (f := f) (t := t) (h.later hW)
      rw [OK e e2] at this
      exact this)
    (And.intro (fun (W : World) (hW : New w W) => show Calls Try.prog 16 #[.agg #[.slice Ac L.length cc, .int .i64 r, .slice Ag G.length cg], .agg #[.slice Aq Q.length cq, .int .i64 f, .int .i64 t]] W (NewPost (.int .i64 (digestsQ true (footP L r G) Q f t)) W) from by
      have := pdigests_any (f := f) (t := t) (h.later hW)
      rw [OK e e2] at this
      exact this) (few_facts (OK e e2))))
  have hGl : (footP L r G).groups.length = G.length := by unfold footP; simp
  have hLl : (footP L r G).cols.length = L.length := rfl
  rw [hGl, hLl] at HE
  clear hGl hLl
  have S0 := Lib.hid (fun m => mostTo_zero (footP L r G) m (partsQ true (footP L r G) Q f t))
  have DS := fun (n : Nat) (hn : n ≤ 4398046511104) (W : World) => show Calls Try.prog 23 #[.int .i64 (n : Int)] W (ValPost (.int .i64 (depthN n : Nat)) W) from by
    have := depth_any (n + 1) (n : Int) W (by omega) (by omega) (by omega)
    rwa [Int.toNat_natCast] at this
  have DG := Lib.hid (DS _ h.fewG)
  replace DS := Lib.hid DS
  have HQ := Lib.hid h.cols
  have hfewq := h.fewq
  have hfewG := h.fewG
  have hcq := h.capq
  clear h OK
  replace HE := Lib.hid HE
  generalize rightF (footP L r G) = M at *
  generalize qfits Q f t L.length r = N at *
  generalize mostTo (footP L r G) = MT at *
  generalize spansF (footP L r G) = SF at *
  generalize partsQ true (footP L r G) Q f t = l at *
  generalize groupsQ true (footP L r G) f t = ab at *
  generalize digestsQ true (footP L r G) Q f t = dq at *
  have B0 := (Blk.new w 25 #[.slice Ac L.length cc, .int .i64 r, .slice Ag G.length cg]).alloc (.cells #[.slice Aq Q.length cq, .int .i64 f, .int .i64 t] 28)
  have B1 := Blk.new (w.alloc (.cells #[.slice Ac L.length cc, .int .i64 r, .slice Ag G.length cg] 25)) 28 #[.slice Aq Q.length cq, .int .i64 f, .int .i64 t]
  have b0 := new2 w (.cells #[.slice Ac L.length cc, .int .i64 r, .slice Ag G.length cg] 25) (.cells #[.slice Aq Q.length cq, .int .i64 f, .int .i64 t] 28)
  simp only [World.size_alloc] at B1
  go_enter Try.func5, Try.ntmps5
  go_wp2_with fail
  refine (small25_any _).mono ?_
  rintro e w1 ⟨rfl, b1⟩
  have B0 := B0.below b1 B0.lt
  have B1 := B1.below b1 B1.lt
  have b01 := New.trans b0 b1
  clear b0 b1
  obtain ⟨x0, x1, x2⟩ := ccells B0
  go_wp2_with fail
  refine (FW.out _ b01).mono ?_
  rintro e w2 ⟨bb, rfl, b2⟩
  have B0 := B0.below b2 B0.lt
  have B1 := B1.below b2 B1.lt
  have b03 := New.trans b01 b2
  clear x0 x1 x2 FW b01 b2
  obtain ⟨x0, x1, x2⟩ := ccells B0
  obtain ⟨y0, y1, y2⟩ := ccells B1
  cases bb with
  | false =>
    go_wp2
    go_ret
    exact ⟨rfl, b03⟩
  | true =>
    by_cases hq : (100 : Int) < (Q.length : Int)
    · go_wp2
      go_ret
      exact ⟨rfl, b03⟩
    · go_wp2_with fail
      refine (R1.out _ b03).mono ?_
      rintro e w3 ⟨rfl, b3⟩
      have B0 := B0.below b3 B0.lt
      have B1 := B1.below b3 B1.lt
      have b04 := New.trans b03 b3
      clear x0 x1 x2 y0 y1 y2 R1 b03 b3
      cases M with
      | false =>
        go_wp2
        go_ret
        exact ⟨rfl, b04⟩
      | true =>
        have HE1 := Lib.hid (HE.out (by trivial))
        clear HE
        obtain ⟨x0, x1, x2⟩ := ccells B0
        obtain ⟨y0, y1, y2⟩ := ccells B1
        go_wp2_with fail
        refine (F1.out _ b04).mono ?_
        rintro e w4 ⟨rfl, b4⟩
        have B0 := B0.below b4 B0.lt
        have B1 := B1.below b4 B1.lt
        have b05 := New.trans b04 b4
        clear x0 x1 x2 y0 y1 y2 F1 b04 b4
        cases N with
        | false =>
          go_wp2
          go_ret
          exact ⟨rfl, b05⟩
        | true =>
          obtain ⟨HP, HGR, HDQ, ST, ⟨hd0, hd1⟩, hab, hb65, hdG, hL64, hG65, hl4⟩ := HE1.out (by trivial)
          have HST := Lib.hid ST
          have HGR1 := Lib.hid HGR
          have HP1 := Lib.hid HP
          have HDQ1 := Lib.hid HDQ
          have HD1 := Lib.hid hd1
          clear HE1 ST HGR HP HDQ hd1
          obtain ⟨x0, x1, x2⟩ := ccells B0
          obtain ⟨y0, y1, y2⟩ := ccells B1
          go_wp2_with fail
          refine (HP1.out _ b05).mono ?_
          rintro e w5 ⟨A5, n5, c5, rfl, hn5, o5, b5⟩
          subst hn5
          have B0 := B0.below b5 B0.lt
          have B1 := B1.below b5 B1.lt
          have R5 := Lib.hid (Reads.of_own o5)
          have b06 := New.trans b05 b5
          clear x0 x1 x2 y0 y1 y2 o5 b5 b05 HP1
          obtain ⟨x0, x1, x2⟩ := ccells B0
          obtain ⟨y0, y1, y2⟩ := ccells B1
          go_wp2_with fail
          refine (HGR1.out _ b06).mono ?_
          rintro e w6 ⟨rfl, b6⟩
          have B0 := B0.below b6 B0.lt
          have B1 := B1.below b6 B1.lt
          obtain ⟨a, bb⟩ := ab
          dsimp only at hab hb65 HD1
          unfold pairN
          dsimp only
          clear x0 x1 x2 y0 y1 y2 HGR1
          obtain ⟨x0, x1, x2⟩ := ccells B0
          go_wp2_with fail
          refine (DG.out _).mono ?_
          rintro e w7 ⟨rfl, rfl⟩
          have b56 := b6
          have DL := Lib.hid (DS.out L.length (by omega))
          clear x0 x1 x2 DG b6
          generalize depthN G.length = dG at *
          have wa : IntKind.i64.wrap (2 * (dG : Int)) = 2 * (dG : Int) := by rw [IntKind.wrap_i64]; omega
          have wb : IntKind.i64.wrap (2 * (dG : Int) + 1) = 2 * (dG : Int) + 1 := by rw [IntKind.wrap_i64]; omega
          have wc : IntKind.i64.wrap ((bb : Int) - (a : Int)) = (bb : Int) - (a : Int) := by rw [IntKind.wrap_i64]; omega
          have wd : IntKind.i64.wrap (2 * (dG : Int) + 1 + ((bb : Int) - (a : Int))) = 2 * (dG : Int) + 1 + ((bb : Int) - (a : Int)) := by rw [IntKind.wrap_i64]; omega
          go_wp2_with fail
          obtain ⟨m0, hm0⟩ : ∃ m0 : Int, m0 = 2 * (dG : Int) + 1 + ((bb : Int) - (a : Int)) := ⟨_, rfl⟩
          rw [← hm0] at HD1 ⊢
          have hm1 : 0 ≤ m0 ∧ m0 ≤ 100000 := by omega
          clear hm0 wa wb wc wd
          go_loopw [10, 11] (fun v j wr => ∃ k : Nat, k ≤ l.length ∧ j = .int .i64 (k : Int) ∧ v = .int .i64 (MT m0 l k) ∧ Blk wr w.heap.size 25 #[.slice Ac L.length cc, .int .i64 r, .slice Ag G.length cg] ∧ Blk wr (w.heap.size + 1) 28 #[.slice Aq Q.length cq, .int .i64 f, .int .i64 t] ∧ New w5 wr) (fun _ j _ => l.length - (intOf j).toNat)
          case atStart => exact ⟨0, Nat.zero_le _, rfl, by rw [S0.out], B0, B1, b56⟩
          case round =>
            obtain ⟨k, hk, rfl, rfl, B, B1q, b⟩ := hrel
            clear B0 B1 b56
            by_cases hlk : k < l.length
            · have hkk : (k : Int) < (l.length : Int) := by omega
              obtain ⟨g, c, x, y, hp, hxy, hyl, hsl, hbs, hbb, hms, hm2, hm3, hd2, hd3⟩ := HST.out m0 k hlk
              obtain ⟨ap, rfl, -, -⟩ := read_part4 R5.out hlk
              have FP := Lib.hid (fun (W : World) (hW : New w5 W) => show W.cell? (ap.add (k * 4)) = some (.int .i64 (g : Int)) ∧ W.cell? ⟨(ap.add (k * 4)).block, (ap.add (k * 4)).off + 1, none⟩ = some (.int .i64 (c : Int)) ∧ W.cell? ⟨(ap.add (k * 4)).block, (ap.add (k * 4)).off + 2, none⟩ = some (.int .i64 (x : Int)) ∧ W.cell? ⟨(ap.add (k * 4)).block, (ap.add (k * 4)).off + 3, none⟩ = some (.int .i64 (y : Int)) from by
                obtain ⟨a', e, _, f0, f1, f2, f3⟩ := read_part4 (Reads.later R5.out hW) hlk
                injection e with e
                subst e
                rw [hp] at f0 f1 f2 f3
                exact ⟨f0, f1, f2, f3⟩)
              have HMS := Lib.hid hms
              have HBS := Lib.hid hbs
              have HBB := Lib.hid hbb
              have b7 := New.trans b06 b
              have F3 := Lib.hid (fun (W : World) (hW : New wr W) => And.intro (B.below hW B.lt) (And.intro (B1q.below hW B1q.lt) (FP.out W (New.trans b hW))))
              clear hp hms hbs hbb B B1q FP
              generalize MT m0 l k = mk at *
              have SPk := Lib.hid (fun (W : World) (hW : New w W) => SP.out W hW (g : Int) (c : Int))
              have DSk := Lib.hid (DS.out _ (Nat.le_trans hsl (by omega)))
              generalize SF (g : Int) (c : Int) = s at *
              go_wp2_with fail
              refine wp_region_up New [(true, 0), (true, 1), (true, 2), (true, 3), (true, 4), (true, 5), (true, 6), (true, 7), (true, 8), (true, 9), (true, 10), (false, 11), (true, 12)]
                New.refl New.trans (by kernel_rfl) (by kernel_rfl) (by kernel_rfl) (by kernel_rfl) ?_
              have hU := New.drew wr
              repeat (first
                | (refine up_quiet rfl rfl (v := ?_) (fun W hQ => ?_) ?_; rotate_left; (obtain ⟨F1, F2, p0, p1, p2, p3⟩ := F3.out W (New.trans hU hQ); obtain ⟨x0, x1, x2⟩ := ccells F1; obtain ⟨y0, y1, y2⟩ := ccells F2; clear F1 F2; go_simp <;> with_reducible rfl); simp only [Act.put, List.setIfInBounds_toArray, List.set_cons_zero, List.set_cons_succ]))
              refine up_call rfl rfl (fun K hK => ?_)
              go_simp
              refine (SPk.out _ (New.trans b7 hU)).mono ?_
              rintro e w8 ⟨A6, n6, c6, rfl, o6, b6⟩
              refine hK _ _ b6 ?_
              clear hK
              have R6 := Reads.of_own o6
              obtain rfl := R6.lenP
              replace hU := New.trans hU b6
              repeat (first
                | (refine up_quiet rfl rfl (v := ?_) (fun W hQ => ?_) ?_; rotate_left; (go_simp <;> with_reducible rfl); simp only [Act.put, List.setIfInBounds_toArray, List.set_cons_zero, List.set_cons_succ]))
              refine up_nil ?_
              have b9 := New.trans b hU
              have F5 := Lib.hid (fun (W : World) (hW : New w8 W) => And.intro (F3.out W (New.trans hU hW)) (Reads.later R6 hW))
              clear F3 hU b7 b b6 o6 R6 SPk
              have t3 : ¬ (s.length : Int) < (y : Int) := by omega
              obtain ⟨⟨F1, F2, p0, p1, p2, p3⟩, RS⟩ := F5.out w8 (New.refl _)
              go_wp2_with fail
              go_loopw [13, 14] (fun v j wr => ∃ q : Nat, x ≤ q ∧ q ≤ y ∧ j = .int .i64 (q : Int) ∧ v = .int .i64 (besTo f t s x q) ∧ New w8 wr) (fun _ j _ => y - (intOf j).toNat)
              case atStart => exact ⟨x, Nat.le_refl _, by omega, rfl, by rw [besTo_zero], New.refl _⟩
              case round =>
                clear F1 F2 p0 p1 p2 p3 RS
                obtain ⟨q, hq1, hq2, rfl, rfl, b⟩ := hrel
                obtain ⟨⟨F1, F2, p0, p1, p2, p3⟩, RS⟩ := F5.out wr b
                obtain ⟨hb0, hb1⟩ := HBB.out q hq1 hq2
                by_cases hlq : q < y
                · have v1 := HBS.out q hq1 hlq
                  have hql : q < s.length := by omega
                  obtain ⟨ads, rfl, -, -, -⟩ := RS.pair hql
                  have F7 := Lib.hid (fun (W : World) (hW : New wr W) => show _ ∧ W.cell? (ads.add (q * 2)) = some (.int .i64 (s.getD q (0, 0)).1) ∧ W.cell? ⟨(ads.add (q * 2)).block, (ads.add (q * 2)).off + 1, none⟩ = some (.int .i64 (s.getD q (0, 0)).2) from by
                    obtain ⟨F, R⟩ := F5.out W (New.trans b hW)
                    obtain ⟨a', e, _, f0, f1⟩ := R.pair hql
                    injection e with e
                    subst e
                    rw [← add_of_add] at f1
                    exact ⟨F, f0, f1⟩)
                  clear F1 F2 p0 p1 p2 RS
                  generalize s.getD q (0, 0) = sp at *
                  obtain ⟨s1, s2⟩ := sp
                  dsimp only at F7
                  generalize besTo f t s x q = Vq at *
                  obtain ⟨Vr, hVr⟩ : ∃ z, z = besTo f t s x (q + 1) := ⟨_, rfl⟩
                  rw [← hVr] at v1
                  have HVr := Lib.hid hVr
                  clear hVr
                  have wA : IntKind.i64.wrap (Vq + 1) = Vq + 1 := by rw [IntKind.wrap_i64]; omega
                  have hqi : (q : Int) < (y : Int) := by omega
                  have hqs : (q : Int) < (s.length : Int) := by omega
                  have wB : IntKind.i64.wrap ((q : Int) + 1) = (q : Int) + 1 := by rw [IntKind.wrap_i64]; omega
                  have hbe : (s1 < f ∧ Vr = Vq + 1) ∨ (¬ s1 < f ∧ t < s2 ∧ Vr = Vq + 1) ∨ (¬ s1 < f ∧ ¬ t < s2 ∧ Vr = Vq) := by
                    unfold besI at v1
                    dsimp only at v1
                    by_cases c1 : s1 < f
                    · rw [if_pos (.inl c1)] at v1
                      exact .inl ⟨c1, v1⟩
                    · by_cases c2 : t < s2
                      · rw [if_pos (.inr c2)] at v1
                        exact .inr (.inl ⟨c1, c2, v1⟩)
                      · rw [if_neg (by omega)] at v1
                        exact .inr (.inr ⟨c1, c2, by omega⟩)
                  clear v1
                  go_wp2_with fail
                  have hbd : (decide (s1 < f) = true ∧ Vr = Vq + 1) ∨ (decide (s1 < f) = false ∧ decide (t < s2) = true ∧ Vr = Vq + 1) ∨ (decide (s1 < f) = false ∧ decide (t < s2) = false ∧ Vr = Vq) := by
                    rcases hbe with ⟨c1, hv⟩ | ⟨c1, c2, hv⟩ | ⟨c1, c2, hv⟩
                    · exact .inl ⟨decide_eq_true c1, hv⟩
                    · exact .inr (.inl ⟨decide_eq_false (by omega), decide_eq_true c2, hv⟩)
                    · exact .inr (.inr ⟨decide_eq_false (by omega), decide_eq_false (by omega), hv⟩)
                  clear hbe
                  rcases hbd with ⟨c1, hv⟩ | ⟨c1, c2, hv⟩ | ⟨c1, c2, hv⟩
                  all_goals
                    have HV := Lib.hid hv
                    clear hv p3
                    refine wp_region_up New [(true, 0), (true, 1), (true, 2), (true, 3), (true, 4), (true, 5), (true, 6), (true, 7), (true, 8), (true, 9), (true, 10), (true, 11), (true, 12), (true, 13), (true, 14), (true, 15), (true, 16), (true, 17)]
                      New.refl New.trans (by kernel_rfl) (by kernel_rfl) (by kernel_rfl) (by kernel_rfl) ?_
                    have hU := New.drew wr
                    repeat (first
                      | (refine up_quiet rfl rfl (v := ?_) (fun W hQ => ?_) ?_; rotate_left; (obtain ⟨⟨F1, F2, p0, p1, p2, p3⟩, g0, g1⟩ := F7.out W (New.trans hU hQ); obtain ⟨x0, x1, x2⟩ := ccells F1; obtain ⟨y0, y1, y2⟩ := ccells F2; clear F1 F2; go_simp <;> with_reducible rfl); simp only [Act.put, List.setIfInBounds_toArray, List.set_cons_zero, List.set_cons_succ])
                      | (refine up_skip rfl rfl ?_; simp only [Act.put, List.setIfInBounds_toArray, List.set_cons_zero, List.set_cons_succ]))
                    refine up_nil ?_
                    have b11 := New.trans b hU
                    clear F7 hU
                    generalize wr.drew = wd3 at *
                    go_wp2_with fail
                    go_roundw
                    case rel => exact ⟨q + 1, by omega, by omega, by go_num, by rw [← HVr.out, HV.out], b11⟩
                    case measure => simp [intOf]; omega
                · obtain rfl : q = y := by omega
                  generalize besTo f t s x q = Vq at *
                  have t4 : ¬ (2 : Int) < Vq := by omega
                  clear F1 F2 RS
                  go_wp2_with fail
                  have HMo := Lib.hid HMS.out
                  generalize depthN s.length = dS at *
                  generalize depthN L.length = dL at *
                  have we : IntKind.i64.wrap (2 * (dS : Int)) = 2 * (dS : Int) := by rw [IntKind.wrap_i64]; omega
                  have wf : IntKind.i64.wrap (mk + 2 * (dS : Int)) = mk + 2 * (dS : Int) := by rw [IntKind.wrap_i64]; omega
                  have wg : IntKind.i64.wrap (mk + 2 * (dS : Int) + (dL : Int)) = mk + 2 * (dS : Int) + (dL : Int) := by rw [IntKind.wrap_i64]; omega
                  have F8 := Lib.hid (fun (W : World) (hW : New wr W) => F5.out W (New.trans b hW))
                  refine wp_region_up New [(true, 0), (true, 1), (true, 2), (true, 6), (true, 7), (true, 8), (false, 3), (true, 4), (true, 5), (false, 9), (true, 10), (true, 11)]
                    New.refl New.trans (by kernel_rfl) (by kernel_rfl) (by kernel_rfl) (by kernel_rfl) ?_
                  have hU := New.drew wr
                  repeat (first
                    | (refine up_quiet rfl rfl (v := ?_) (fun W hQ => ?_) ?_; rotate_left; (obtain ⟨⟨F1, F2, p0, p1, p2, p3⟩, RS⟩ := F8.out W (New.trans hU hQ); obtain ⟨x0, x1, x2⟩ := ccells F1; clear F1 F2 RS; go_simp <;> with_reducible rfl); simp only [Act.put, List.setIfInBounds_toArray, List.set_cons_zero, List.set_cons_succ]))
                  refine up_call rfl rfl (fun K hK => ?_)
                  go_simp
                  refine (DSk.out _).mono ?_
                  rintro e w9 ⟨rfl, rfl⟩
                  refine hK _ _ (New.refl _) ?_
                  clear hK
                  repeat (first
                    | (refine up_quiet rfl rfl (v := ?_) (fun W hQ => ?_) ?_; rotate_left; (go_simp <;> with_reducible rfl); simp only [Act.put, List.setIfInBounds_toArray, List.set_cons_zero, List.set_cons_succ]))
                  refine up_call rfl rfl (fun K hK => ?_)
                  go_simp
                  refine (DL.out _).mono ?_
                  rintro e w9 ⟨rfl, rfl⟩
                  refine hK _ _ (New.refl _) ?_
                  clear hK
                  repeat (first
                    | (refine up_quiet rfl rfl (v := ?_) (fun W hQ => ?_) ?_; rotate_left; (go_simp <;> with_reducible rfl); simp only [Act.put, List.setIfInBounds_toArray, List.set_cons_zero, List.set_cons_succ]))
                  refine up_nil ?_
                  obtain ⟨⟨F1, F2, -, -, -, -⟩, -⟩ := F8.out _ hU
                  have b11 := New.trans b9 (New.trans b hU)
                  clear F8 hU p0 p1 p2 p3
                  go_wp2_with fail
                  go_roundw
                  case rel => exact ⟨k + 1, by omega, by go_num, by rw [HMo.out], F1, F2, b11⟩
                  case measure => simp [intOf]; omega
            · obtain rfl : k = l.length := by omega
              have hd1 := HD1.out
              generalize MT m0 l l.length = mT at *
              have b7 := New.trans b06 b
              obtain ⟨x0, x1, x2⟩ := ccells B
              obtain ⟨y0, y1, y2⟩ := ccells B1q
              have t5 : dq ≥ 0 := hd0
              go_wp2_with fail
              refine (HDQ1.out _ b7).mono ?_
              rintro e w8 ⟨rfl, b8⟩
              have B := B.below b8 B.lt
              have B1q := B1q.below b8 B1q.lt
              have b9 := New.trans b7 b8
              clear x0 x1 x2 y0 y1 y2 b b7 b8
              obtain ⟨x0, x1, x2⟩ := ccells B
              obtain ⟨y0, y1, y2⟩ := ccells B1q
              go_wp2_with fail
              refine (HDQ1.out _ b9).mono ?_
              rintro e w9 ⟨rfl, b8⟩
              have b10 := New.trans b9 b8
              clear x0 x1 x2 y0 y1 y2 b9 b8 B B1q
              go_wp2_with fail
              go_ret
              exact ⟨by simp, b10⟩
end

set_option maxRecDepth 100000 in
open Go.WideShapes Go.ChangeShapes in
theorem pickFew_contract {H : Type} {enc : TypeId × Value → H} (W : World) (base : Nat) (args : Array Value) (ds : List (DataW H)) (ps : List MemPlace)
    (hval : ∀ (j : Nat) t v, Try.f5.params[j]? = some t → args[j]? = some v → Value.okWide Try.prog W .any base t v)
    (hA : DataW.TrodAll enc Try.prog W 0 (fun _ => true) true Try.f5.params.toList args.toList ds ps) (hlt : ∀ p ∈ ps, p.block < W.heap.size)
    (hsz : (DataW.weightsEach Try.prog Try.f5.params.toList ds).all (· ≤ reachBytes) = true) :
    Calls Try.prog 5 args W fun e W' => e = .returned (.bool true) ∧ Below W.heap.size W W' := by
  rw [Try.params5] at hA hval hsz
  obtain ⟨v0, v1, d0, d1, p0, p1, rfl, rfl, rfl, h0, h1⟩ := trodAll_two hA
  -- t: v0 d0 p0 h0, hval 0
  -- q: v1 d1 p1 h1, hval 1
  obtain ⟨Ac, cc, L, r, Ag, cg, G, rfl, hF, hcg, hr, _, hG, hfew, hcap⟩ := open_Fo2 (hval 0 _ _ rfl rfl) h0 (fun p hp => hlt p (by simp [hp])) (sized_at hsz (j := 0) rfl rfl)
  obtain ⟨A, c, l, f, t, rfl, hc, hm, hq, hl⟩ := open_Q (hval 1 _ _ rfl rfl) h1 (fun p hp => hlt p (by simp [hp])) (sized_at hsz (j := 1) rfl rfl)
  exact pickFew_walk ⟨hF, hcg, hfew, hr, fun g hg => (hG g hg).1, fun g hg => (hG g hg).2, hcap, hq, hc, by omega, hl⟩

end Go.Proofs.Ythmjbdpkdomofaa
