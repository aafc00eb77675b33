/- FooterStands returns true whatever comes in, and leaves all that was there as it was. -/
import Derived.Test.YtflaaahcoglflaaBun9
import Derived.Test.YtflaaahcoglflaaBun10
import Derived.BigQuiet
import Derived.Deep.QuietTactic

namespace Go.Proofs.Ytflaaahcoglflaa
open Go Go.RowKit Go.Hm
theorem spansL_at : ∀ (l : List PageS) (a : Int) (q : Nat), q < l.length → (spansL a l).getD q (0, 0) = (a + rowsL (l.take q), a + rowsL (l.take (q + 1)))
  | [], _, _, h => by simp at h
  | p :: l, a, 0, _ => by simp [spansL, rowsL]
  | p :: l, a, q + 1, h => by
    have := spansL_at l (a + p.2.1) q (by simpa using h)
    simp only [spansL, List.getD_cons_succ, List.take_succ_cons, rowsL_cons] at this ⊢
    rw [this]
    congr 1 <;> omega
theorem placeF_ok {F : FootS} (h : FootOk F) (g c p : Int) : placeF F g c p = placeI F.cols.length F.groups g c p := by
  rw [placeF_I, rightF_yes h, if_pos rfl]
theorem placeI_past {nl : Nat} {G : List GroupS} {k j : Nat} (h1 : k < G.length) : placeI nl G (k : Int) (j : Int) ((pagesAt G k j).length : Int) = -1 := by
  unfold placeI
  have e1 : endB G.length (k : Int) (j : Int) ((pagesAt G k j).length : Int) = false := by
    unfold endB
    simp only [decide_eq_false_iff_not]
    omega
  simp only [Int.toNat_natCast]
  have e2 : pgB (pagesAt G k j).length ((pagesAt G k j).length : Int) = false := by
    unfold pgB
    simp
  rw [e1, e2]
  simp
set_option maxHeartbeats 8000000 in
set_option maxRecDepth 100000 in
theorem footerStands_walk {w : World} {Ac : Option Addr} {cc : Nat} {L : List ColS} {r : Int} {Ag : Option Addr} {cg : Nat} {G : List GrD} (h : FootIn w Ac cc L Ag G) (hcg : G.length ≤ cg) (hp : ∀ g ∈ G, ∀ x ∈ g.2.2.2, ∀ p ∈ x.2.2, PageFine p) (hr8 : -9223372036854775808 ≤ r ∧ r ≤ 9223372036854775807) :
    Calls Try.prog 6 #[footA Ac cc L r Ag cg G] w (SmallPost w) := by
  have hs : ∀ g ∈ G, ∀ x ∈ g.2.2.2, ∀ p ∈ x.2.2, statFine p.2.2 := fun g hg x hx p hq => (hp g hg x hx p hq).stat
  have B0 := Blk.new w 25 #[.slice Ac L.length cc, .int .i64 r, .slice Ag G.length cg]
  have b0 : New w (w.alloc (.cells #[.slice Ac L.length cc, .int .i64 r, .slice Ag G.length cg] 25)) := (Below.refl _ _).alloc (Nat.le_refl _) _
  have FW := Lib.hid (fun (W : World) (hW : New w W) => show Calls Try.prog 8 #[.agg #[.slice Ac L.length cc, .int .i64 r, .slice Ag G.length cg]] W (BoolNew W) from few19_any (r := r) (cc := cc) (cg := cg) (h.later hW) hp)
  have R2 := Lib.hid (fun (W : World) (hW : New w W) => show Calls Try.prog 12 #[.agg #[.slice Ac L.length cc, .int .i64 r, .slice Ag G.length cg]] W (NewPost (.bool (rightF (footP L r G))) W) from rfright_any (r := r) (cc := cc) (cg := cg) (h.later hW) hs hr8)
  have S1 := fun (W : World) (hW : New w W) (g c : Int) => show Calls Try.prog 14 #[.agg #[.slice Ac L.length cc, .int .i64 r, .slice Ag G.length cg], .int .i64 g, .int .i64 c] W (SpansPost (spansF (footP L r G) g c) W) from fspans_any (r := r) (cc := cc) (cg := cg) (h.later hW) hs hcg
  have P1 := fun (W : World) (hW : New w W) (g c p : Int) => show Calls Try.prog 16 #[.agg #[.slice Ac L.length cc, .int .i64 r, .slice Ag G.length cg], .int .i64 g, .int .i64 c, .int .i64 p] W (NewPost (.int .i64 (placeF (footP L r G) g c p)) W) from place_any (r := r) (cc := cc) (cg := cg) (h.later hW) hs
  have HG := Lib.hid h.groups
  have HCH := Lib.hid h.chunks
  have HPG := Lib.hid h.pages
  have hfew := h.few
  have hfew2 := h.few2
  clear h hp hs hcg
  show Calls Try.prog 6 #[.agg #[.slice Ac L.length cc, .int .i64 r, .slice Ag G.length cg]] w (SmallPost w)
  have hyes : rightF (footP L r G) = true → FootOk (footP L r G) := fun e => by unfold rightF at e; simpa using e
  have S1 := Lib.hid S1
  have P1 := Lib.hid P1
  have HYES := Lib.hid hyes
  clear hyes
  go_enter Try.func6, Try.ntmps6
  go_wp2_with fail
  refine (small19_any _).mono ?_
  rintro e w1 ⟨rfl, b1⟩
  have B1 := B0.below b1 B0.lt
  have b01 := New.trans b0 b1
  clear B0 b0 b1
  obtain ⟨x0, x1, x2⟩ := ccells B1
  go_wp2_with fail
  refine (FW.out _ b01).mono ?_
  rintro e w2 ⟨bb, rfl, b2⟩
  have B2 := B1.below b2 B1.lt
  have b02 := New.trans b01 b2
  clear x0 x1 x2 FW B1 b01 b2
  cases bb with
  | false =>
    go_wp2
    go_ret
    exact ⟨rfl, b02⟩
  | true =>
    obtain ⟨x0, x1, x2⟩ := ccells B2
    go_wp2_with fail
    refine (R2.out _ b02).mono ?_
    rintro e w3 ⟨rfl, b3⟩
    have B3 := B2.below b3 B2.lt
    have b03 := New.trans b02 b3
    clear x0 x1 x2 B2 b02 b3 R2
    cases hM : rightF (footP L r G) with
    | false =>
      clear hM
      go_wp2
      go_ret
      exact ⟨rfl, b03⟩
    | true =>
      have hok := HYES.out hM
      clear hM HYES
      have HDL := Lib.hid (fun (k : Nat) (hk : k < G.length) => show (G.getD k grZ).2.2.2.length = L.length by
        have := (foot_group hok (k := k) (by unfold footP; simpa using hk)).2.1
        unfold footP at this
        dsimp only at this
        rw [getD_mapX grP G grZ groupZ hk] at this
        unfold grP at this
        simpa using this)
      have HPA := Lib.hid (fun (k : Nat) (hk : k < G.length) (j : Nat) (hj : j < (G.getD k grZ).2.2.2.length) => show pagesAt (G.map grP) k j = ((G.getD k grZ).2.2.2.getD j chZ).2.2 by
        unfold pagesAt
        rw [getD_mapX grP G grZ groupZ hk]
        exact getD_mapX (fun x : ChD => x.2.2) (G.getD k grZ).2.2.2 chZ [] hj)
      have hGl : (G.map grP).length = G.length := List.length_map ..
      have VZ := Lib.hid (placeV_zero (G.map grP))
      have VP := Lib.hid (fun (k : Nat) (hk : k < G.length) (j : Nat) (hj : j < L.length) (q : Nat) (hq : q < (pagesAt (G.map grP) k j).length) => placeV_page hok (k := k) (j := j) (q := q) (by unfold footP; simpa using hk) (by unfold footP; exact hj) (by unfold footP; exact hq))
      have VC := Lib.hid (fun (k : Nat) (hk : k < G.length) (j : Nat) (hj : j < L.length) => placeV_chunk hok (k := k) (j := j) (by unfold footP; simpa using hk) (by unfold footP; exact hj))
      have VG := Lib.hid (fun (k : Nat) (hk : k < G.length) => placeV_group hok (k := k) (by unfold footP; simpa using hk))
      have CK := Lib.hid (fun (k : Nat) (hk : k < G.length) (j : Nat) (hj : j < L.length) => (foot_chunk hok (k := k) (c := j) (by unfold footP; simpa using hk) (by unfold footP; exact hj)).1)
      have AH := Lib.hid (fun (k : Nat) (hk : k < G.length) => foot_ahead hok (k := k) (by unfold footP; simpa using hk))
      have AE := Lib.hid (show aheadR (G.map grP) G.length = r from by
        have := hok.2.2.1
        unfold footP at this
        dsimp only at this
        unfold aheadR
        rw [← hGl, List.take_length]
        exact this)
      have SPk := Lib.hid (fun (W : World) (hW : New w W) (k j : Nat) (hk : k < G.length) (hj : j < L.length) => show Calls Try.prog 14 #[.agg #[.slice Ac L.length cc, .int .i64 r, .slice Ag G.length cg], .int .i64 (k : Int), .int .i64 (j : Int)] W (SpansPost (spansL (aheadR (G.map grP) k) (pagesAt (G.map grP) k j)) W) from by
        have := S1.out W hW (k : Int) (j : Int)
        unfold spansF at this
        rw [rightF_yes hok, show inB (footP L r G).cols.length (footP L r G).groups.length (k : Int) (j : Int) = true from inB_of (by unfold footP; simpa using hk) (by unfold footP; exact hj)] at this
        simpa [footP] using this)
      have PLk := Lib.hid (fun (W : World) (hW : New w W) (k j q : Nat) (hk : k < G.length) (hj : j < L.length) (hq : q < (pagesAt (G.map grP) k j).length) => show Calls Try.prog 16 #[.agg #[.slice Ac L.length cc, .int .i64 r, .slice Ag G.length cg], .int .i64 (k : Int), .int .i64 (j : Int), .int .i64 (q : Int)] W (NewPost (.int .i64 (placeV (G.map grP) k j q)) W) from by
        have := P1.out W hW (k : Int) (j : Int) (q : Int)
        rw [placeF_ok hok, placeI_at (k := k) (j := j) (q := q) (by unfold footP; simpa using hk) (by unfold footP; exact hj) (by unfold footP; exact hq) ⟨rfl, rfl, rfl⟩] at this
        exact this)
      have PLn := Lib.hid (fun (W : World) (hW : New w W) (k j : Nat) (hk : k < G.length) => show Calls Try.prog 16 #[.agg #[.slice Ac L.length cc, .int .i64 r, .slice Ag G.length cg], .int .i64 (k : Int), .int .i64 (j : Int), .int .i64 ((pagesAt (G.map grP) k j).length : Int)] W (NewPost (.int .i64 (-1)) W) from by
        have := P1.out W hW (k : Int) (j : Int) ((pagesAt (G.map grP) k j).length : Int)
        rw [placeF_ok hok] at this
        have e := placeI_past (nl := L.length) (G := G.map grP) (k := k) (j := j) (by rw [hGl]; exact hk)
        rw [show placeI (footP L r G).cols.length (footP L r G).groups (k : Int) (j : Int) ((pagesAt (G.map grP) k j).length : Int) = -1 from e] at this
        exact this)
      have PLe := Lib.hid (fun (W : World) (hW : New w W) => show Calls Try.prog 16 #[.agg #[.slice Ac L.length cc, .int .i64 r, .slice Ag G.length cg], .int .i64 (G.length : Int), .int .i64 0, .int .i64 0] W (NewPost (.int .i64 (placeV (G.map grP) G.length 0 0)) W) from by
        have := P1.out W hW (G.length : Int) 0 0
        rw [placeF_ok hok] at this
        have e := placeI_end (nl := L.length) (G := G.map grP) (g := (G.length : Int)) (c := 0) (p := 0) ⟨by rw [hGl], rfl, rfl⟩
        rw [hGl] at e
        rw [show placeI (footP L r G).cols.length (footP L r G).groups (G.length : Int) 0 0 = placeV (G.map grP) G.length 0 0 from e] at this
        exact this)
      have GM := Lib.hid (fun (k : Nat) (hk : k < G.length) => show ((G.map grP).getD k groupZ).1 = (G.getD k grZ).1 from by rw [getD_mapX grP G grZ groupZ hk]; rfl)
      unfold footP at VP VC VG CK AH
      dsimp only at VP VC VG CK AH
      have A0 := Lib.hid (show aheadR (G.map grP) 0 = 0 from rfl)
      generalize hVV : placeV (G.map grP) = V at *
      generalize hPP : pagesAt (G.map grP) = PA at *
      generalize hAA : aheadR (G.map grP) = AR at *
      generalize hGG : (G.map grP).getD = GD at *
      clear hok hGl hVV hPP hAA hGG S1 P1
      go_wp2_with fail
      go_loopw [5, 6, 7] (fun a s i wr => ∃ k : Nat, k ≤ G.length ∧ i = .int .i64 (k : Int) ∧ a = .int .i64 (V k 0 0) ∧ s = .int .i64 (AR k) ∧ Blk wr w.heap.size 25 #[.slice Ac L.length cc, .int .i64 r, .slice Ag G.length cg] ∧ New w wr) (fun _ _ i _ => G.length - (intOf i).toNat)
      case atStart => exact ⟨0, Nat.zero_le _, rfl, by rw [VZ.out], by rw [A0.out], B3, b03⟩
      case round =>
        obtain ⟨k, hk, rfl, rfl, rfl, B, b⟩ := hrel
        clear B3 b03 VZ A0
        by_cases hlt : k < G.length
        · obtain ⟨x0, x1, x2⟩ := ccells B
          have hlti : (k : Int) < (G.length : Int) := by omega
          go_wp2_with fail
          clear x0 x1 x2
          go_loopw [5, 8] (fun a i wr => ∃ j : Nat, j ≤ L.length ∧ i = .int .i64 (j : Int) ∧ a = .int .i64 (V k j 0) ∧ Blk wr w.heap.size 25 #[.slice Ac L.length cc, .int .i64 r, .slice Ag G.length cg] ∧ New w wr) (fun _ i _ => L.length - (intOf i).toNat)
          case atStart => exact ⟨0, Nat.zero_le _, rfl, rfl, B, b⟩
          case round =>
            clear B b
            obtain ⟨j, hj, rfl, rfl, B, b⟩ := hrel
            by_cases hlj : j < L.length
            · obtain ⟨x0, x1, x2⟩ := ccells B
              obtain ⟨ad, rfl, hb, d0, d1⟩ := (Reads.later HG.out b).gr2 hlt
              have FG := Lib.hid (fun (W : World) (hW : New w W) => show W.cell? (ad.add (k * 2)) = some (.int .i64 (G.getD k grZ).1) from by
                obtain ⟨al', e, _, f, _⟩ := (Reads.later HG.out hW).gr2 hlt
                injection e with e
                subst e
                exact f)
              have hgm := mem_getDF grZ hlt
              have hch := HCH.out _ hgm
              have hpg := HPG.out _ hgm
              have hDl := HDL.out k hlt
              have hpa := HPA.out k hlt j (by rw [hDl]; exact hlj)
              have VPj := VP.out k hlt j hlj
              have VCj := VC.out k hlt j hlj
              have hCK := CK.out k hlt j hlj
              have hAH := AH.out k hlt
              rw [GM.out k hlt] at hCK hAH
              have SPj := fun (W : World) (hW : New w W) => SPk.out W hW k j hlt hlj
              have PLj := fun (W : World) (hW : New w W) (q : Nat) => PLk.out W hW k j q hlt hlj
              have PNj := fun (W : World) (hW : New w W) => PLn.out W hW k j hlt
              clear hb hgm
              generalize G.getD k grZ = gg at *
              obtain ⟨gr, Ach, cch, D⟩ := gg
              dsimp only at d0 d1 hch hpg hDl hpa hCK hAH FG
              have hjD : j < D.length := by omega
              obtain ⟨ac, rfl, hbc, e0⟩ := (Reads.later hch.1 b).ch1 hjD
              have hxm := mem_getDF chZ hjD
              have hpx := hpg _ hxm
              clear hbc hxm hch hpg
              generalize D.getD j chZ = x at *
              obtain ⟨Ax, cx, pl⟩ := x
              dsimp only at e0 hpx hpa
              have HPL := Lib.hid hpx.1
              have hpn := hpx.2
              rw [hpa] at VPj VCj hCK SPj PLj PNj
              have RT := Lib.hid (fun (q : Nat) (hq : q < pl.length) => rowsL_take hCK hq)
              have SA := Lib.hid (fun (q : Nat) (hq : q < pl.length) => spansL_at pl (AR k) q hq)
              have hz := hCK.2
              have hzz := (rowsL_pos hCK.1).2.1
              have hne : 1 ≤ pl.length := by
                rcases Nat.eq_zero_or_pos pl.length with e | e
                · exfalso
                  rw [List.length_eq_zero_iff.1 e] at hz
                  have : rowsL [] = 0 := rfl
                  omega
                · exact e
              have TE := Lib.hid (show AR k + rowsL (pl.take pl.length) = AR k + gr by rw [List.take_length, hz])
              have TZ := Lib.hid (show AR k + rowsL (pl.take 0) = AR k by simp [rowsL])
              have ha0 := hAH.1
              have hg1 := hAH.2.2.2
              have haN : AR k + gr ≤ 65536 := by omega
              obtain ⟨m, hm⟩ : ∃ m, pl.length = m + 1 := ⟨pl.length - 1, by omega⟩
              have hTB := fun (q : Nat) (hq : q < pl.length) => show 0 ≤ AR k + rowsL (pl.take q) ∧ AR k + rowsL (pl.take (q + 1)) = AR k + rowsL (pl.take q) + (pl.getD q pageZ).2.1 ∧ AR k + rowsL (pl.take (q + 1)) ≤ 65536 ∧ 1 ≤ (pl.getD q pageZ).2.1 from by
                obtain ⟨h1, h2, h3⟩ := RT.out q hq
                have h4 := (pageB_most.1 (hCK.1 _ (mem_getDF pageZ hq))).1
                omega
              have TB := Lib.hid hTB
              obtain ⟨T, hT⟩ : ∃ T : Nat → Int, T = fun q => AR k + rowsL (pl.take q) := ⟨_, rfl⟩
              have TB : Hid (∀ q, q < pl.length → 0 ≤ T q ∧ T (q + 1) = T q + (pl.getD q pageZ).2.1 ∧ T (q + 1) ≤ 65536 ∧ 1 ≤ (pl.getD q pageZ).2.1) := by rw [hT]; exact TB
              have TE : Hid (T pl.length = AR k + gr) := by rw [hT]; exact TE
              have TZ : Hid (T 0 = AR k) := by rw [hT]; exact TZ
              have SA : Hid (∀ q, q < pl.length → (spansL (AR k) pl).getD q (0, 0) = (T q, T (q + 1))) := by rw [hT]; exact SA
              have SLN := Lib.hid (spansL_len (AR k) pl)
              have VPj := Lib.hid VPj
              have VCj := Lib.hid VCj
              have PLj := Lib.hid PLj
              have PNj := Lib.hid PNj
              have SPj := Lib.hid SPj
              have HAHn := Lib.hid hAH.2.1
              have HDl := Lib.hid hDl
              have HM := Lib.hid hm
              clear hpx hpa hDl hCK hAH hz hzz hTB hT RT hm
              generalize spansL (AR k) pl = SL at *
              go_wp2_with fail
              refine (SPj.out _ b).mono ?_
              rintro e w4 ⟨A4, n4, c4, rfl, o4, b4⟩
              have r4 := Reads.of_own o4
              obtain rfl : n4 = pl.length := by rw [r4.lenP, SLN.out]
              have B4 := B.below b4 B.lt
              have b04 := New.trans b b4
              obtain ⟨ad4, rfl, -⟩ := r4.pair2 (i := 0) (by omega)
              have FS := Lib.hid (fun (W : World) (hW : New w4 W) (i : Nat) (hi : i < pl.length) => show W.cell? (ad4.add (i * 2)) = some (.int .i64 (T i)) ∧ W.cell? ⟨(ad4.add (i * 2)).block, (ad4.add (i * 2)).off + 1, none⟩ = some (.int .i64 (T (i + 1))) from by
                obtain ⟨al', e, _, f, f'⟩ := (Reads.later r4 hW).pair2 hi
                injection e with e
                subst e
                rw [SA.out i hi] at f f'
                exact ⟨f, f'⟩)
              clear SPj x0 x1 x2 d0 d1 e0 B b b4 o4 r4
              obtain ⟨x0, x1, x2⟩ := ccells B4
              have d0 := FG.out _ b04
              obtain ⟨s0, -⟩ := FS.out _ (New.refl _) 0 (by omega)
              have s0 : w4.cell? ad4 = some (.int .i64 (AR k)) := by rw [TZ.out] at s0; simpa [Addr.add] using s0
              obtain ⟨-, s1⟩ := FS.out _ (New.refl _) m (by have := HM.out; omega)
              have sE : T (m + 1) = AR k + gr := by rw [← HM.out]; exact TE.out
              rw [sE] at s1
              have i1 : ((pl.length : Nat) : Int) - 1 = (m : Int) := by have := HM.out; omega
              have i2 : IntKind.i64.wrap (m : Int) = (m : Int) := by have := HM.out; rw [IntKind.wrap_i64]; omega
              have i3 : (m : Int) < (pl.length : Int) := by omega
              have i4 : (0 : Int) < (pl.length : Int) := by omega
              have i5 : ((pl.length : Nat) : Int) ≠ 0 := by omega
              have t1 : ((pl.length : Int) == 0) = false := by simpa using i5
              have t2 : ((pl.length : Int) != (pl.length : Int)) = false := by simp
              have t3 : (AR k != AR k) = false := by simp
              have t4 : (AR k + gr != AR k + gr) = false := by simp
              have i6 : IntKind.i64.wrap (AR k + gr) = AR k + gr := by rw [IntKind.wrap_i64]; omega
              clear sE
              go_wp2_with fail
              go_quiet (fail)
              have hb5 := fun q => New.trans b04 (new_drewN w4 q)
              have B5 := fun q => B4.below (new_drewN w4 q) B4.lt
              have d5 := fun q => new_drewN w4 q
              clear x0 x1 x2 d0 s0 s1 i1 i2 i4 i5 t1 t3 t4 i6
              go_wp2_with fail
              go_loopw [5, 11] (fun a i wr => ∃ q : Nat, q ≤ pl.length ∧ i = .int .i64 (q : Int) ∧ a = .int .i64 (V k j q) ∧ Blk wr w.heap.size 25 #[.slice Ac L.length cc, .int .i64 r, .slice (some ad) G.length cg] ∧ New w4 wr) (fun _ i _ => pl.length - (intOf i).toNat)
              case atStart => exact ⟨0, Nat.zero_le _, rfl, rfl, B5 _, d5 _⟩
              case round =>
                clear B5 d5 hb5
                obtain ⟨q, hq, rfl, rfl, B, b4⟩ := hrel
                have b := New.trans b04 b4
                by_cases hlq : q < pl.length
                · have FP := fun (W : World) (hW : New w W) => (Reads.later HPL.out hW).page14 hlq
                  obtain ⟨ap, rfl, -⟩ := (Reads.later HPL.out b).page14 hlq
                  have FP := Lib.hid (fun (W : World) (hW : New w W) => show W.cell? (ap.add (q * 14)) = some (.int .i64 (pl.getD q pageZ).1) ∧ W.cell? ⟨(ap.add (q * 14)).block, (ap.add (q * 14)).off + 1, none⟩ = some (.int .i64 (pl.getD q pageZ).2.1) from by
                    obtain ⟨al', e, _, f, f', _⟩ := FP W hW
                    injection e with e
                    subst e
                    exact ⟨f, f'⟩)
                  obtain ⟨v1, v2, v3, v4⟩ := VPj.out q hlq
                  obtain ⟨q1, q2, q3, q4⟩ := TB.out q hlq
                  have PQ := Lib.hid (fun (W : World) (hW : New w W) => PLj.out W hW q hlq)
                  have H2 := Lib.hid v2
                  have vs : V k j q + (pl.getD q pageZ).1 ≤ 1073741824 := by omega
                  have vs0 : 0 ≤ V k j q + (pl.getD q pageZ).1 := by omega
                  have tq : T (q + 1) - T q = (pl.getD q pageZ).2.1 := by omega
                  have tqw : IntKind.i64.wrap (pl.getD q pageZ).2.1 = (pl.getD q pageZ).2.1 := by rw [IntKind.wrap_i64]; omega
                  have tqn : ((pl.getD q pageZ).2.1 != (pl.getD q pageZ).2.1) = false := by simp
                  have tvn : (V k j q != V k j q) = false := by simp
                  have tnn : (T q != T q) = false := by simp
                  have F := Lib.hid (fun (W : World) (hW : New wr W) => B.below hW B.lt)
                  clear v2 v3 v4 q2 q3
                  generalize (pl.getD q pageZ).2.1 = rw at *
                  generalize (pl.getD q pageZ).1 = sz at *
                  go_wp2_with fail
                  have FQ := Lib.hid (fun (W : World) (hW : New wr W) => FS.out W (New.trans b4 hW) q hlq)
                  rcases Nat.eq_zero_or_pos q with e0 | e0
                  · have tg : ((0 : Int) < (q : Int)) = False := by simp; omega
                    have tg2 : (0 < q) = False := by simp; omega
                    clear e0
                    refine wp_region_up New [(true, 0), (true, 1), (true, 2), (true, 3), (true, 5), (false, 4), (true, 6), (true, 7), (true, 8), (true, 9), (true, 10), (true, 11), (true, 12), (true, 13), (true, 14), (true, 15), (true, 16), (true, 17), (true, 18), (true, 19), (true, 20), (true, 21), (true, 22), (true, 23), (true, 24), (true, 25), (true, 26), (true, 27), (true, 28), (true, 29), (true, 30), (true, 31), (true, 32), (true, 33), (true, 34), (true, 35), (true, 36), (true, 37), (true, 38), (true, 39), (true, 40), (true, 41), (true, 42), (true, 43)]
                      New.refl New.trans (by kernel_rfl) (by kernel_rfl) (by kernel_rfl) (by kernel_rfl) ?_
                    have hU := New.drew wr
                    repeat (first
                      | (refine up_quiet rfl rfl (v := ?_) (fun W hQ => ?_) ?_; rotate_left; (obtain ⟨p0, p1⟩ := FP.out W (New.trans b (New.trans hU hQ)); obtain ⟨f0, f1⟩ := FQ.out W (New.trans hU hQ); obtain ⟨x0, x1, x2⟩ := ccells (F.out W (New.trans hU hQ)); go_simp <;> with_reducible rfl); simp only [Act.put, List.setIfInBounds_toArray, List.set_cons_zero, List.set_cons_succ])
                      | (refine up_skip rfl rfl ?_; simp only [Act.put, List.setIfInBounds_toArray, List.set_cons_zero, List.set_cons_succ])
                      | (refine up_call rfl rfl (fun K0 hK0 => ?_)
                         go_simp
                         (with_reducible refine (PQ.out _ (New.trans b hU)).mono ?_)
                         rintro e u ⟨rfl, bu⟩
                         refine hK0 _ _ bu ?_
                         replace hU := New.trans hU bu
                         clear hK0 bu))
                    refine up_nil ?_
                    have B6 := F.out _ hU
                    have b46 := New.trans b4 hU
                    obtain ⟨p0, p1⟩ := FP.out _ (New.trans b hU)
                    clear F hU B b4 b PQ FP
                    go_wp2_with fail
                    go_roundw
                    case rel => exact ⟨q + 1, by omega, by go_num, by rw [H2.out], B6, b46⟩
                    case measure => simp [intOf]; omega
                  · have tg : decide ((0 : Int) < (q : Int)) = true := by simp; omega
                    have tg2 : decide (0 < q) = true := by simp; omega
                    obtain ⟨q', hq'⟩ : ∃ q', q = q' + 1 := ⟨q - 1, by omega⟩
                    have FR := Lib.hid (fun (W : World) (hW : New wr W) => show W.cell? ⟨(ad4.add (q' * 2)).block, (ad4.add (q' * 2)).off + 1, none⟩ = some (.int .i64 (T q)) from by
                      have := (FS.out W (New.trans b4 hW) q' (by omega)).2
                      rw [← hq'] at this
                      exact this)
                    have j1 : (q : Int) - 1 = (q' : Int) := by omega
                    have j2 : IntKind.i64.wrap (q' : Int) = (q' : Int) := by rw [IntKind.wrap_i64]; omega
                    have j3 : (q' : Int) < (pl.length : Int) := by omega
                    have j4 : q' < pl.length := by omega
                    have HQ' := Lib.hid hq'
                    clear hq'
                    refine wp_region_up New [(true, 0), (true, 1), (true, 2), (true, 3), (true, 5), (false, 4), (true, 6), (true, 7), (true, 8), (true, 9), (true, 10), (true, 11), (true, 12), (true, 13), (true, 14), (true, 15), (true, 16), (true, 17), (true, 18), (true, 19), (true, 20), (true, 21), (true, 22), (true, 23), (true, 24), (true, 25), (true, 26), (true, 27), (true, 28), (true, 29), (true, 30), (true, 31), (true, 32), (true, 33), (true, 34), (true, 35), (true, 36), (true, 37), (true, 38), (true, 39), (true, 40), (true, 41), (true, 42), (true, 43)]
                      New.refl New.trans (by kernel_rfl) (by kernel_rfl) (by kernel_rfl) (by kernel_rfl) ?_
                    have hU := New.drew wr
                    repeat (first
                      | (refine up_quiet rfl rfl (v := ?_) (fun W hQ => ?_) ?_; rotate_left; (obtain ⟨p0, p1⟩ := FP.out W (New.trans b (New.trans hU hQ)); obtain ⟨f0, f1⟩ := FQ.out W (New.trans hU hQ); have f2 := FR.out W (New.trans hU hQ); obtain ⟨x0, x1, x2⟩ := ccells (F.out W (New.trans hU hQ)); go_simp <;> with_reducible rfl); simp only [Act.put, List.setIfInBounds_toArray, List.set_cons_zero, List.set_cons_succ])
                      | (refine up_skip rfl rfl ?_; simp only [Act.put, List.setIfInBounds_toArray, List.set_cons_zero, List.set_cons_succ])
                      | (refine up_call rfl rfl (fun K0 hK0 => ?_)
                         go_simp
                         (with_reducible refine (PQ.out _ (New.trans b hU)).mono ?_)
                         rintro e u ⟨rfl, bu⟩
                         refine hK0 _ _ bu ?_
                         replace hU := New.trans hU bu
                         clear hK0 bu))
                    refine up_nil ?_
                    have B6 := F.out _ hU
                    have b46 := New.trans b4 hU
                    obtain ⟨p0, p1⟩ := FP.out _ (New.trans b hU)
                    clear F hU B b4 b PQ FP
                    go_wp2_with fail
                    go_roundw
                    case rel => exact ⟨q + 1, by omega, by go_num, by rw [H2.out], B6, b46⟩
                    case measure => simp [intOf]; omega
                · obtain rfl : q = pl.length := by omega
                  have hvc := Lib.hid VCj.out
                  obtain ⟨x0, x1, x2⟩ := ccells B
                  have PN := PNj.out _ b
                  have PN := Lib.hid PN
                  go_wp2_with fail
                  refine PN.out.mono ?_
                  rintro e w6 ⟨rfl, b6⟩
                  have B6 := B.below b6 B.lt
                  have b06 := New.trans b b6
                  clear x0 x1 x2 B b4 b b6 PN
                  go_wp2
                  go_roundw
                  case rel => exact ⟨j + 1, by omega, by go_num, by first | rfl | rw [hvc.out], B6, b06⟩
                  case measure => simp [intOf]; omega
            · obtain rfl : j = L.length := by omega
              have hvg := Lib.hid (VG.out k hlt)
              obtain ⟨x0, x1, x2⟩ := ccells B
              obtain ⟨ad, rfl, hb, d0, -⟩ := (Reads.later HG.out b).gr2 hlt
              have hAH := AH.out k hlt
              rw [GM.out k hlt] at hAH
              have HAn := Lib.hid hAH.2.1
              have g1 : 0 ≤ AR k := hAH.1
              have g2 : AR k + (G.getD k grZ).1 ≤ 65536 := by omega
              have g3 : 1 ≤ (G.getD k grZ).1 := hAH.2.2.2
              have g4 : IntKind.i64.wrap (AR k + (G.getD k grZ).1) = AR k + (G.getD k grZ).1 := by rw [IntKind.wrap_i64]; omega
              clear hAH hb
              generalize (G.getD k grZ).1 = gr at *
              go_wp2
              go_roundw
              case rel => exact ⟨k + 1, by omega, by go_num, by rw [hvg.out], by rw [HAn.out], B, b⟩
              case measure => simp [intOf]; omega
        · obtain rfl : k = G.length := by omega
          obtain ⟨x0, x1, x2⟩ := ccells B
          have PE := Lib.hid (PLe.out _ b)
          go_wp2_with fail
          refine PE.out.mono ?_
          rintro e w6 ⟨rfl, b6⟩
          have B6 := B.below b6 B.lt
          have b06 := New.trans b b6
          have hae := AE.out
          clear x0 x1 x2 B b b6 PE
          obtain ⟨x0, x1, x2⟩ := ccells B6
          have t1 : (V G.length 0 0 == V G.length 0 0) = true := by simp
          have t2 : (AR G.length == r) = true := by simp [hae]
          clear hae
          go_wp2
          go_ret
          exact ⟨rfl, b06⟩

set_option maxRecDepth 100000 in
open Go.WideShapes Go.ChangeShapes in
theorem footerStands_contract {H : Type} {enc : TypeId × Value → H} (W : World) (base : Nat) (args : Array Value) (ds : List (DataW H)) (ps : List MemPlace)
    (hval : ∀ (j : Nat) t v, Try.f6.params[j]? = some t → args[j]? = some v → Value.okWide Try.prog W .any base t v)
    (hA : DataW.TrodAll enc Try.prog W 0 (fun _ => true) true Try.f6.params.toList args.toList ds ps) (hlt : ∀ p ∈ ps, p.block < W.heap.size)
    (hsz : (DataW.weightsEach Try.prog Try.f6.params.toList ds).all (· ≤ reachBytes) = true) :
    Calls Try.prog 6 args W fun e W' => e = .returned (.bool true) ∧ Below W.heap.size W W' := by
  rw [Try.params6] at hA hval hsz
  obtain ⟨v0, d0, rfl, rfl, h0⟩ := trodAll_one hA
  -- t: v0 d0 p0 h0, hval 0
  obtain ⟨Ac, cc, L, r, Ag, cg, G, rfl, hF, hcg, hr, _, hG⟩ := open_Fo (hval 0 _ _ rfl rfl) h0 hlt (sized_at hsz (j := 0) rfl rfl)
  exact footerStands_walk hF hcg (fun g hg => (hG g hg).2) hr

end Go.Proofs.Ytflaaahcoglflaa
