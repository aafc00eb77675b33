/- Texts merged, for a claim has at most 60 files: FooK, FooD, FooE, FooG, UpR, FooH, SchG. -/
import Derived.Deep.LoopGhost
import Derived.ScopeJumps
import Derived.Test.YtflaaahcoglflaaBun1
import Derived.Test.YtflaaahcoglflaaBun4
import Derived.Test.YtflaaahcoglflaaBun5
import Derived.Test.YtflaaahcoglflaaBun6
import Derived.WalkMore
/- footer.Place: its contract. -/

namespace Go.Proofs.Ytflaaahcoglflaa
open Go Go.RowKit Go.Hm
def placeG (G : List GroupS) (k : Nat) : Int := ((G.take k).map groupSize).sum
def placeC (g : GroupS) (j : Nat) : Int := ((g.2.take j).map sizesL).sum
/-- Where page q of chunk j of group k begins. -/
def placeV (G : List GroupS) (k j q : Nat) : Int := placeG G k + placeC (G.getD k groupZ) j + sizesL ((pagesAt G k j).take q)
def endB (ng : Nat) (g c p : Int) : Bool := decide (g = (ng : Int) ∧ c = 0 ∧ p = 0)
def pgB (n : Nat) (p : Int) : Bool := decide (0 ≤ p ∧ p < (n : Int))
noncomputable def placeF (F : FootS) (g c p : Int) : Int :=
  if rightF F && (endB F.groups.length g c p || (inB F.cols.length F.groups.length g c && pgB (pagesAt F.groups g.toNat c.toNat).length p)) then placeV F.groups g.toNat c.toNat p.toNat else -1
theorem placeV_zero (G : List GroupS) : placeV G 0 0 0 = 0 := rfl
theorem placeV_page {F : FootS} (h : FootOk F) {k j q : Nat} (hk : k < F.groups.length) (hj : j < F.cols.length) (hq : q < (pagesAt F.groups k j).length) :
    0 ≤ placeV F.groups k j q ∧ placeV F.groups k j (q + 1) = placeV F.groups k j q + ((pagesAt F.groups k j).getD q pageZ).1 ∧ placeV F.groups k j (q + 1) ≤ 1073741824 ∧ 1 ≤ ((pagesAt F.groups k j).getD q pageZ).1 := by
  obtain ⟨hc, hl⟩ := foot_chunk h hk hj
  have hpos := fun p (hp : p ∈ pagesAt F.groups k j) => (pageB_most.1 (hc.1 p hp)).1.2.2.1
  have h1 := sum_take_succ (fun p : PageS => p.1) (pagesAt F.groups k j) q pageZ hq
  have h2 := sum_take_le (fun p : PageS => p.1) (pagesAt F.groups k j) (q + 1) (fun p hp => by have := hpos p hp; omega)
  have h3 := sum_nonneg (fun p : PageS => p.1) ((pagesAt F.groups k j).take q) (fun p hp => by have := hpos p (List.mem_of_mem_take hp); omega)
  have h4 := foot_size h (c := j + 1) hk
  have h5 := sum_take_succ sizesL (F.groups.getD k groupZ).2 j [] (by omega)
  have h6 := sum_nonneg groupSize (F.groups.take k) (fun g hg => (h.2.1 g (List.mem_of_mem_take hg)).nonneg)
  have h7 := sum_nonneg sizesL ((F.groups.getD k groupZ).2.take j) (fun l hl => (foot_group h hk).sizes l (List.mem_of_mem_take hl))
  have h8 := hpos _ (mem_getDF pageZ hq)
  unfold placeV placeG placeC
  unfold pagesAt at *
  unfold sizesL at *
  refine ⟨by omega, by omega, by omega, h8⟩
theorem placeV_chunk {F : FootS} (h : FootOk F) {k j : Nat} (hk : k < F.groups.length) (hj : j < F.cols.length) : placeV F.groups k j (pagesAt F.groups k j).length = placeV F.groups k (j + 1) 0 := by
  obtain ⟨hc, hl⟩ := foot_chunk h hk hj
  have h5 := sum_take_succ sizesL (F.groups.getD k groupZ).2 j [] (by omega)
  unfold placeV placeC
  rw [List.take_length, h5]
  unfold pagesAt
  simp only [List.take_zero]
  have : sizesL [] = 0 := rfl
  omega
theorem placeV_group {F : FootS} (h : FootOk F) {k : Nat} (hk : k < F.groups.length) : placeV F.groups k F.cols.length 0 = placeV F.groups (k + 1) 0 0 := by
  have hl := (foot_group h hk).2.1
  have h5 := sum_take_succ groupSize F.groups k groupZ hk
  unfold placeV placeG placeC
  rw [h5, ← hl, List.take_length]
  simp only [List.take_zero, List.map_nil, List.sum_nil]
  have : sizesL [] = 0 := rfl
  unfold groupSize
  omega
set_option maxHeartbeats 4000000 in
set_option maxRecDepth 100000 in
theorem place_any {w : World} {Ac : Option Addr} {cc : Nat} {L : List ColS} {r : Int} {Ag : Option Addr} {cg : Nat} {G : List GrD} (h : FootIn w Ac cc L Ag G) (hp : ∀ g ∈ G, ∀ x ∈ g.2.2.2, ∀ p ∈ x.2.2, statFine p.2.2) {g c p : Int} :
    Calls Try.prog 16 #[footA Ac cc L r Ag cg G, .int .i64 g, .int .i64 c, .int .i64 p] w (NewPost (.int .i64 (placeF (footP L r G) g c p)) w) := by
  have HR := fun (W : World) (hW : New w W) => fright_any (r := r) (cc := cc) (cg := cg) (h.later hW) hp
  have HH := Lib.hid (fun (W : World) => hasChunk_any (w := W) (Ac := Ac) (Ag := Ag) (nl := L.length) (cc := cc) (ng := G.length) (cg := cg) (r := r) (g := g) (c := c))
  have hX : placeF (footP L r G) g c p = if rightF (footP L r G) && (endB G.length g c p || (inB L.length G.length g c && pgB (pagesAt (G.map grP) g.toNat c.toNat).length p)) then placeV (G.map grP) g.toNat c.toNat p.toNat else -1 := by
    unfold placeF footP
    simp only [List.length_map]
  have hF : rightF (footP L r G) = true → FootOk (footP L r G) := fun e => by unfold rightF at e; simpa using e
  have B0 := Blk.new w 25 #[.slice Ac L.length cc, .int .i64 r, .slice Ag G.length cg]
  have b0 : New w (w.alloc (.cells #[.slice Ac L.length cc, .int .i64 r, .slice Ag G.length cg] 25)) := (Below.refl _ _).alloc (Nat.le_refl _) _
  obtain ⟨x0, x1, x2⟩ := ccells B0
  have HG := Lib.hid h.groups
  have HCH := Lib.hid h.chunks
  have HPG := Lib.hid h.pages
  have hfew2 := h.few2
  have hB := @inB_yes L.length G.length g c
  clear h hp
  have hI : inB L.length G.length g c = decide (0 ≤ g ∧ g < (G.length : Int) ∧ 0 ≤ c ∧ c < (L.length : Int)) := rfl
  generalize inB L.length G.length g c = I at *
  show Calls Try.prog 16 #[.agg #[.slice Ac L.length cc, .int .i64 r, .slice Ag G.length cg], .int .i64 g, .int .i64 c, .int .i64 p] w (NewPost (.int .i64 (placeF (footP L r G) g c p)) w)
  generalize placeF (footP L r G) g c p = X at *
  generalize rightF (footP L r G) = M at *
  have HR : Hid (∀ W, New w W → Calls Try.prog 11 #[.agg #[.slice Ac L.length cc, .int .i64 r, .slice Ag G.length cg]] W (NewPost (.bool M) W)) := Lib.hid HR
  cases M with
  | false =>
    obtain rfl : X = -1 := by rw [hX]; rfl
    clear hX hF hB hI
    go_enter Try.func16, Try.ntmps16
    go_wp2_with fail
    go_step3
    go_wp2_with fail
    refine (HR.out _ b0).mono ?_
    rintro e w1 ⟨rfl, b1⟩
    have b01 := New.trans b0 b1
    clear b0 b1
    go_wp2
    try rw [Exit.noGoto_ret]
    go_ret
    exact ⟨rfl, b01⟩
  | true =>
    have hok := hF rfl
    clear hF
    rw [Bool.true_and] at hX
    have hHH : ∀ (W : World) (g' c' : Int), Calls Try.prog 30 #[.agg #[.slice Ac L.length cc, .int .i64 r, .slice Ag G.length cg], .int .i64 g', .int .i64 c'] W (NewPost (.bool (inB L.length G.length g' c')) W) := fun W g' c' => hasChunk_any
    have HDL := Lib.hid (fun (k : Nat) (hk : k < G.length) => show (G.getD k grZ).2.2.2.length = L.length by
      have := (foot_group hok (k := k) (by unfold footP; simpa using hk)).2.1
      unfold footP at this
      dsimp only at this
      rw [getD_mapX grP G grZ groupZ hk] at this
      unfold grP at this
      simpa using this)
    have hPA := fun (k : Nat) (hk : k < G.length) (j : Nat) (hj : j < (G.getD k grZ).2.2.2.length) => show pagesAt (G.map grP) k j = ((G.getD k grZ).2.2.2.getD j chZ).2.2 by
      unfold pagesAt
      rw [getD_mapX grP G grZ groupZ hk]
      exact getD_mapX (fun x : ChD => x.2.2) (G.getD k grZ).2.2.2 chZ [] hj
    have VZ := Lib.hid (placeV_zero (G.map grP))
    have VP := Lib.hid (fun (k : Nat) (hk : k < G.length) (j : Nat) (hj : j < (G.getD k grZ).2.2.2.length) (q : Nat) (hq : q < ((G.getD k grZ).2.2.2.getD j chZ).2.2.length) =>
      show 0 ≤ placeV (G.map grP) k j q ∧ placeV (G.map grP) k j (q + 1) = placeV (G.map grP) k j q + (((G.getD k grZ).2.2.2.getD j chZ).2.2.getD q pageZ).1 ∧ placeV (G.map grP) k j (q + 1) ≤ 1073741824 ∧ 1 ≤ (((G.getD k grZ).2.2.2.getD j chZ).2.2.getD q pageZ).1 by
      have e := hPA k hk j hj
      have := placeV_page hok (k := k) (j := j) (q := q) (by unfold footP; simpa using hk) (by unfold footP; dsimp only; rw [← HDL.out k hk]; exact hj) (by unfold footP; dsimp only; rw [e]; exact hq)
      unfold footP at this
      dsimp only at this
      rw [e] at this
      exact this)
    have VC := Lib.hid (fun (k : Nat) (hk : k < G.length) (j : Nat) (hj : j < (G.getD k grZ).2.2.2.length) => show placeV (G.map grP) k j ((G.getD k grZ).2.2.2.getD j chZ).2.2.length = placeV (G.map grP) k (j + 1) 0 by
      have e := hPA k hk j hj
      have := placeV_chunk hok (k := k) (j := j) (by unfold footP; simpa using hk) (by unfold footP; dsimp only; rw [← HDL.out k hk]; exact hj)
      unfold footP at this
      dsimp only at this
      rw [e] at this
      exact this)
    have VG := Lib.hid (fun (k : Nat) (hk : k < G.length) => show placeV (G.map grP) k L.length 0 = placeV (G.map grP) (k + 1) 0 0 from
      placeV_group hok (k := k) (by unfold footP; simpa using hk))
    by_cases hE : g = (G.length : Int) ∧ c = 0 ∧ p = 0
    · obtain ⟨rfl, rfl, rfl⟩ := hE
      have hEB : endB G.length (G.length : Int) 0 0 = true := by unfold endB; simp
      rw [hEB, Bool.true_or, if_pos rfl] at hX
      simp only [Int.toNat_natCast, Int.toNat_zero] at hX
      generalize placeV (G.map grP) = V at *
      subst hX
      clear hB hI hEB hok HH hHH hPA
      go_enter Try.func16, Try.ntmps16
      go_wp2_with fail
      go_step3
      go_wp2_with fail
      refine (HR.out _ b0).mono ?_
      rintro e w1 ⟨rfl, b1⟩
      have B1 := B0.below b1 B0.lt
      have bE := New.trans b0 b1
      clear b0 b1 B0 x0 x1 x2 HR
      obtain ⟨x0, x1, x2⟩ := ccells B1
      clear B1
      go_wp2_with fail
      go_step3
      go_wp2_with fail
--BEGIN end
      clear x0 x1 x2
      go_loopw [10, 63] (fun a i wr => ∃ k : Nat, k ≤ G.length ∧ i = .int .i64 (k : Int) ∧ a = .int .i64 (V k 0 0) ∧ New w wr) (fun _ i _ => G.length - (intOf i).toNat)
      case atStart => exact ⟨0, Nat.zero_le _, rfl, by rw [VZ.out], bE⟩
      case round =>
        obtain ⟨k, hk, rfl, rfl, b⟩ := hrel
        clear bE VZ
        by_cases hlt : k < G.length
        · obtain ⟨ad, rfl, hb, d0, d1⟩ := (Reads.later HG.out b).gr2 hlt

          have hgm := mem_getDF grZ hlt
          have hch := HCH.out _ hgm
          have hpg := HPG.out _ hgm
          have hDl := HDL.out k hlt
          have VPk := VP.out k hlt
          have VCk := VC.out k hlt
          have VGk := Lib.hid (VG.out k hlt)

          clear hb hgm
          generalize G.getD k grZ = gg at *
          obtain ⟨gr, Ach, cch, D⟩ := gg
          dsimp only at d0 d1 hch hpg hDl VPk VCk

          have VPk := Lib.hid VPk
          have VCk := Lib.hid VCk
          have HDl := Lib.hid hDl
          have HCHk := Lib.hid hch.1
          have hchl := hch.2
          have HPGk := Lib.hid hpg
          have ha : New wr (wr.alloc (.cells #[.int .i64 gr, .slice Ach D.length cch] 43)) := (Below.refl _ _).alloc (Nat.le_refl _) _
          have BG := Blk.new wr 43 #[.int .i64 gr, .slice Ach D.length cch]
          have b2 := New.trans b ha
          obtain ⟨z0, z1⟩ := cells2 BG
          clear b ha BG hch hpg hDl
          go_wp2_with fail
          clear z0 z1 d0 d1
          go_loopw [10, 71] (fun a i wr => ∃ j : Nat, j ≤ D.length ∧ i = .int .i64 (j : Int) ∧ a = .int .i64 (V k j 0) ∧ New w wr) (fun _ i _ => D.length - (intOf i).toNat)
          case atStart => exact ⟨0, Nat.zero_le _, rfl, rfl, b2⟩
          case round =>
            obtain ⟨j, hj, rfl, rfl, b⟩ := hrel
            clear b2
            by_cases hlj : j < D.length
            · obtain ⟨ac, rfl, hbc, e0⟩ := (Reads.later HCHk.out b).ch1 hlj
              have hxm := mem_getDF chZ hlj
              have hpx := HPGk.out _ hxm
              have VPj := VPk.out j hlj
              have VCj := VCk.out j hlj

              clear hbc hxm
              generalize D.getD j chZ = x at *
              obtain ⟨Ax, cx, pl⟩ := x
              dsimp only at e0 hpx VPj VCj

              have VPj := Lib.hid VPj
              have VCj := Lib.hid VCj
              have HPL := Lib.hid hpx.1
              have hpn := hpx.2
              clear hpx
              go_wp2_with fail
              clear e0
              go_loopw [10, 78] (fun a i wr => ∃ q : Nat, q ≤ pl.length ∧ i = .int .i64 (q : Int) ∧ a = .int .i64 (V k j q) ∧ New w wr) (fun _ i _ => pl.length - (intOf i).toNat)
              case atStart => exact ⟨0, Nat.zero_le _, rfl, rfl, b⟩
              case round =>
                clear b
                obtain ⟨q, hq, rfl, rfl, b⟩ := hrel
                by_cases hlq : q < pl.length
                · obtain ⟨ap, rfl, hbp, d0, d1, d2, d3, d4, d5, d6, d7, d8, d9, d10, d11, d12, d13⟩ := (Reads.later HPL.out b).page14 hlq
                  obtain ⟨v1, v2, v3, v4⟩ := VPj.out q hlq
                  have vs : V k j q + (pl.getD q pageZ).1 ≤ 1073741824 := by omega
                  have vs0 : 0 ≤ V k j q + (pl.getD q pageZ).1 := by omega
                  have H2 := Lib.hid v2
                  clear v2 v3 v4 hbp
                  generalize pl.getD q pageZ = p at *
                  obtain ⟨sz, rw, nn, bb, ⟨p1, p2, p3, p4, p5⟩, ⟨q1, q2, q3, q4, q5⟩⟩ := p
                  dsimp only at d0 d1 d2 d3 d4 d5 d6 d7 d8 d9 d10 d11 d12 d13 H2 vs vs0
                  have ha : New wr (wr.alloc (.cells #[.int .i64 sz, .int .i64 rw, .int .i64 nn, .bool bb, .bool p1, .int .i64 p2, .string (bstr p3), .int .i64 p4, .int .i64 p5, .bool q1, .int .i64 q2, .string (bstr q3), .int .i64 q4, .int .i64 q5] 53)) := (Below.refl _ _).alloc (Nat.le_refl _) _
                  have BP := Blk.new wr 53 #[.int .i64 sz, .int .i64 rw, .int .i64 nn, .bool bb, .bool p1, .int .i64 p2, .string (bstr p3), .int .i64 p4, .int .i64 p5, .bool q1, .int .i64 q2, .string (bstr q3), .int .i64 q4, .int .i64 q5]
                  have b2 := New.trans b ha
                  obtain ⟨e0, e1, e2, e3, e4, e5, e6, e7, e8, e9, e10, e11, e12, e13⟩ := cells14 BP
                  clear b ha BP
                  have nk : ¬ k = G.length := by omega
                  have nkz : ¬ (k : Int) = (G.length : Int) := by omega
                  go_wp2_with fail
                  go_roundw
                  case rel => exact ⟨q + 1, by omega, by go_num, by rw [H2.out], b2⟩
                  case measure => simp [intOf]; omega
                · obtain rfl : q = pl.length := by omega
                  have hvc := Lib.hid VCj.out

                  go_wp2
                  go_roundw
                  case rel => exact ⟨j + 1, by omega, by go_num, by rw [hvc.out], b⟩
                  case measure => simp [intOf]; omega
            · obtain rfl : j = D.length := by omega
              have hvg := VGk.out
              rw [← HDl.out] at hvg
              have hvg := Lib.hid hvg
              go_wp2
              go_roundw
              case rel => exact ⟨k + 1, by omega, by go_num, by rw [hvg.out], b⟩
              case measure => simp [intOf]; omega
        · obtain rfl : k = G.length := by omega
          go_wp2
          try rw [Exit.noGoto_ret]
          go_ret
          exact ⟨rfl, b⟩
--END end
    · have hEB : endB G.length g c p = false := by unfold endB; simpa using hE
      rw [hEB, Bool.false_or] at hX
      clear HH
      cases I with
      | false =>
        obtain rfl : X = -1 := by rw [hX]; rfl
        have HE := Lib.hid hE
        have HH := Lib.hid hHH
        have hi : ∀ g' c' : Int, g' = g → c' = c → inB L.length G.length g' c' = false := by rintro _ _ rfl rfl; exact hI.symm
        have HI := Lib.hid hi
        clear hX hB hI hEB hE hok hHH hPA VZ VP VC VG HDL hi
        go_enter Try.func16, Try.ntmps16
        go_wp2_with fail
        go_step3
        go_wp2_with fail
        refine (HR.out _ b0).mono ?_
        rintro e w1 ⟨rfl, b1⟩
        have B1 := B0.below b1 B0.lt
        have b01 := New.trans b0 b1
        clear b0 b1 B0 x0 x1 x2
        obtain ⟨x0, x1, x2⟩ := ccells B1
        go_wp2_with fail
        all_goals
          first
            | exact absurd ⟨by assumption, by assumption, by assumption⟩ HE.out
            | (refine (HH.out _ _ _).mono ?_
               rw [HI.out _ _ (by omega) (by omega)]
               rintro e w2 ⟨rfl, b2⟩
               have b02 := New.trans b01 b2
               clear b01 b2
               go_wp2
               all_goals
                 first
                   | (try rw [Exit.noGoto_ret]
                      go_ret
                      exact ⟨rfl, b02⟩)
                   | (exfalso; simp_all; done))
      | true =>
        obtain ⟨gk, ck, rfl, rfl, hgk, hck⟩ := hB rfl
        rw [Bool.true_and] at hX
        simp only [Int.toNat_natCast] at hX
        rw [hPA gk hgk ck (by rw [HDL.out gk hgk]; exact hck)] at hX
        have hHH := fun (W : World) => hHH W gk ck
        rw [show inB L.length G.length (gk : Int) (ck : Int) = true from hI.symm] at hHH
        have HH := Lib.hid hHH
        have nE : ¬ gk = G.length := by omega
        have nEz : ¬ (gk : Int) = (G.length : Int) := by omega
        clear hB hI hEB hE hok hHH hPA
        generalize placeV (G.map grP) = V at *
        have HX := Lib.hid hX
        clear hX
        go_enter Try.func16, Try.ntmps16
        go_wp2_with fail
        go_step3
        go_wp2_with fail
        refine (HR.out _ b0).mono ?_
        rintro e w1 ⟨rfl, b1⟩
        have B1 := B0.below b1 B0.lt
        have b01 := New.trans b0 b1
        clear b0 b1 B0 x0 x1 x2
        obtain ⟨x0, x1, x2⟩ := ccells B1
        go_wp2_with fail
        refine (HH.out _).mono ?_
        rintro e w2 ⟨rfl, b2⟩
        have B2 := B1.below b2 B1.lt
        have bI := New.trans b01 b2
        clear b01 b2 B1 x0 x1 x2 HR HH
        obtain ⟨x0, x1, x2⟩ := ccells B2
        clear B2
        obtain ⟨ad0, rfl, hb0, d0, d1⟩ := (Reads.later HG.out bI).gr2 hgk
        have hgm := mem_getDF grZ hgk
        have hch := HCH.out _ hgm
        have hDl := HDL.out gk hgk
        obtain ⟨gg, hgg⟩ : ∃ gg, G.getD gk grZ = gg := ⟨_, rfl⟩
        rw [hgg] at d0 d1 hch hDl
        have HGG := Lib.hid hgg
        clear hgg hgm hb0
        obtain ⟨gr, Ach, cch, D⟩ := gg
        dsimp only at d0 d1 hch hDl
        have hckD : ck < D.length := by omega
        obtain ⟨ac0, rfl, hbc, e0⟩ := (Reads.later hch.1 bI).ch1 hckD
        obtain ⟨xx, hxx⟩ : ∃ xx, D.getD ck chZ = xx := ⟨_, rfl⟩
        rw [hxx] at e0
        have HXX := Lib.hid hxx
        clear hxx hbc hch
        obtain ⟨Ax, cx, pl⟩ := xx
        dsimp only at e0
        have hX := HX.out
        rw [HGG.out] at hX
        dsimp only at hX
        rw [HXX.out] at hX
        dsimp only at hX
        clear HX
        by_cases hp0 : p < 0
        · obtain rfl : X = -1 := by rw [hX, if_neg]; unfold pgB; simp; omega
          clear hX
          go_wp2
          try rw [Exit.noGoto_ret]
          go_ret
          exact ⟨rfl, bI⟩
        by_cases hp1 : (pl.length : Int) ≤ p
        · obtain rfl : X = -1 := by rw [hX, if_neg]; unfold pgB; simp; omega
          clear hX
          go_wp2
          try rw [Exit.noGoto_ret]
          go_ret
          exact ⟨rfl, bI⟩
        · obtain ⟨pk, rfl⟩ : ∃ pk : Nat, p = (pk : Int) := ⟨p.toNat, by omega⟩
          obtain rfl : X = V gk ck pk := by rw [hX, if_pos (by unfold pgB; simp; omega)]; rfl
          have PKF := Lib.hid (show ∀ k j : Nat, k = gk → j = ck → pk < ((G.getD k grZ).2.2.2.getD j chZ).2.2.length by
            rintro _ _ rfl rfl
            rw [HGG.out]
            dsimp only
            rw [HXX.out]
            dsimp only
            omega)
          clear hX HGG HXX
          go_wp2_with fail
          go_step3
          go_wp2_with fail
          clear d0 d1 e0 hDl hckD hp0 hp1 nE nEz
          try generalize ((gk : Int) == (G.length : Int)) = z1
          try generalize (decide ((pk : Int) < 0)) = z2
          try generalize (decide (pl.length ≤ pk)) = z3
          try generalize (decide ((pl.length : Int) ≤ (pk : Int))) = z4
--BEGIN in
          clear x0 x1 x2
          go_loopw [10, 63] (fun a i wr => ∃ k : Nat, k ≤ gk ∧ i = .int .i64 (k : Int) ∧ a = .int .i64 (V k 0 0) ∧ New w wr) (fun _ i _ => G.length - (intOf i).toNat)
          case atStart => exact ⟨0, Nat.zero_le _, rfl, by rw [VZ.out], bI⟩
          case round =>
            obtain ⟨k, hk, rfl, rfl, b⟩ := hrel
            clear bI VZ
            by_cases hlt : k < G.length
            · obtain ⟨ad, hAe, hb, d0, d1⟩ := (Reads.later HG.out b).gr2 hlt
              obtain rfl := Option.some.inj hAe
              have hgm := mem_getDF grZ hlt
              have hch := HCH.out _ hgm
              have hpg := HPG.out _ hgm
              have hDl := HDL.out k hlt
              have VPk := VP.out k hlt
              have VCk := VC.out k hlt
              have VGk := Lib.hid (VG.out k hlt)
              have PKk := PKF.out k
              clear hb hgm
              generalize G.getD k grZ = gg at *
              obtain ⟨gr, Ach, cch, D⟩ := gg
              dsimp only at d0 d1 hch hpg hDl VPk VCk PKk
              have PKk := Lib.hid PKk
              have VPk := Lib.hid VPk
              have VCk := Lib.hid VCk
              have HDl := Lib.hid hDl
              have HCHk := Lib.hid hch.1
              have hchl := hch.2
              have HPGk := Lib.hid hpg
              have ha : New wr (wr.alloc (.cells #[.int .i64 gr, .slice Ach D.length cch] 43)) := (Below.refl _ _).alloc (Nat.le_refl _) _
              have BG := Blk.new wr 43 #[.int .i64 gr, .slice Ach D.length cch]
              have b2 := New.trans b ha
              obtain ⟨z0, z1⟩ := cells2 BG
              clear b ha BG hch hpg hDl
              go_wp2_with fail
              clear z0 z1 d0 d1
              go_loopw [10, 71] (fun a i wr => ∃ j : Nat, j ≤ D.length ∧ i = .int .i64 (j : Int) ∧ a = .int .i64 (V k j 0) ∧ Hid (k < gk ∨ (k = gk ∧ j ≤ ck)) ∧ New w wr) (fun _ i _ => D.length - (intOf i).toNat)
              case atStart => exact ⟨0, Nat.zero_le _, rfl, rfl, Lib.hid (by omega), b2⟩
              case round =>
                obtain ⟨j, hj, rfl, rfl, HIN2, b⟩ := hrel
                clear b2
                by_cases hlj : j < D.length
                · obtain ⟨ac, rfl, hbc, e0⟩ := (Reads.later HCHk.out b).ch1 hlj
                  have hxm := mem_getDF chZ hlj
                  have hpx := HPGk.out _ hxm
                  have VPj := VPk.out j hlj
                  have VCj := VCk.out j hlj
                  have PKj := PKk.out j
                  clear hbc hxm
                  generalize D.getD j chZ = x at *
                  obtain ⟨Ax, cx, pl⟩ := x
                  dsimp only at e0 hpx VPj VCj PKj
                  have HPK := Lib.hid PKj
                  have VPj := Lib.hid VPj
                  have VCj := Lib.hid VCj
                  have HPL := Lib.hid hpx.1
                  have hpn := hpx.2
                  clear hpx
                  go_wp2_with fail
                  clear e0
                  go_loopw [10, 78] (fun a i wr => ∃ q : Nat, q ≤ pl.length ∧ i = .int .i64 (q : Int) ∧ a = .int .i64 (V k j q) ∧ Hid (k < gk ∨ (k = gk ∧ (j < ck ∨ (j = ck ∧ q ≤ pk)))) ∧ New w wr) (fun _ i _ => pl.length - (intOf i).toNat)
                  case atStart => exact ⟨0, Nat.zero_le _, rfl, rfl, Lib.hid (by have := HIN2.out; omega), b⟩
                  case round =>
                    clear b
                    obtain ⟨q, hq, rfl, rfl, HIN3, b⟩ := hrel
                    by_cases hlq : q < pl.length
                    · obtain ⟨ap, rfl, hbp, d0, d1, d2, d3, d4, d5, d6, d7, d8, d9, d10, d11, d12, d13⟩ := (Reads.later HPL.out b).page14 hlq
                      obtain ⟨v1, v2, v3, v4⟩ := VPj.out q hlq
                      have vs : V k j q + (pl.getD q pageZ).1 ≤ 1073741824 := by omega
                      have vs0 : 0 ≤ V k j q + (pl.getD q pageZ).1 := by omega
                      have H2 := Lib.hid v2
                      clear v2 v3 v4 hbp
                      generalize pl.getD q pageZ = p at *
                      obtain ⟨sz, rw, nn, bb, ⟨p1, p2, p3, p4, p5⟩, ⟨q1, q2, q3, q4, q5⟩⟩ := p
                      dsimp only at d0 d1 d2 d3 d4 d5 d6 d7 d8 d9 d10 d11 d12 d13 H2 vs vs0
                      have ha : New wr (wr.alloc (.cells #[.int .i64 sz, .int .i64 rw, .int .i64 nn, .bool bb, .bool p1, .int .i64 p2, .string (bstr p3), .int .i64 p4, .int .i64 p5, .bool q1, .int .i64 q2, .string (bstr q3), .int .i64 q4, .int .i64 q5] 53)) := (Below.refl _ _).alloc (Nat.le_refl _) _
                      have BP := Blk.new wr 53 #[.int .i64 sz, .int .i64 rw, .int .i64 nn, .bool bb, .bool p1, .int .i64 p2, .string (bstr p3), .int .i64 p4, .int .i64 p5, .bool q1, .int .i64 q2, .string (bstr q3), .int .i64 q4, .int .i64 q5]
                      have b2 := New.trans b ha
                      obtain ⟨e0, e1, e2, e3, e4, e5, e6, e7, e8, e9, e10, e11, e12, e13⟩ := cells14 BP
                      clear b ha BP
                      by_cases hit : k = gk ∧ j = ck ∧ q = pk
                      · obtain ⟨rfl, rfl, rfl⟩ := hit
                        clear VPj VCj VPk VCk VGk VP VC VG HDL H2 PKk HPK PKF
                        generalize V k j q = vv at *
                        go_wp2_with fail
                        try rw [Exit.noGoto_ret]
                        go_ret
                        exact ⟨rfl, b2⟩
                      have HN := Lib.hid (show k < gk ∨ (k = gk ∧ (j < ck ∨ (j = ck ∧ q + 1 ≤ pk))) by have := HIN3.out; omega)
                      by_cases n1 : k = gk
                      · have t1 : ((k : Int) == (gk : Int)) = true := by simp [n1]
                        have N1 := Lib.hid n1
                        by_cases n2 : j = ck
                        · have t2 : ((j : Int) == (ck : Int)) = true := by simp [n2]
                          have N2 := Lib.hid n2
                          have n3 : ¬ q = pk := fun e => hit ⟨n1, n2, e⟩
                          have n3z : ¬ (q : Int) = (pk : Int) := by omega
                          clear n1 n2 hit
                          go_wp2_with fail
                          go_roundw
                          case rel => exact ⟨q + 1, by omega, by go_num, by rw [H2.out], HN, b2⟩
                          case measure => simp [intOf]; omega
                        · have n2z : ¬ (j : Int) = (ck : Int) := by omega
                          clear n1 hit
                          go_wp2_with fail
                          go_roundw
                          case rel => exact ⟨q + 1, by omega, by go_num, by rw [H2.out], HN, b2⟩
                          case measure => simp [intOf]; omega
                      · have n1z : ¬ (k : Int) = (gk : Int) := by omega
                        clear hit
                        go_wp2_with fail
                        go_roundw
                        case rel => exact ⟨q + 1, by omega, by go_num, by rw [H2.out], HN, b2⟩
                        case measure => simp [intOf]; omega
                    · obtain rfl : q = pl.length := by omega
                      have hvc := Lib.hid VCj.out
                      have HN := Lib.hid (show k < gk ∨ (k = gk ∧ j + 1 ≤ ck) by
                        have h1 := HIN3.out
                        have h2 := HPK.out
                        rcases h1 with h1 | ⟨h1, h3 | ⟨h3, h4⟩⟩
                        · omega
                        · omega
                        · have := h2 h1 h3
                          omega)
                      go_wp2
                      go_roundw
                      case rel => exact ⟨j + 1, by omega, by go_num, by rw [hvc.out], HN, b⟩
                      case measure => simp [intOf]; omega
                · obtain rfl : j = D.length := by omega
                  have hvg := VGk.out
                  rw [← HDl.out] at hvg
                  have hvg := Lib.hid hvg
                  go_wp2
                  go_roundw
                  case rel => exact ⟨k + 1, by have := HIN2.out; have := HDl.out; omega, by go_num, by rw [hvg.out], b⟩
                  case measure => simp [intOf]; omega
            · exfalso
              omega
--END in

end Go.Proofs.Ytflaaahcoglflaa
/- The contracts of footer.putNumber and footer.putPages. -/

namespace Go.Hm
open Go Go.RowKit
/-- From v to v' no block is turned but v's own, and new ones. -/
def Grows (w w' : World) (v v' : Value) : Prop := w.grownBy w' v.ownBlock ∧ (v'.ownBlock = v.ownBlock ∨ ∃ g, v'.ownBlock = some g ∧ w.heap.size ≤ g)
theorem Grows.trans {a b c : World} {u v x : Value} (h : Grows a b u v) (k : Grows b c v x) : Grows a c u x := by
  obtain ⟨h1, h2⟩ := h
  obtain ⟨k1, k2⟩ := k
  refine ⟨⟨k1.os.trans h1.os, k1.tape.trans h1.tape, k1.output.trans h1.output, Nat.le_trans h1.size k1.size, fun i hi hne => ?_⟩, ?_⟩
  · refine (k1.block i (Nat.lt_of_lt_of_le hi h1.size) fun e => ?_).trans (h1.block i hi hne)
    rcases h2 with h2 | ⟨g, h2, hg⟩
    · rw [h2] at e; exact hne e
    · rw [h2] at e; injection e with e; omega
  · rcases k2 with k2 | ⟨g, k2, hg⟩
    · rw [k2]; exact h2
    · exact .inr ⟨g, k2, Nat.le_trans h1.size hg⟩
theorem grown_new_any {w w' : World} {row : Option Nat} (h : New w w') : w.grownBy w' row := ⟨h.os, h.tape, h.output, h.size, fun k hk _ => h.block k hk⟩
theorem Grows.of_new {w w' : World} {v : Value} (h : New w w') : Grows w w' v v := ⟨grown_new_any h, .inl rfl⟩
theorem Grows.size {w w' : World} {v v' : Value} (h : Grows w w' v v') : w.heap.size ≤ w'.heap.size := h.1.size
theorem Grows.blk {w w' : World} {v v' : Value} {g : Nat} {t e : TypeId} {cs : Array Value} {base : Nat} {xs : List Value} (h : Grows w w' v v') (o : Own w base e v xs) (B : Blk w g t cs) (hne : e ≠ t) : Blk w' g t cs :=
  B.grown h.1 (fun he => o.blk_ne B hne he.symm)
theorem Grows.below {w0 w w' : World} {v v' : Value} {base B : Nat} {e : TypeId} {xs : List Value} (h : Grows w w' v v') (o : Own w base e v xs) (b : Below B w0 w) (hB : B ≤ base) (hBw : B ≤ w.heap.size) : Below B w0 w' := by
  refine b.trans ⟨h.1.os, h.1.tape, h.1.output, h.1.size, fun k hk => h.1.block k (by omega) fun he => ?_⟩
  have := (o.lt k he.symm).1
  omega

end Go.Hm

namespace Go.Proofs.Ytflaaahcoglflaa
open Go.RowKit Go.Hm
def AddPost (base : Nat) (v : Value) (l : List Nat) (w : World) (e : Ending) (w' : World) : Prop :=
  ∃ A n c, e = .returned (.slice A n c) ∧ Go.Hm.Own w' base 5 (.slice A n c) (nums .u8 l) ∧ Grows w w' v (.slice A n c)
set_option maxHeartbeats 1000000 in
set_option maxRecDepth 100000 in
theorem putNumber_any {w : World} {base n c N : Nat} {A : Option Addr} {l : List Nat} (o : Go.Hm.Own w base 5 (.slice A n c) (nums .u8 l)) (hb : base ≤ w.heap.size) (hn : n ≤ 100000000000000) (hN : N ≤ 9223372036854775807) :
    Calls Try.prog 21 #[.slice A n c, .int .i64 (N : Int)] w (AddPost base (.slice A n c) (l ++ vp N) w) := by
  have P := Lib.hid (put_any none 0 0 [] N w Reads.none_ (by omega) (by omega))
  have V := vp_len10 (n := N) (by omega)
  have hw : IntKind.u64.wrap (N : Int) = (N : Int) := by rw [IntKind.wrap_u64]; omega
  have HO := Lib.hid o
  clear o
  go_enter Try.func21, Try.ntmps21
  go_wp2_with fail
  refine P.out.mono ?_
  rintro e w1 ⟨A2, n2, c2, rfl, k2, b2⟩
  rw [List.nil_append] at k2
  have hq : n2 ≤ 10 := by have := k2.len; rw [nums_length] at this; omega
  have o1 := HO.out.later b2
  have hz := b2.size
  go_wp2_with (refine wpList_pushesN elB rfl (.tmp 5) (.tmp 8) rfl (W := w) (B := base) o1 k2.reads rfl rfl (Below.mono b2 hb) (Nat.le_refl _) (by omega) (by omega) (by simp only [maxLen]; omega) ?_
               intro A5 c5 w5 _ _ o5 g5 _ d5)
  go_ret
  exact ⟨_, _, _, rfl, o5, (Grows.of_new b2).trans ⟨g5, d5⟩⟩
theorem pageL_len {t : Int} {p : PageS} (h1 : p.1.toNat < 18446744073709551616) (h2 : p.2.1.toNat < 18446744073709551616) : (pageL t p).length ≤ 140020 := by
  have a := vp_len10 (n := p.1.toNat) h1
  have b := vp_len10 (n := p.2.1.toNat) h2
  have c := putS_len (l := []) (t := t) (s := p.2.2)
  unfold pageL
  simp only [List.length_append, List.length_nil] at c ⊢
  omega
theorem flat_pages {t : Int} : ∀ l : List PageS, (∀ p ∈ l, p.1.toNat < 18446744073709551616 ∧ p.2.1.toNat < 18446744073709551616) → (l.flatMap (pageL t)).length ≤ l.length * 140020
  | [], _ => by simp
  | p :: l, h => by
    have a := pageL_len (t := t) (h p (by simp)).1 (h p (by simp)).2
    have b := flat_pages (t := t) l fun q hq => h q (by simp [hq])
    rw [List.flatMap_cons, List.length_append, List.length_cons]
    omega
def PageNum (p : PageS) : Prop := (0 ≤ p.1 ∧ p.1 ≤ 9223372036854775807) ∧ (0 ≤ p.2.1 ∧ p.2.1 ≤ 9223372036854775807) ∧ statData p.2.2
set_option maxHeartbeats 2000000 in
set_option maxRecDepth 100000 in
theorem putPages_any {w : World} {base n c np cp : Nat} {A Ap : Option Addr} {t : Int} {l : List Nat} {ps : List PageS} (o : Go.Hm.Own w base 5 (.slice A n c) (nums .u8 l)) (hb : base ≤ w.heap.size) (h : Reads w base 14 Ap np (recs pageV ps)) (hp : ∀ p ∈ ps, PageNum p)
    (hn : n + 10 + np * 140020 ≤ 100000000000000) :
    Calls Try.prog 22 #[.slice A n c, .int .i64 t, .slice Ap np cp] w (AddPost base (.slice A n c) (l ++ chunkL t ps) w) := by
  obtain rfl := h.lenPage
  have hln : l.length = n := by have := o.len; rw [nums_length] at this; exact this.symm
  have V := vp_len10 (n := ps.length) (by omega)
  have PN := Lib.hid (putNumber_any (N := ps.length) o hb (by omega) (by omega))
  have hfl := fun k => flat_pages (t := t) (ps.take k) (fun p hpm => by
    have := hp p (List.mem_of_mem_take hpm)
    have h1 := this.1
    have h2 := this.2.1
    omega)
  have HF := Lib.hid (fun k => by have := hfl k; rw [List.length_take] at this; exact this)
  have HR := Lib.hid h
  have HP := Lib.hid hp
  have HO := Lib.hid o
  have HLN := Lib.hid hln
  clear h hp o hln hfl
  go_enter Try.func22, Try.ntmps22
  go_wp2_with fail
  refine PN.out.mono ?_
  rintro e w1 ⟨A1, n1, c1, rfl, o1, g1⟩
  have hb1 := g1.size
  have b1 : Below base w w1 := g1.below HO.out (Below.refl _ _) (Nat.le_refl _) hb
  clear PN
  go_wp2_with fail
  go_loopw [0, 15] (fun v i wr => ∃ (k : Nat) (B : Option Addr) (m d : Nat), k ≤ ps.length ∧ i = .int .i64 (k : Int) ∧ v = .slice B m d ∧ Go.Hm.Own wr base 5 (.slice B m d) (nums .u8 (l ++ vp ps.length ++ (ps.take k).flatMap (pageL t))) ∧ Grows w wr (.slice A n c) (.slice B m d) ∧ Below base w wr) (fun _ i _ => ps.length - (intOf i).toNat)
  case atStart => exact ⟨0, A1, n1, c1, Nat.zero_le _, rfl, rfl, by simpa using o1, g1, b1⟩
  case round =>
    obtain ⟨k, B, m, d, hk, rfl, rfl, o, g, b⟩ := hrel
    clear o1 g1 b1 hb1
    have hml : m ≤ n + 10 + k * 140020 := by
      have h1 := o.len
      rw [nums_length, List.length_append, List.length_append] at h1
      have h2 := HF.out k
      have h3 := HLN.out
      omega
    have hsz := g.size
    by_cases hlt : k < ps.length
    · obtain ⟨ad, rfl, hbd, d0, d1, d2, d3, d4, d5, d6, d7, d8, d9, d10, d11, d12, d13⟩ := (HR.out.below b).page14 hlt
      have htk := take_snoc ps k pageZ hlt
      have hpn := HP.out _ (mem_getDF pageZ hlt)
      have hpl : (ps.take (k + 1)).flatMap (pageL t) = (ps.take k).flatMap (pageL t) ++ pageL t (ps.getD k pageZ) := by rw [htk, List.flatMap_append]; simp
      rw [show pageL t (ps.getD k pageZ) = vp (ps.getD k pageZ).1.toNat ++ vp (ps.getD k pageZ).2.1.toNat ++ Go.Hm.putS [] t (ps.getD k pageZ).2.2 from rfl] at hpl
      have HPL := Lib.hid hpl
      clear htk hpl hbd
      generalize ps.getD k pageZ = p at *
      obtain ⟨hp1, hp2, hp3⟩ := hpn
      have SP := fun (W : World) => stput_any (w := W) (c := 0) (t := t) (l := []) (n := 0) (A := none) Reads.none_ (by omega) hp3
      have hspl := putS_len (l := []) (t := t) (s := p.2.2)
      obtain ⟨szI, rwI, nn, bb, ⟨p1, p2, p3, p4, p5⟩, ⟨q1, q2, q3, q4, q5⟩⟩ := p
      dsimp only at hp1 hp2 hp3 SP hspl HPL d0 d1 d2 d3 d4 d5 d6 d7 d8 d9 d10 d11 d12 d13
      obtain ⟨sz, rfl⟩ := Int.eq_ofNat_of_zero_le hp1.1
      obtain ⟨rw, rfl⟩ := Int.eq_ofNat_of_zero_le hp2.1
      simp only [Int.toNat_natCast] at HPL
      generalize Go.Hm.putS [] t (nn, bb, (p1, p2, p3, p4, p5), (q1, q2, q3, q4, q5)) = SB at *
      have SP : Hid (∀ W, Calls Try.prog 41 #[.slice none 0 0, .int .i64 t, .agg #[.int .i64 nn, .bool bb, .bool p1, .int .i64 p2, .string (bstr p3), .int .i64 p4, .int .i64 p5, .bool q1, .int .i64 q2, .string (bstr q3), .int .i64 q4, .int .i64 q5]] W (BytesPost SB W)) := Lib.hid SP
      have V1 := vp_len10 (n := sz) (by omega)
      have V2 := vp_len10 (n := rw) (by omega)
      simp only [List.length_nil] at hspl
      have hspl : SB.length ≤ 140000 := by omega
      have ha : New wr (wr.alloc (.cells #[.int .i64 (sz : Int), .int .i64 (rw : Int), .int .i64 nn, .bool bb, .bool p1, .int .i64 p2, .string (bstr p3), .int .i64 p4, .int .i64 p5, .bool q1, .int .i64 q2, .string (bstr q3), .int .i64 q4, .int .i64 q5] 53)) := (Below.refl _ _).alloc (Nat.le_refl _) _
      have BP := Blk.new wr 53 #[.int .i64 (sz : Int), .int .i64 (rw : Int), .int .i64 nn, .bool bb, .bool p1, .int .i64 p2, .string (bstr p3), .int .i64 p4, .int .i64 p5, .bool q1, .int .i64 q2, .string (bstr q3), .int .i64 q4, .int .i64 q5]
      have o2 := o.later ha
      have g2 := g.trans (Grows.of_new ha)
      have hsz2 := g2.size
      have N1 := Lib.hid (putNumber_any (N := sz) o2 (by omega) (by omega) (by omega))
      obtain ⟨e0, e1, e2, e3, e4, e5, e6, e7, e8, e9, e10, e11, e12, e13⟩ := cells14 BP
      have hmq : m + 140020 ≤ 100000000000000 := by omega
      clear o g ha hp3
      go_wp2_with fail
      refine N1.out.mono ?_
      rintro e w3 ⟨A3, n3, c3, rfl, o3, g3⟩
      have BP3 := g3.blk o2 BP (by decide)
      have g03 := g2.trans g3
      have hq3 : n3 ≤ m + 10 := by have h1 := o3.len; have h2 := o2.len; rw [nums_length, List.length_append] at h1; rw [nums_length] at h2; omega
      have hsz3 := g03.size
      have N2 := Lib.hid (putNumber_any (N := rw) o3 (by omega) (by omega) (by omega))
      clear N1 o2 g2 g3 BP e0 e1 e2 e3 e4 e5 e6 e7 e8 e9 e10 e11 e12 e13 d0 d1 d2 d3 d4 d5 d6 d7 d8 d9 d10 d11 d12 d13
      obtain ⟨e0, e1, e2, e3, e4, e5, e6, e7, e8, e9, e10, e11, e12, e13⟩ := cells14 BP3
      go_wp2_with fail
      refine N2.out.mono ?_
      rintro e w4 ⟨A4, n4, c4, rfl, o4, g4⟩
      have BP4 := g4.blk o3 BP3 (by decide)
      have g04 := g03.trans g4
      have hq4 : n4 ≤ m + 20 := by have h1 := o4.len; have h2 := o3.len; rw [nums_length, List.length_append] at h1; rw [nums_length] at h2; omega
      have hsz4 := g04.size
      clear N2 o3 g03 g4 BP3 e0 e1 e2 e3 e4 e5 e6 e7 e8 e9 e10 e11 e12 e13
      obtain ⟨e0, e1, e2, e3, e4, e5, e6, e7, e8, e9, e10, e11, e12, e13⟩ := cells14 BP4
      go_wp2_with fail
      refine (SP.out _).mono ?_
      rintro e w5 ⟨A5, n5, c5, rfl, k5, b5⟩
      have hq5 : n5 ≤ 140000 := by have := k5.len; rw [nums_length] at this; omega
      have o5 := o4.later b5
      have g05 := g04.trans (Grows.of_new b5)
      have hsz5 := g05.size
      have bb5 : Below base w w5 := g05.below HO.out (Below.refl _ _) (Nat.le_refl _) hb
      clear SP o4 g04 BP4 e0 e1 e2 e3 e4 e5 e6 e7 e8 e9 e10 e11 e12 e13 b5
      go_wp2_with (refine wpList_pushesN elB rfl (.tmp 27) (.tmp 31) rfl (W := w) (B := base) o5 k5.reads rfl rfl bb5 (Nat.le_refl _) (by omega) (by omega) (by simp only [maxLen]; omega) ?_
                   intro A6 c6 w6 _ _ o6 g6 b6 d6)
      go_roundw
      case rel => exact ⟨k + 1, A6, _, c6, by omega, by go_num, rfl, by rw [HPL.out]; simpa using o6, g05.trans ⟨g6, d6⟩, b6⟩
      case measure => simp [intOf]; omega
    · obtain rfl : k = ps.length := by omega
      rw [List.take_length] at o
      have HO2 := Lib.hid o
      clear o
      go_wp2_with fail
      go_ret
      refine ⟨_, _, _, rfl, ?_, g⟩
      have := HO2.out
      rw [List.append_assoc] at this
      exact this

end Go.Proofs.Ytflaaahcoglflaa
/- The contract of footer.Encode. -/

namespace Go.Hm
open Go Go.RowKit
open Classical in
noncomputable def encF (F : FootS) : Option (List Nat) := if FootOk F then some (footL F) else none
theorem chunksL_snoc : ∀ (c : Nat) (cs : List ColS) (ls : List (List PageS)), c < cs.length → c < ls.length → chunksL (cs.take (c + 1)) (ls.take (c + 1)) = chunksL (cs.take c) (ls.take c) ++ chunkL (cs.getD c colZ).2.1 (ls.getD c [])
  | 0, x :: cs, l :: ls, _, _ => by simp [chunksL]
  | c + 1, x :: cs, l :: ls, h1, h2 => by
    have := chunksL_snoc c cs ls (by simpa using h1) (by simpa using h2)
    simp only [List.take_succ_cons, chunksL, List.getD_cons_succ] at this ⊢
    rw [this, List.append_assoc]
  | _, [], _, h, _ => by simp at h
  | _, _ :: _, [], _, h => by simp at h
theorem sum_rows_nat {cols : List ColS} : ∀ {gs : List GroupS}, (∀ g ∈ gs, GroupOk cols g) → 0 ≤ (gs.map (·.1)).sum
  | [], _ => by simp
  | g :: gs, h => by
    have := sum_rows_nat (gs := gs) fun q hq => h q (by simp [hq])
    have := (h g (by simp)).1
    rw [List.map_cons, List.sum_cons]
    omega

end Go.Hm

namespace Go.Proofs.Ytflaaahcoglflaa
open Go.RowKit Go.Hm
theorem PageFine.num {p : PageS} (h : PageFine p) {t : Int} {nu : Bool} {m : Int} (hb : pageB t nu p m = true) : PageNum p := by
  have h1 := (pageB_most.1 hb).1
  exact ⟨by omega, ⟨by omega, h.2.2.2⟩, CellFine.data h.1.1.1, CellFine.data h.1.1.2⟩
theorem catC_few {L : List ColS} (h : ColsOk L) : (putC [] L).length ≤ 8000 := by
  unfold putC
  split
  · have h1 := catC_len L (fun x hx => (h.2.1 x hx).2.1)
    have h2 := vp_len10 (n := L.length) (by have := h.1; omega)
    have := h.1
    simp only [List.length_append, List.length_nil]
    omega
  · simp
set_option maxHeartbeats 4000000 in
set_option maxRecDepth 100000 in
theorem fencode_any {w : World} {Ac : Option Addr} {cc : Nat} {L : List ColS} {r : Int} {Ag : Option Addr} {cg : Nat} {G : List GrD} (h : FootIn w Ac cc L Ag G) (hp : ∀ g ∈ G, ∀ x ∈ g.2.2.2, ∀ p ∈ x.2.2, PageFine p) :
    Calls Try.prog 9 #[footA Ac cc L r Ag cg G] w (OptB (encF (footP L r G)) w) := by
  have RT := Lib.hid (fun (W : World) (hW : New w W) => fright_any (cg := cg) (r := r) (h.later hW) (fun g hg x hx p hpm => (hp g hg x hx p hpm).stat))
  have HG := Lib.hid h.groups
  have HL := Lib.hid h.cols
  have hfew := h.few
  have hfew2 := h.few2
  have hfine := h.fine
  have hcap := h.cap
  have HCH := Lib.hid h.chunks
  have HPG := Lib.hid h.pages
  have HP := Lib.hid hp
  clear h hp
  obtain ⟨M, hM⟩ : ∃ M, M = encF (footP L r G) := ⟨_, rfl⟩
  rw [← hM]
  unfold encF at hM
  show Calls Try.prog 9 #[.agg #[.slice Ac L.length cc, .int .i64 r, .slice Ag G.length cg]] w (OptB M w)
  have B0 := Blk.new w 25 #[.slice Ac L.length cc, .int .i64 r, .slice Ag G.length cg]
  have b0 : New w (w.alloc (.cells #[.slice Ac L.length cc, .int .i64 r, .slice Ag G.length cg] 25)) := (Below.refl _ _).alloc (Nat.le_refl _) _
  obtain ⟨x0, x1, x2⟩ := ccells B0
  by_cases hok : FootOk (footP L r G)
  · rw [if_pos hok] at hM
    rw [rightF_yes hok] at RT
    have RT : Hid (∀ W, New w W → Calls Try.prog 11 #[.agg #[.slice Ac L.length cc, .int .i64 r, .slice Ag G.length cg]] W (NewPost (.bool true) W)) := RT
    have hok2 := hok
    obtain ⟨hcok, hgok, hsum, hr, -⟩ := hok
    unfold footP at hok2 hgok hsum hM
    dsimp only [footP] at hcok hr
    dsimp only at hgok hsum
    have hr0 := sum_rows_nat hgok
    rw [hsum] at hr0
    obtain ⟨rN, rfl⟩ := Int.eq_ofNat_of_zero_le hr0
    unfold footL at hM
    dsimp only at hM
    rw [Int.toNat_natCast, List.length_map] at hM
    have hcl := catC_few hcok
    have SPt := Lib.hid (fun (W : World) (hW : New w W) => sput_any (A := none) (n := 0) (c := 0) (b := []) (c2 := cc) Reads.none_ (by omega) (Reads.later HL.out hW) hfine hcap hfew)
    have HMap := Lib.hid (fun (k : Nat) (hk : k < G.length) => getD_mapX grP G (k := k) grZ groupZ hk)
    have HLen := Lib.hid (show (G.map grP).length = G.length from List.length_map ..)
    have HOK := Lib.hid hok2
    have HL64 : L.length ≤ 64 := hcok.1
    have hGl : G.length ≤ 65536 := by
      have := (rows_sum hgok).1
      rw [List.length_map, hsum] at this
      omega
    have HM := Lib.hid hM
    clear hM hgok hsum hr0 hok2 hcok hfine
    generalize G.map grP = GP at *
    generalize putC [] L = PC at *
    go_enter Try.func9, Try.ntmps9
    go_wp2_with fail
    refine (RT.out _ b0).mono ?_
    rintro e w1 ⟨rfl, b1⟩
    have B1 := B0.below b1 B0.lt
    have b01 := New.trans b0 b1
    clear B0 b0 b1 x0 x1 x2 RT
    obtain ⟨x0, x1, x2⟩ := ccells B1
    go_wp2_with fail
    refine (SPt.out _ b01).mono ?_
    rintro e w2 ⟨A2, n2, c2, rfl, o2, b2⟩
    have hq2 : n2 ≤ 8000 := by have := o2.len; rw [nums_length] at this; omega
    have hbase : w.heap.size ≤ w1.heap.size := b01.size
    have B2 := B1.below b2 B1.lt
    have hB1 : w.heap.size < w1.heap.size := B1.lt
    have hz2 := b2.size
    have N1 := Lib.hid (putNumber_any (N := rN) o2 hz2 (by omega) (by omega))
    have VR := vp_len10 (n := rN) (by omega)
    have VG := vp_len10 (n := G.length) (by omega)
    clear SPt B1 x0 x1 x2
    obtain ⟨x0, x1, x2⟩ := ccells B2
    go_wp2_with fail
    refine N1.out.mono ?_
    rintro e w3 ⟨A3, n3, c3, rfl, o3, g3⟩
    have hq3 : n3 ≤ 8010 := by have h1 := o3.len; have h2 := o2.len; rw [nums_length, List.length_append] at h1; rw [nums_length] at h2; omega
    have bb3 := g3.below o2 b2 (Nat.le_refl _) hz2
    have hz3 := g3.size
    have N2 := Lib.hid (putNumber_any (N := G.length) o3 (by omega) (by omega) (by omega))
    have B3 := g3.blk o2 B2 (by decide)
    clear N1 o2 g3 B2 x0 x1 x2 b2
    obtain ⟨x0, x1, x2⟩ := ccells B3
    go_wp2_with fail
    refine N2.out.mono ?_
    rintro e w4 ⟨A4, n4, c4, rfl, o4, g4⟩
    have hq4 : n4 ≤ 8020 := by have h1 := o4.len; have h2 := o3.len; rw [nums_length, List.length_append] at h1; rw [nums_length] at h2; omega
    have bb4 := g4.below o3 bb3 (Nat.le_refl _) (by omega)
    have hz4 := g4.size
    have B4 := g4.blk o3 B3 (by decide)
    have hz14 : w1.heap.size ≤ w4.heap.size := by omega
    clear N2 o3 g4 B3 x0 x1 x2 bb3
    obtain ⟨x0, x1, x2⟩ := ccells B4
    go_wp2_with fail
    clear x0 x1 x2
    go_loopw [4, 27] (fun v i wr => ∃ (k : Nat) (B : Option Addr) (m d R : Nat), k ≤ G.length ∧ i = .int .i64 (k : Int) ∧ v = .slice B m d ∧ Go.Hm.Own wr w1.heap.size 5 (.slice B m d) (nums .u8 (PC ++ vp rN ++ vp G.length ++ (GP.take k).flatMap (groupL L)))
      ∧ (R : Int) = ((GP.take k).map (·.1)).sum ∧ m ≤ 9000 + 700 * k + 8961280 * R ∧ Blk wr w.heap.size 25 #[.slice Ac L.length cc, .int .i64 (rN : Int), .slice Ag G.length cg] ∧ Below w1.heap.size w1 wr ∧ w1.heap.size ≤ wr.heap.size) (fun _ i _ => G.length - (intOf i).toNat)
    case atStart => exact ⟨0, A4, n4, c4, 0, Nat.zero_le _, rfl, rfl, by simpa using o4, by simp, by omega, B4, bb4, hz14⟩
    case round =>
      obtain ⟨k, Bv, m, d, R, hk, rfl, rfl, o, hR, hml, B, bb, hzw⟩ := hrel
      clear o4 B4 bb4 hq4
      have bw : New w wr := New.trans b01 bb
      by_cases hlt : k < G.length
      · obtain ⟨ad, rfl, hb, d0, d1⟩ := (Reads.later HG.out bw).gr2 hlt
        have hgm := mem_getDF grZ hlt
        have hch := HCH.out _ hgm
        have hpg := HPG.out _ hgm
        have hpp := HP.out _ hgm
        have hmap := HMap.out k hlt
        have hltP : k < GP.length := by rw [HLen.out]; exact hlt
        have hgok := HOK.out.2.1 (GP.getD k groupZ) (mem_getDF groupZ hltP)
        have hrows := foot_rows HOK.out hltP
        have hts := sum_take_succ (fun g : GroupS => g.1) GP k groupZ hltP
        have hfm : (GP.take (k + 1)).flatMap (groupL L) = (GP.take k).flatMap (groupL L) ++ groupL L (GP.getD k groupZ) := by rw [take_snoc GP k groupZ hltP, List.flatMap_append]; simp
        dsimp only at hgok hrows hts
        rw [hmap] at hgok hrows hts hfm
        generalize G.getD k grZ = g at *
        obtain ⟨gI, Ach, cch, D⟩ := g
        unfold grP at hgok hrows hts hfm
        dsimp only at d0 d1 hch hpg hpp hgok hrows hts hfm
        obtain ⟨hg1, hg2, hg3⟩ := hgok
        dsimp only at hg1 hg2 hg3
        obtain ⟨gr, rfl⟩ := Int.eq_ofNat_of_zero_le (show 0 ≤ gI by omega)
        rw [List.length_map] at hg2
        rw [show groupL L ((gr : Int), D.map fun x : ChD => x.2.2) = vp gr ++ chunksL L (D.map fun x : ChD => x.2.2) from rfl] at hfm
        have hgr : gr + R ≤ 65536 := by omega
        have hRR : ((R + gr : Nat) : Int) = ((GP.take (k + 1)).map (·.1)).sum := by rw [hts, ← hR]; simp
        have HRR := Lib.hid hRR
        have HFM := Lib.hid hfm
        have HG3 := Lib.hid hg3
        have HCHk := Lib.hid hch.1
        have HPGk := Lib.hid hpg
        have HPPk := Lib.hid hpp
        have hDL : D.length ≤ L.length := by omega
        have HG2 := Lib.hid hg2
        clear hmap hltP hgm hb hch hpg hpp hts hrows hR hRR hfm hg3 hg2
        have ha : New wr (wr.alloc (.cells #[.int .i64 (gr : Int), .slice Ach D.length cch] 43)) := (Below.refl _ _).alloc (Nat.le_refl _) _
        have BG := Blk.new wr 43 #[.int .i64 (gr : Int), .slice Ach D.length cch]
        have B5 := B.below ha B.lt
        have o5 := o.later ha
        have bb5 : Below w1.heap.size w1 (wr.alloc (.cells #[.int .i64 (gr : Int), .slice Ach D.length cch] 43)) := bb.trans (Below.mono ha hzw)
        obtain ⟨z0, z1⟩ := cells2 BG
        have N1 := Lib.hid (putNumber_any (N := gr) o5 (by simp; omega) (by omega) (by omega))
        have VGr := vp_len10 (n := gr) (by omega)
        have HML := Lib.hid hml
        have hmq : m ≤ 700000000000 := by omega
        clear B o bb ha
        go_wp2_with fail
        refine N1.out.mono ?_
        rintro e w6 ⟨A6, n6, c6, rfl, o6, g6⟩
        have hq6 : n6 ≤ m + 10 := by have h1 := o6.len; have h2 := o5.len; rw [nums_length, List.length_append] at h1; rw [nums_length] at h2; omega
        have bb6 := g6.below o5 bb5 (Nat.le_refl _) (by simp; omega)
        have hz6 := g6.size
        simp only [World.size_alloc] at hz6
        have B6 := g6.blk o5 B5 (by decide)
        have BG6 := g6.blk o5 BG (by decide)
        have hz16 : w1.heap.size ≤ w6.heap.size := by omega
        clear N1 o5 g6 B5 BG z0 z1 bb5
        obtain ⟨z0, z1⟩ := cells2 BG6
        have hY : ∃ Y, Y = 10 + gr * 140020 := ⟨_, rfl⟩
        obtain ⟨Y, hY⟩ := hY
        have HYY := Lib.hid hY
        clear d0 d1 hY
        go_wp2_with fail
        clear z0 z1 BG6
        go_loopw [4, 38] (fun v i wr => ∃ (c : Nat) (Bq : Option Addr) (m2 d2 : Nat), c ≤ D.length ∧ i = .int .i64 (c : Int) ∧ v = .slice Bq m2 d2
          ∧ Go.Hm.Own wr w1.heap.size 5 (.slice Bq m2 d2) (nums .u8 (PC ++ vp rN ++ vp G.length ++ (GP.take k).flatMap (groupL L) ++ vp gr ++ chunksL (L.take c) ((D.map (fun x : ChD => x.2.2)).take c)))
          ∧ m2 ≤ m + 10 + c * Y ∧ Blk wr w.heap.size 25 #[.slice Ac L.length cc, .int .i64 (rN : Int), .slice (some ad) G.length cg] ∧ Below w1.heap.size w1 wr ∧ w1.heap.size ≤ wr.heap.size) (fun _ i _ => D.length - (intOf i).toNat)
        case atStart => exact ⟨0, A6, n6, c6, Nat.zero_le _, rfl, rfl, by simpa [chunksL] using o6, by omega, B6, bb6, hz16⟩
        case round =>
          obtain ⟨c, Bq, m2, d2, hc, rfl, rfl, oq, hmc, Bx, bbq, hzq⟩ := hrel
          clear o6 hq6 B6 bb6 hz16 hz6
          have bq : New w wr := New.trans b01 bbq
          have hcY : c * Y ≤ 64 * Y := Nat.mul_le_mul_right _ (by omega)
          have hYv := HYY.out
          have hm2q : m2 ≤ 90000000000000 := by omega
          by_cases hlc : c < D.length
          · have hcL : c < L.length := by omega
            obtain ⟨ac, rfl, hbc, e0⟩ := (Reads.later HCHk.out bq).ch1 hlc
            obtain ⟨al, rfl, hbl, f0, f1, f2⟩ := (Reads.later HL.out bq).colT hcL
            have hxm := mem_getDF chZ hlc
            have hpx := HPGk.out _ hxm
            have hsx := HPPk.out _ hxm
            have hco := HG3.out c hcL
            have hsn := chunksL_snoc c L (D.map fun x : ChD => x.2.2) hcL (by rw [List.length_map]; exact hlc)
            rw [getD_mapX (fun x : ChD => x.2.2) D chZ [] hlc] at hco hsn
            generalize D.getD c chZ = x at *
            obtain ⟨Ax, cx, pl⟩ := x
            dsimp only at e0 hpx hsx hco hsn
            have hpn : ∀ p ∈ pl, PageNum p := fun p hpm => (hsx p hpm).num (hco.1 p hpm)
            have hpl := rowsL_pos hco.1
            have hcr := hco.2
            have hnp : pl.length ≤ gr := by omega
            have rP : Reads wr w1.heap.size 14 Ax pl.length (recs pageV pl) := (hpx.1.below bq).more hbase
            generalize L.getD c colZ = col at *
            obtain ⟨nm, t, nu⟩ := col
            dsimp only at f0 f1 f2 hsn
            have hnp2 : pl.length ≤ 65536 := by omega
            have hnn : m2 + 10 + pl.length * 140020 ≤ 100000000000000 := by clear hcY hmc; omega
            have PPG := Lib.hid (putPages_any (t := t) (cp := cx) oq hzq rP hpn hnn)
            have hlch : (chunkL t pl).length ≤ 10 + pl.length * 140020 := by
              have h1 := flat_pages (t := t) pl (fun p hpm => by
                have := hpn p hpm
                have h1 := this.1
                have h2 := this.2.1
                omega)
              have h2 := vp_len10 (n := pl.length) (by omega)
              unfold chunkL
              rw [List.length_append]
              omega
            have hchY : (chunkL t pl).length ≤ Y := by omega
            have HSN := Lib.hid hsn
            obtain ⟨x0, x1, x2⟩ := ccells Bx
            clear hsn hco hcr hpl hpn hpx hsx hxm hbc hbl rP hlch hYv
            go_wp2_with fail
            refine PPG.out.mono ?_
            rintro e w7 ⟨A7, n7, c7, rfl, o7, g7⟩
            have hq7 : n7 ≤ m2 + Y := by have h1 := o7.len; have h2 := oq.len; rw [nums_length, List.length_append] at h1; rw [nums_length] at h2; omega
            have bb7 := g7.below oq bbq (Nat.le_refl _) hzq
            have hz7 := g7.size
            have B7 := g7.blk oq Bx (by decide)
            have hsm : (c + 1) * Y = c * Y + Y := Nat.succ_mul c Y
            have o7 : Go.Hm.Own w7 w1.heap.size 5 (.slice A7 n7 c7) (nums .u8 (PC ++ vp rN ++ vp G.length ++ (GP.take k).flatMap (groupL L) ++ vp gr ++ chunksL (L.take (c + 1)) ((D.map (fun x : ChD => x.2.2)).take (c + 1)))) := by
              rw [HSN.out]
              simpa using o7
            have hq8 : n7 ≤ m + 10 + (c + 1) * Y := by omega
            have hz8 : w1.heap.size ≤ w7.heap.size := by omega
            clear PPG oq g7 Bx x0 x1 x2 hsm hq7 hmc
            go_wp2_with fail
            go_roundw
            case rel => exact ⟨c + 1, A7, n7, c7, by omega, by go_num, rfl, o7, hq8, B7, bb7, hz8⟩
            case measure => simp [intOf]; omega
          · obtain rfl : c = D.length := by omega
            have hfin : PC ++ vp rN ++ vp G.length ++ (GP.take k).flatMap (groupL L) ++ vp gr ++ chunksL (L.take D.length) ((D.map (fun x : ChD => x.2.2)).take D.length) = PC ++ vp rN ++ vp G.length ++ (GP.take (k + 1)).flatMap (groupL L) := by
              rw [HFM.out, HG2.out, List.take_length, show (D.map fun x : ChD => x.2.2).take L.length = D.map fun x : ChD => x.2.2 from List.take_of_length_le (by rw [List.length_map, HG2.out]; exact Nat.le_refl _)]
              simp
            rw [hfin] at oq
            have hml2 : m2 ≤ 9000 + 700 * (k + 1) + 8961280 * (R + gr) := by have := HML.out; omega
            clear hfin hmc
            go_wp2_with fail
            go_roundw
            case rel => exact ⟨k + 1, Bq, m2, d2, R + gr, by omega, by go_num, rfl, oq, HRR.out, hml2, Bx, bbq, hzq⟩
            case measure => simp [intOf]; omega
      · obtain rfl : k = G.length := by omega
        have HO2 := Lib.hid o
        clear o hR
        go_wp2_with fail
        go_ret2
        rw [HM.out]
        have := HO2.out
        rw [← HLen.out, List.take_length, HLen.out] at this
        exact ⟨_, _, _, rfl, this.base_le hbase, bw⟩
  · rw [if_neg hok] at hM
    rw [rightF_no hok] at RT
    have RT : Hid (∀ W, New w W → Calls Try.prog 11 #[.agg #[.slice Ac L.length cc, .int .i64 r, .slice Ag G.length cg]] W (NewPost (.bool false) W)) := RT
    have HM := Lib.hid hM
    clear hM hok
    go_enter Try.func9, Try.ntmps9
    go_wp2_with fail
    refine (RT.out _ b0).mono ?_
    rintro e w1 ⟨rfl, b1⟩
    go_wp2_with fail
    go_ret2
    rw [HM.out]
    exact ⟨rfl, New.trans b0 b1⟩

end Go.Proofs.Ytflaaahcoglflaa
/- The contract of footer.getPages. -/

namespace Go.Hm
open Go Go.RowKit
/-- Twelve cells are stored into a block, from a place on; no other is turned. -/
theorem wpList_store12G {P : Program} {ops : Array Oper} {rest : List Oper} {op : Oper} {a : Act} {w : World} {Q : Exit → Act → World → Prop} (hgd : op.guard = none) (ty : TypeId) (x y : Operand) (ho : op.op = .store ty x y)
    (g o : Nat) {v0 v1 v2 v3 v4 v5 v6 v7 v8 v9 v10 v11 : Value} (hx : a.eval x = .pointer (some ⟨g, o, none⟩)) (hy : a.eval y = .agg #[v0, v1, v2, v3, v4, v5, v6, v7, v8, v9, v10, v11]) {t : TypeId} {cs : Array Value} (hB : Blk w g t cs) (hsz : o + 12 ≤ cs.size)
    (hi : (P.info? ty).map (·.size) = some 12) (h1 : (#[v0, v1, v2, v3, v4, v5, v6, v7, v8, v9, v10, v11] : Array Value).all (·.oneCell') = true)
    (h : ∀ W, Blk W g t ((((((((((((cs.setIfInBounds (o) v0).setIfInBounds (o + 1) v1).setIfInBounds (o + 1 + 1) v2).setIfInBounds (o + 1 + 1 + 1) v3).setIfInBounds (o + 1 + 1 + 1 + 1) v4).setIfInBounds (o + 1 + 1 + 1 + 1 + 1) v5).setIfInBounds (o + 1 + 1 + 1 + 1 + 1 + 1) v6).setIfInBounds (o + 1 + 1 + 1 + 1 + 1 + 1 + 1) v7).setIfInBounds (o + 1 + 1 + 1 + 1 + 1 + 1 + 1 + 1) v8).setIfInBounds (o + 1 + 1 + 1 + 1 + 1 + 1 + 1 + 1 + 1) v9).setIfInBounds (o + 1 + 1 + 1 + 1 + 1 + 1 + 1 + 1 + 1 + 1) v10).setIfInBounds (o + 1 + 1 + 1 + 1 + 1 + 1 + 1 + 1 + 1 + 1 + 1) v11) → w.grownBy W (some g) → wpList P ops Q rest (a.put op.dst undef) W) : wpList P ops Q (op :: rest) a w := by
  have ht : w.there g o (#[v0, v1, v2, v3, v4, v5, v6, v7, v8, v9, v10, v11] : Array Value).size := by
    intro j hj
    have hj : j < 12 := hj
    refine ⟨?_, hB.frozen _⟩
    rw [hB.cell, Array.getElem?_eq_getElem (by omega)]
    rfl
  refine wpList_store_mid hgd ty x y ho g o #[v0, v1, v2, v3, v4, v5, v6, v7, v8, v9, v10, v11] hx hy ht hi h1 ?_
  exact h _ ((((((((((((hB.set_ (o) v0).set_ (o + 1) v1).set_ (o + 1 + 1) v2).set_ (o + 1 + 1 + 1) v3).set_ (o + 1 + 1 + 1 + 1) v4).set_ (o + 1 + 1 + 1 + 1 + 1) v5).set_ (o + 1 + 1 + 1 + 1 + 1 + 1) v6).set_ (o + 1 + 1 + 1 + 1 + 1 + 1 + 1) v7).set_ (o + 1 + 1 + 1 + 1 + 1 + 1 + 1 + 1) v8).set_ (o + 1 + 1 + 1 + 1 + 1 + 1 + 1 + 1 + 1) v9).set_ (o + 1 + 1 + 1 + 1 + 1 + 1 + 1 + 1 + 1 + 1) v10).set_ (o + 1 + 1 + 1 + 1 + 1 + 1 + 1 + 1 + 1 + 1 + 1) v11) ((((((((((((setCell_gr (w := w) (g := g) (i := o) (x := v0)).trans setCell_gr).trans setCell_gr).trans setCell_gr).trans setCell_gr).trans setCell_gr).trans setCell_gr).trans setCell_gr).trans setCell_gr).trans setCell_gr).trans setCell_gr).trans setCell_gr)
theorem below_zero {w w' : World} {row : Option Nat} (h : w.grownBy w' row) : Below 0 w w' := ⟨h.os, h.tape, h.output, h.size, fun k hk => by omega⟩
theorem grown_own {w w3 W : World} {g : Nat} {row : Option Nat} (G : w.grownBy w3 (some g)) (k : w3.grownBy W row) (hb : ∀ b, row = some b → w.heap.size ≤ b) : w.grownBy W (some g) :=
  ⟨k.os.trans G.os, k.tape.trans G.tape, k.output.trans G.output, Nat.le_trans G.size k.size, fun i hi hne => (k.block i (Nat.lt_of_lt_of_le hi G.size) (fun e => by have := hb i e.symm; omega)).trans (G.block i hi hne)⟩

end Go.Hm

namespace Go.Proofs.Ytflaaahcoglflaa
open Go.RowKit Go.Hm
theorem getA_sub {t : Int} {S : St} (hS : S.ok) : ((getA t S).2.getD []).length ≤ (S.getD []).length := by
  cases h : (getA t S).2 with
  | none => simp
  | some r =>
    have := (getA_some hS (show getA t S = ((getA t S).1, some r) by rw [← h])).1
    rw [this]
    simp
def PagesPost (l : List PageS) (g : Nat) (S : St) (w : World) (e : Ending) (w' : World) : Prop := ∃ A n c, e = .returned (.slice A n c) ∧ w'.ownsRow w.heap.size 53 14 (.slice A n c) n (recs pageV l) ∧ CurS w' g S ∧ w.grownBy w' (some g)
theorem elPg : ElT Try.prog 40 53 (.agg #[.int .i64 0, .int .i64 0, .int .i64 0, .bool false, .bool false, .int .i64 0, .string ⟨#[]⟩, .int .i64 0, .int .i64 0, .bool false, .int .i64 0, .string ⟨#[]⟩, .int .i64 0, .int .i64 0]) 14 128 := ⟨by kernel_rfl, by kernel_rfl, rfl, by omega⟩
theorem pagesR_step {t m : Int} {j : Nat} {b : List Nat} : pagesR t m (j + 1) (some b) = ((pageR t m (some b)).1 :: (pagesR t m j (pageR t m (some b)).2).1, (pagesR t m j (pageR t m (some b)).2).2) := rfl
set_option maxHeartbeats 4000000 in
set_option maxRecDepth 100000 in
theorem getPages_any {w : World} {g : Nat} {S : St} {t m : Int} (h : CurS w g S) (hl : (S.getD []).length ≤ 140737488351232) (hm : 0 ≤ m ∧ m ≤ 65536) :
    Calls Try.prog 50 #[.pointer (some ⟨g, 0, none⟩), .int .i64 t, .int .i64 m] w (PagesPost (chunkR t m S).1 g (chunkR t m S).2 w) := by
  obtain ⟨X, hX⟩ : ∃ X, X = chunkR t m S := ⟨_, rfl⟩
  rw [← hX]
  unfold chunkR at hX
  have hle := lenS_le (m := m) S hm.1 h.ok
  have hok := lenS_ok (m := m) h.ok
  have hsub := lenS_sub (m := m) h.ok
  have hgw := h.lt
  have L1 := Lib.hid (lenS_any (m := m) h (by omega) (by omega))
  generalize lenS m S = H at *
  obtain ⟨N, S1⟩ := H
  dsimp only at *
  have HX := Lib.hid (show X = ([] ++ (pagesR t m N S1).1, (pagesR t m N S1).2) from hX)
  clear hX h
  go_enter Try.func50, Try.ntmps50
  go_wp2_with fail
  refine L1.out.mono ?_
  rintro e w1 ⟨rfl, s1, g1⟩
  clear L1
  go_wp2_with fail
  go_loopw [7, 8] (fun v i wr => ∃ (j q c : Nat) (A : Option Addr) (pre : List PageS) (Sj : St), i = .int .i64 (j : Int) ∧ v = .slice A q c ∧ wr.ownsRow w.heap.size 53 14 (.slice A q c) q (recs pageV pre) ∧ q + j = N ∧ CurS wr g Sj ∧ (Sj.getD []).length ≤ 140737488351232
    ∧ w.grownBy wr (some g) ∧ Hid (X = (pre ++ (pagesR t m j Sj).1, (pagesR t m j Sj).2))) (fun _ i _ => (intOf i).toNat)
  case atStart => exact ⟨N, 0, 0, none, [], S1, rfl, rfl, row_nil, by omega, s1, by omega, g1, HX⟩
  case round =>
    obtain ⟨j, q, c, A, pre, Sj, rfl, rfl, o, hqj, s, hsl, G, HXj⟩ := hrel
    clear HX s1 g1 hok hsub
    have BD := Lib.hid (badS s)
    have hgr := G.size
    by_cases hj : 0 < j
    · cases Sj with
      | none =>
        simp only [Option.isNone_none] at BD
        have hX := HXj.out
        rw [pagesR_none, List.append_nil] at hX
        have HX := Lib.hid hX
        clear hX HXj
        go_wp2_with fail
        refine BD.out.mono ?_
        rintro e w2 ⟨rfl, rfl⟩
        go_wp2_with fail
        go_ret
        rw [HX.out]
        exact ⟨_, _, _, rfl, o, s, G⟩
      | some b =>
        simp only [Option.isNone_some] at BD
        obtain ⟨j, rfl⟩ : ∃ k, j = k + 1 := ⟨j - 1, by omega⟩
        have hX := HXj.out
        rw [pagesR_step] at hX
        have hokb := s.ok
        have hokp := pageR_ok (t := t) (m := m) hokb
        unfold pageR at hX hokp
        have b1 := lenS_sub (m := 268435456) hokb
        have b2 := lenS_ok (m := 268435456) hokb
        have b3 := lenS_le (m := 268435456) (some b) (by omega) hokb
        have hap := fun b e => (World.ownsRow.lt o b e).2
        have ha : New wr (wr.alloc (.cells #[.int .i64 0, .int .i64 0, .int .i64 0, .bool false, .bool false, .int .i64 0, .string ⟨#[]⟩, .int .i64 0, .int .i64 0, .bool false, .int .i64 0, .string ⟨#[]⟩, .int .i64 0, .int .i64 0] 53)) := (Below.refl _ _).alloc (Nat.le_refl _) _
        have BP := Blk.new wr 53 #[.int .i64 0, .int .i64 0, .int .i64 0, .bool false, .bool false, .int .i64 0, .string ⟨#[]⟩, .int .i64 0, .int .i64 0, .bool false, .int .i64 0, .string ⟨#[]⟩, .int .i64 0, .int .i64 0]
        have s2 := s.below ha
        have o2 := row_later o ha
        have G2 := grown_own G (grown_new_any (row := none) ha) (by simp)
        have hgl := s.lt
        have L2 := Lib.hid (lenS_any (m := 268435456) s2 (by omega) (by omega))
        generalize lenS 268435456 (some b) = H2 at *
        obtain ⟨sz, S2⟩ := H2
        dsimp only at hX hokp b1 b2 b3 L2
        have b4 := lenS_sub (m := m) b2
        have b5 := lenS_ok (m := m) b2
        have b6 := lenS_le (m := m) S2 hm.1 b2
        clear HXj o G s
        go_wp2_with fail
        refine BD.out.mono ?_
        rintro e w2 ⟨rfl, rfl⟩
        go_wp2_with fail
        refine L2.out.mono ?_
        rintro e w3 ⟨rfl, s3, g3⟩
        have hz3 := g3.size
        simp only [World.size_alloc] at hz3
        have BP3 := BP.grown g3 (by intro e; injection e with e; omega)
        have o3 := o2.kept g3 (.inr (fun e => by have := (World.ownsRow.lt o2 _ e).1; omega))
        have G3 := G2.trans g3
        obtain ⟨x0, x1, x2, x3, x4, x5, x6, x7, x8, x9, x10, x11, x12, x13⟩ := cells14 BP3
        have f0 := BP3.frozen 0
        have gS : w3.grownBy (w3.setCell ⟨wr.heap.size, 0, none⟩ (.int .i64 (sz : Int))) (some wr.heap.size) := setCell_gr
        have hzS : w3.heap.size ≤ (w3.setCell ⟨wr.heap.size, 0, none⟩ (.int .i64 (sz : Int))).heap.size := gS.size
        have s4 := s3.keep gS BP3 (by omega) (by decide)
        have o4 := o3.kept gS (.inr (fun e => by have := hap _ e; omega))
        have BP4 := BP3.set_ 0 (.int .i64 (sz : Int))
        simp only [List.setIfInBounds_toArray, List.set_cons_zero] at BP4
        have G4 := grown_then G3 gS (by omega)
        have L4 := Lib.hid (lenS_any (m := m) s4 (by omega) (by omega))
        generalize lenS m S2 = H4 at *
        obtain ⟨rw, S4⟩ := H4
        dsimp only at hX hokp b4 b5 b6 L4
        clear L2 o2 G2 g3 BP s2 s3 o3 G3 BP3 gS BD
        go_wp2_with fail
        refine L4.out.mono ?_
        rintro e w5 ⟨rfl, s5, g5⟩
        have hz5 := g5.size
        have BP5 := BP4.grown g5 (by intro e; injection e with e; omega)
        have o5 := o4.kept g5 (.inr (fun e => by have := (World.ownsRow.lt o4 _ e).1; omega))
        have G5 := G4.trans g5
        clear x0 x1 x2 x3 x4 x5 x6 x7 x8 x9 x10 x11 x12 x13 f0 L4 o4 G4 g5 BP4 s4
        obtain ⟨x0, x1, x2, x3, x4, x5, x6, x7, x8, x9, x10, x11, x12, x13⟩ := cells14 BP5
        have f1 := BP5.frozen 1
        have gS : w5.grownBy (w5.setCell ⟨wr.heap.size, 1, none⟩ (.int .i64 (rw : Int))) (some wr.heap.size) := setCell_gr
        have hzS5 : w5.heap.size ≤ (w5.setCell ⟨wr.heap.size, 1, none⟩ (.int .i64 (rw : Int))).heap.size := gS.size
        have s6 := s5.keep gS BP5 (by omega) (by decide)
        have o6 := o5.kept gS (.inr (fun e => by have := hap _ e; omega))
        have BP6 := BP5.set_ 1 (.int .i64 (rw : Int))
        simp only [List.setIfInBounds_toArray, List.set_cons_zero, List.set_cons_succ] at BP6
        have G6 := grown_then G5 gS (by omega)
        have L6 := Lib.hid (stget_any (t := t) s6 (by simp only [Option.getD_some] at hsl b1; omega))
        have hsA := getA_sub (t := t) b5
        generalize getA t S4 = H6 at *
        obtain ⟨⟨nn, bb, ⟨p1, p2, p3, p4, p5⟩, ⟨q1, q2, q3, q4, q5⟩⟩, S6⟩ := H6
        dsimp only at hX hokp L6 hsA
        have HX := Lib.hid hX
        clear s5 o5 gS BP5 G5 hX
        go_wp2_with fail
        refine L6.out.mono ?_
        rintro e w7 ⟨rfl, s7, g7⟩
        rw [show statA (nn, bb, (p1, p2, p3, p4, p5), (q1, q2, q3, q4, q5)) = .agg #[.int .i64 nn, .bool bb, .bool p1, .int .i64 p2, .string (bstr p3), .int .i64 p4, .int .i64 p5, .bool q1, .int .i64 q2, .string (bstr q3), .int .i64 q4, .int .i64 q5] from rfl]
        have hz7 := g7.size
        have BP7 := BP6.grown g7 (by intro e; injection e with e; omega)
        have o7 := o6.kept g7 (.inr (fun e => by have := (World.ownsRow.lt o6 _ e).1; omega))
        have G7 := G6.trans g7
        clear x0 x1 x2 x3 x4 x5 x6 x7 x8 x9 x10 x11 x12 x13 f1 L6 o6 G6 g7 BP6 s6
        go_wp2_with (first
          | (refine wpList_store12G rfl 51 (.tmp 32) (.tmp 31) rfl wr.heap.size 2 rfl rfl BP7 (by simp) (by kernel_rfl) (by simp [Value.oneCell']) ?_
             intro w8 BP8 g8
             simp only [List.setIfInBounds_toArray, List.set_cons_zero, List.set_cons_succ] at BP8
             have s8 := s7.keep g8 BP7 (by omega) (by decide)
             have o8 := o7.kept g8 (.inr (fun e => by have := hap _ e; omega))
             have hz8 := g8.size
             have G8 := grown_then G7 g8 (by omega)
             obtain ⟨x0, x1, x2, x3, x4, x5, x6, x7, x8, x9, x10, x11, x12, x13⟩ := cells14 BP8
             clear BP7 s7 o7 G7 g8)
          | (refine wpList_pushR elPg rfl (.tmp 33) (.tmp 35) rfl (W := w) (B := 0) (base := w.heap.size) (n := q) o8 rfl rfl (below_zero G8) (Nat.zero_le _) (by omega) rfl (by simp [Value.oneCell']) (by omega) (by simp only [maxLen]; omega) ?_
             intro A9 c9 w9 hc9 _ o9 g9 _ hz9 _
             have s9 := s8.pushRow o8 g9 (by decide) (by decide)
             have G9 := grown_own G8 g9 (fun b e => (World.ownsRow.lt o8 b e).1)
             have o9 : w9.ownsRow w.heap.size 53 14 (.slice A9 (q + 1) c9) (q + 1) (recs pageV (pre ++ [((sz : Int), (rw : Int), (nn, bb, (p1, p2, p3, p4, p5), (q1, q2, q3, q4, q5)))])) := by
               rw [recs_append]
               exact o9
             have HX2 : Hid (X = ((pre ++ [((sz : Int), (rw : Int), (nn, bb, (p1, p2, p3, p4, p5), (q1, q2, q3, q4, q5)))]) ++ (pagesR t m j S6).1, (pagesR t m j S6).2)) := Lib.hid (by rw [HX.out]; simp)
             clear o8 s8 G8 g9 HX BP8))
        go_roundw
        case rel => exact ⟨j, q + 1, c9, A9, _, S6, by go_num, rfl, o9, by omega, s9, by simp only [Option.getD_some] at hsl b1; omega, G9, HX2⟩
        case measure => simp [intOf]
    · obtain rfl : j = 0 := by omega
      have hX := HXj.out
      have e0 : pagesR t m 0 Sj = ([], Sj) := rfl
      rw [e0, List.append_nil] at hX
      have HX := Lib.hid hX
      clear hX HXj e0
      go_wp2_with fail
      go_ret
      rw [HX.out]
      exact ⟨_, _, _, rfl, o, s, G⟩

end Go.Proofs.Ytflaaahcoglflaa
/- append of records, at one operation. No program is named here. -/

namespace Go.Hm
open Go Go.RowKit

section
variable {P : Program} {o : Oper} {a : Act} {Q : Exit → Act → World → Prop} {K : Act → World → Prop}
/-- append(s, xs...) of records onto a row of the call's own. -/
theorem wp_appR {w : World} {t e : TypeId} {z : Value} {sz bytes : Nat} (E : ElT P t e z sz bytes) (s x : Operand)
    (ho : o.op = .call { callee := .builtin .append, args := #[s, x], argTypes := #[t, t] })
    {W : World} {B base n m c : Nat} {v : Value} {xs news : List Value} {A : Option Addr} (hown : w.ownsRow base e sz v n xs) (hr : Reads w w.heap.size sz A m news) (hs : a.eval s = v) (hx : a.eval x = .slice A m c)
    (hb : Below B W w) (hbB : B ≤ base) (hbase : base ≤ w.heap.size) (h1 : ∀ u ∈ news, u.oneCell' = true)
    (hn : (n + m) * bytes ≤ 140737488355328) (hm : n + m ≤ maxLen)
    (h : ∀ A' c' w', n + m ≤ c' → c' ≤ maxLen → w'.ownsRow base e sz (.slice A' (n + m) c') (n + m) (xs ++ news) → w.grownBy w' v.ownBlock → Below B W w' → K (a.put o.dst (.slice A' (n + m) c')) w') :
    Oper.wp P o a w K Q := by
  obtain ⟨i, hi, hz0, hz1, hz2⟩ := info_parts E.hi
  rcases A with _ | ad
  · have hm0 : m = 0 := by
      rcases Nat.eq_zero_or_pos m with h0 | h0
      · exact h0
      · obtain ⟨ad, h', _⟩ := hr.2 h0
        cases h'
    subst hm0
    have hn0 : news = [] := List.eq_nil_of_length_eq_zero (by have := hr.1; omega)
    subst hn0
    have hrun : ∀ ty, (Builtin.append_ #[t, t] ty #[v, .slice none 0 c]).run P w = .ok v w := by
      intro ty
      rcases hown.2 with ⟨rfl, hx0⟩ | ⟨g, cap, cur, rfl, _, _, hnc, _⟩
      · simp [Builtin.append_, run_underlying E.ht, sizeOf, typeInfo, hi, Builtin.lenOf, Builtin.firstCells]
      · simp [Builtin.append_, run_underlying E.ht, sizeOf, typeInfo, hi, Builtin.lenOf, Builtin.firstCells, hnc, storeCells]
    obtain ⟨A', c', rfl, hc1, hc2⟩ := row_slice hown
    unfold Oper.wp execOp
    simp only [ho, resolve, invoke, builtin, Sem.run_bind, Sem.run_pure, Result.andThen_ok, List.map_toArray, List.map_cons, List.map_nil, hs, hx, hrun]
    exact h A' c' w hc1 hc2 (by simpa using hown) (World.grownBy.refl w _) hb
  · have hl : news.length = m * sz := hr.1
    have hcells : ∀ j u, news[j]? = some u → w.cell? (ad.add j) = some u := by
      intro j u hu
      rcases Nat.eq_zero_or_pos m with h0 | h0
      · subst h0
        have hn : news = [] := List.eq_nil_of_length_eq_zero (by omega)
        subst hn
        simp at hu
      · obtain ⟨ad', h', _, hc⟩ := hr.2 h0
        injection h' with h'
        subst h'
        exact hc j u hu
    obtain ⟨v', w', hr', hown', hg, _, _⟩ := run_append_own_at (P := P) w base t o.type e i z sz bytes E.ht hi hz0 hz1 hz2 E.hz E.hs v n xs hown ad m c news hl hcells h1 hm hn hbase
    obtain ⟨A', c', rfl, hc1, hc2⟩ := row_slice hown'
    unfold Oper.wp execOp
    simp only [ho, resolve, invoke, builtin, Sem.run_bind, Sem.run_pure, Result.andThen_ok, List.map_toArray, List.map_cons, List.map_nil, hs, hx, hr']
    exact h A' c' w' hc1 hc2 hown' hg (hb.grown hg (Nat.le_trans hbB hbase) (fun k hk => by have := (World.ownsRow.lt hown k hk).1; omega))
end
/-- The blocks that a row may turn. -/
def rowT (v : Value) : List Nat := match v.ownBlock with | some g => [g] | none => []
theorem Turns.row {w w' : World} {v : Value} (h : w.grownBy w' v.ownBlock) : Turns (rowT v) w w' := by
  unfold rowT
  cases e : v.ownBlock with
  | none => rw [e] at h; exact Turns.of_none h
  | some g => rw [e] at h; exact Turns.of_far h (by simp)
theorem rowT_ge {w : World} {base sz n : Nat} {e : TypeId} {v : Value} {xs : List Value} (h : w.ownsRow base e sz v n xs) : ∀ x ∈ rowT v, base ≤ x ∧ x < w.heap.size := by
  intro x hx
  unfold rowT at hx
  cases e : v.ownBlock with
  | none => rw [e] at hx; simp at hx
  | some g => rw [e] at hx; simp at hx; subst hx; exact World.ownsRow.lt h _ e
theorem rowT_ne {w : World} {base sz n : Nat} {e t : TypeId} {v : Value} {xs : List Value} {g : Nat} {cs : Array Value} (h : w.ownsRow base e sz v n xs) (hg : Blk w g t cs) (hne : e ≠ t) : g ∉ rowT v := by
  intro hx
  unfold rowT at hx
  cases e' : v.ownBlock with
  | none => rw [e'] at hx; simp at hx
  | some g' => rw [e'] at hx; simp at hx; subst hx; exact row_blk_ne h hg hne e'
theorem row_touch {w w' : World} {base sz n : Nat} {e : TypeId} {v : Value} {xs : List Value} {T : List Nat} (h : w.ownsRow base e sz v n xs) (k : Turns T w w') (hT : ∀ x ∈ T, v.ownBlock ≠ some x) : w'.ownsRow base e sz v n xs := by
  refine ⟨h.1, ?_⟩
  rcases h.2 with hn | ⟨g, cap, cur, rfl, hbg, hgg, rest⟩
  · exact .inl hn
  · refine .inr ⟨g, cap, cur, rfl, hbg, ?_, rest⟩
    rw [k.block g (Array.getElem?_eq_some_iff.1 hgg).1 (fun hm => hT g hm rfl)]
    exact hgg
/-- A row of another element type is not the one that is turned. -/
theorem row_row {w : World} {base base2 sz sz2 n n2 : Nat} {e e2 : TypeId} {v v2 : Value} {xs xs2 : List Value} (h : w.ownsRow base e sz v n xs) (h2 : w.ownsRow base2 e2 sz2 v2 n2 xs2) (hne : e ≠ e2) : ∀ x ∈ rowT v2, v.ownBlock ≠ some x := by
  intro x hx
  unfold rowT at hx
  cases e' : v2.ownBlock with
  | none => rw [e'] at hx; simp at hx
  | some g =>
    rw [e'] at hx
    simp at hx
    subst hx
    rcases h2.2 with ⟨rfl, _⟩ | ⟨g', cap, cur, rfl, _, hh, _⟩
    · simp [Value.ownBlock] at e'
    · have : g' = x := by simpa [Value.ownBlock] using e'
      subst this
      exact row_blk_ne h hh hne

end Go.Hm
/- The contract of footer.getGroup. -/

namespace Go.Hm
open Go Go.RowKit
theorem rows_apart {w : World} {base base2 sz sz2 n n2 : Nat} {e e2 : TypeId} {v v2 : Value} {xs xs2 : List Value} (h : w.ownsRow base e sz v n xs) (h2 : w.ownsRow base2 e2 sz2 v2 n2 xs2) (hne : e ≠ e2) : v.ownBlock = none ∨ v.ownBlock ≠ v2.ownBlock := by
  rcases hu : v.ownBlock with _ | k
  · exact .inl rfl
  · refine .inr fun he => row_row h h2 hne k ?_ hu
    unfold rowT
    rw [← he]
    simp
theorem recs_chV_snoc (D : List ChD) (x : ChD) : recs chV (D ++ [x]) = recs chV D ++ [.slice x.1 x.2.2.length x.2.1] := by
  rw [recs_append]
  rfl

end Go.Hm

namespace Go.Proofs.Ytflaaahcoglflaa
open Go.RowKit Go.Hm
theorem chunksR_snoc {m : Int} : ∀ (cs : List ColS) (c : ColS) (S : St), chunksR m (cs ++ [c]) S = ((chunksR m cs S).1 ++ [(chunkR c.2.1 m (chunksR m cs S).2).1], (chunkR c.2.1 m (chunksR m cs S).2).2)
  | [], _, _ => rfl
  | x :: cs, c, S => by
    have := chunksR_snoc (m := m) cs c (chunkR x.2.1 m S).2
    simp only [List.cons_append, chunksR, this]
theorem pagesR_sub {t m : Int} : ∀ (k : Nat) {S : St}, S.ok → ((pagesR t m k S).2.getD []).length ≤ (S.getD []).length
  | 0, _, _ => Nat.le_refl _
  | _ + 1, none, _ => Nat.le_refl _
  | k + 1, some b, h => by
    have h1 := pagesR_sub (t := t) (m := m) k (pageR_ok (t := t) (m := m) h)
    have h2 : ((pageR t m (some b)).2.getD []).length ≤ ((some b : St).getD []).length := by
      unfold pageR
      have a := lenS_sub (m := 268435456) h
      have b' := lenS_sub (m := m) (lenS_ok (m := 268435456) h)
      have c := getA_sub (t := t) (lenS_ok (m := m) (lenS_ok (m := 268435456) h))
      dsimp only
      omega
    simp only [pagesR]
    omega
theorem chunkR_sub {t m : Int} {S : St} (h : S.ok) : ((chunkR t m S).2.getD []).length ≤ (S.getD []).length := by
  have a := lenS_sub (m := m) h
  have b := pagesR_sub (t := t) (m := m) (lenS m S).1 (lenS_ok (m := m) h)
  unfold chunkR
  omega
/-- Chunks that are the call's own. -/
structure ChOwn (w : World) (B : Nat) (A : Option Addr) (d : Nat) (D : List ChD) : Prop where
  row : w.ownsRow B 40 1 (.slice A D.length d) D.length (recs chV D)
  pages : ∀ x ∈ D, w.ownsRow B 53 14 (.slice x.1 x.2.2.length x.2.1) x.2.2.length (recs pageV x.2.2)
theorem ChOwn.later {w w' : World} {B : Nat} {A : Option Addr} {d : Nat} {D : List ChD} (h : ChOwn w B A d D) (b : New w w') : ChOwn w' B A d D := ⟨row_later h.row b, fun x hx => row_later (h.pages x hx) b⟩
theorem ChOwn.far {w w' : World} {B g : Nat} {A : Option Addr} {d : Nat} {D : List ChD} (h : ChOwn w B A d D) (hg : w.grownBy w' (some g)) (hne : g < B) : ChOwn w' B A d D :=
  ⟨h.row.kept hg (.inr (fun e => by have := (World.ownsRow.lt h.row _ e).1; omega)), fun x hx => (h.pages x hx).kept hg (.inr (fun e => by have := (World.ownsRow.lt (h.pages x hx) _ e).1; omega))⟩
theorem ChOwn.blk {w w' : World} {B g : Nat} {A : Option Addr} {d : Nat} {D : List ChD} {t : TypeId} {cs : Array Value} (h : ChOwn w B A d D) (hB : Blk w g t cs) (hg : w.grownBy w' (some g)) (h1 : 40 ≠ t) (h2 : 53 ≠ t) : ChOwn w' B A d D :=
  ⟨h.row.kept hg (.inr (row_blk_ne h.row hB h1)), fun x hx => (h.pages x hx).kept hg (.inr (row_blk_ne (h.pages x hx) hB h2))⟩
def GroupPost (G : GroupS) (g : Nat) (S : St) (w : World) (e : Ending) (w' : World) : Prop :=
  ∃ A d D, e = .returned (.agg #[.int .i64 G.1, .slice A D.length d]) ∧ D.map (·.2.2) = G.2 ∧ ChOwn w' w.heap.size A d D ∧ CurS w' g S ∧ w.grownBy w' (some g)
theorem elCh : ElT Try.prog 41 40 (.slice none 0 0) 1 24 := ⟨by kernel_rfl, by kernel_rfl, rfl, by omega⟩
set_option maxHeartbeats 4000000 in
set_option maxRecDepth 100000 in
theorem getGroup_any {w : World} {g base cc : Nat} {S : St} {m : Int} {Ac : Option Addr} {L : List ColS} (h : CurS w g S) (hl : (S.getD []).length ≤ 140737488351232) (hm : 0 ≤ m ∧ m ≤ 65536)
    (hL : w.ownsRow base 55 3 (.slice Ac L.length cc) L.length (recs colV L)) (hlen : L.length ≤ 100000) :
    Calls Try.prog 35 #[.pointer (some ⟨g, 0, none⟩), .slice Ac L.length cc, .int .i64 m] w (GroupPost (groupR (fun r => r) L m S).1 g (groupR (fun r => r) L m S).2 w) := by
  obtain ⟨X, hX⟩ : ∃ X, X = groupR (fun r => r) L m S := ⟨_, rfl⟩
  rw [← hX]
  unfold groupR at hX
  have hgw := h.lt
  have hle := lenS_le (m := m) S hm.1 h.ok
  have hok := lenS_ok (m := m) h.ok
  have hsub := lenS_sub (m := m) h.ok
  obtain ⟨cb, hcb⟩ := h.blk
  have hLne := row_blk_ne hL hcb (by decide)
  have HLK := Lib.hid (fun (W : World) (G : w.grownBy W (some g)) => hL.kept G (.inr hLne))
  have ha : New w (w.alloc (.cells #[.int .i64 0, .slice none 0 0] 43)) := (Below.refl _ _).alloc (Nat.le_refl _) _
  have BZ := Blk.new w 43 #[.int .i64 0, .slice none 0 0]
  have s0 := h.below ha
  have L1 := Lib.hid (lenS_any (m := m) s0 (by omega) (by omega))
  generalize lenS m S = H at *
  obtain ⟨N, S1⟩ := H
  dsimp only at *
  have HX := Lib.hid hX
  clear hX h hL hcb hLne s0
  go_enter Try.func35, Try.ntmps35
  go_wp2_with fail
  refine L1.out.mono ?_
  rintro e w1 ⟨rfl, s1, g1⟩
  have hz1 := g1.size
  simp only [World.size_alloc] at hz1
  have BZ1 := BZ.grown g1 (by intro e; injection e with e; omega)
  have ha2 : New w1 (w1.alloc (.cells #[.int .i64 (N : Int), .slice none 0 0] 43)) := (Below.refl _ _).alloc (Nat.le_refl _) _
  have BQ := Blk.new w1 43 #[.int .i64 (N : Int), .slice none 0 0]
  have BZ2 := BZ1.below ha2 BZ1.lt
  have s2 := s1.below ha2
  have G2 := grown_own ((grown_new_any (row := some g) ha).trans g1) (grown_new_any (row := none) ha2) (by simp)
  have hgz : w.heap.size < w1.heap.size := by omega
  clear L1 BZ BZ1 s1 g1 ha ha2
  go_wp2_with fail
  generalize w1.heap.size = gq at *
  go_loopw [16] (fun i wr => ∃ (k d : Nat) (A : Option Addr) (D : List ChD), k ≤ L.length ∧ i = .int .i64 (k : Int) ∧ Blk wr gq 43 #[.int .i64 (N : Int), .slice A D.length d] ∧ Blk wr w.heap.size 43 #[.int .i64 0, .slice none 0 0]
    ∧ ChOwn wr w.heap.size A d D ∧ Hid (D.map (·.2.2) = (chunksR (N : Int) (L.take k) S1).1) ∧ Hid (D.length = k) ∧ CurS wr g (chunksR (N : Int) (L.take k) S1).2 ∧ ((chunksR (N : Int) (L.take k) S1).2.getD []).length ≤ 140737488351232 ∧ w.grownBy wr (some g)) (fun i _ => L.length - (intOf i).toNat)
  case atStart => exact ⟨0, 0, none, [], Nat.zero_le _, rfl, BQ, BZ2, ⟨row_nil, by simp⟩, Lib.hid rfl, Lib.hid rfl, s2, by simp only [List.take_zero, chunksR]; omega, G2⟩
  case round =>
    obtain ⟨k, d, A, D, hk, rfl, B, BZ, CO, HD, hDk, s, hsl, G⟩ := hrel
    clear BQ BZ2 s2 G2 hok hsub
    have hDl : D.length ≤ 100000 := by have := hDk.out; omega
    have hgr := G.size
    by_cases hlt : k < L.length
    · have oL := HLK.out wr G
      obtain ⟨al, rfl, hbl, f0, f1, f2⟩ := (Reads.of_own oL).colT hlt
      have htk := take_snoc L k colZ hlt
      have hsn := chunksR_snoc (m := (N : Int)) (L.take k) (L.getD k colZ) S1
      rw [← htk] at hsn
      have hok := s.ok
      generalize (chunksR (N : Int) (L.take k) S1).2 = Sk at *
      have hcs := chunkR_sub (t := (L.getD k colZ).2.1) (m := (N : Int)) hok
      have GPg := fun (W : World) (hs : CurS W g Sk) => getPages_any (t := (L.getD k colZ).2.1) (m := (N : Int)) hs hsl (by omega)
      rw [← HD.out] at hsn
      generalize L.getD k colZ = col at *
      obtain ⟨nm, t, nu⟩ := col
      dsimp only at f0 f1 f2 hsn hcs GPg
      generalize chunkR t (N : Int) Sk = H at *
      obtain ⟨pl, S5⟩ := H
      dsimp only at hsn hcs GPg
      have ha : New wr (wr.alloc (.cells #[.string (bstr nm), .int .i64 t, .bool nu] 55)) := (Below.refl _ _).alloc (Nat.le_refl _) _
      have BC := Blk.new wr 55 #[.string (bstr nm), .int .i64 t, .bool nu]
      have B1 := B.below ha B.lt
      have BZ1 := BZ.below ha BZ.lt
      have CO1 := CO.later ha
      have s1 := s.below ha
      have G1 := grown_own G (grown_new_any (row := none) ha) (by simp)
      have HSN := Lib.hid hsn
      have hgl := s.lt
      have hap := fun b e => (World.ownsRow.lt CO.row b e).2
      clear B BZ CO s G hbl htk hsn HD oL hok ha
      have hza : wr.heap.size < (wr.alloc (.cells #[.string (bstr nm), .int .i64 t, .bool nu] 55)).heap.size := by simp
      obtain ⟨y0, y1, y2⟩ := ccells BC
      obtain ⟨z0, z1⟩ := cells2 B1
      have hne1 : gq ∉ (g :: rowT (.slice A D.length d)) := by
        intro hm
        rcases List.mem_cons.1 hm with e | e
        · omega
        · exact rowT_ne CO1.row B1 (by decide) e
      have hne2 : wr.heap.size ∉ (g :: rowT (.slice A D.length d)) := by
        intro hm
        rcases List.mem_cons.1 hm with e | e
        · omega
        · exact rowT_ne CO1.row BC (by decide) e
      go_wp2_with fail
      refine wp_region_upT (Turns (g :: rowT (.slice A D.length d))) 11 [(1, 0), (0, 1), (1, 2), (1, 3), (0, 4), (1, 5), (0, 6), (2, 7), (2, 8), (2, 9), (1, 10), (2, 11)]
        (Turns.refl _) Turns.trans (by kernel_rfl) (by kernel_rfl) (by kernel_rfl) (by kernel_rfl) ?_
      have F := Lib.hid (fun (W : World) (hW : Turns (g :: rowT (.slice A D.length d)) (wr.alloc (.cells #[.string (bstr nm), .int .i64 t, .bool nu] 55)).drew W) => And.intro (B1.drew.touch hW hne1) (BC.drew.touch hW hne2))
      have s2 := s1.below (New.drew _)
      have CO2 := CO1.later (New.drew _)
      have B2 := B1.drew
      have BZ2 := BZ1.drew
      have G2 := grown_own G1 (grown_new_any (row := none) (New.drew _)) (by simp)
      have GP2 := Lib.hid (GPg _ s2)
      clear y0 y1 y2 z0 z1 B1 BZ1 CO1 s1 G1 GPg
      obtain ⟨wa, hwa⟩ : ∃ wa, wa = (wr.alloc (.cells #[.string (bstr nm), .int .i64 t, .bool nu] 55)).drew := ⟨_, rfl⟩
      have hza2 : wr.heap.size < wa.heap.size := by rw [hwa]; exact hza
      rw [← hwa] at F s2 CO2 B2 BZ2 G2 GP2 ⊢
      clear hwa BC hza
      repeat (first
        | (refine upT_quiet rfl rfl (v := ?_) (fun W hW => ?_) ?_; rotate_left; (obtain ⟨F1, F2⟩ := F.out W hW; obtain ⟨y0, y1, y2⟩ := ccells F2; obtain ⟨z0, z1⟩ := cells2 F1; clear F1 F2; go_simp <;> with_reducible rfl); simp only [Act.put, List.setIfInBounds_toArray, List.set_cons_zero, List.set_cons_succ])
        | (refine upT_pure rfl rfl (v := ?_) (fun W => ?_) ?_; rotate_left; (go_simp <;> with_reducible rfl); simp only [Act.put, List.setIfInBounds_toArray, List.set_cons_zero, List.set_cons_succ]))
      refine upT_call rfl rfl (fun K hK => ?_)
      go_simp
      (with_reducible refine GP2.out.mono ?_)
      rintro e w8 ⟨A8, n8, c8, rfl, o8, s8, g8⟩
      refine hK _ _ (.inr (.inr (Turns.of_far g8 (by simp)))) ?_
      clear hK
      obtain rfl : n8 = pl.length := (Reads.of_own o8).lenPage
      have hz8 := g8.size
      have CO8 := CO2.far g8 hgw
      have B8 := B2.grown g8 (by intro e; injection e with e; omega)
      have BZ8 := BZ2.grown g8 (by intro e; injection e with e; omega)
      have G8 := G2.trans g8
      have o8 := row_base o8 (show w.heap.size ≤ wa.heap.size by omega)
      clear F GP2 CO2 B2 BZ2 G2 s2 g8
      refine upT_call rfl rfl (fun K hK => ?_)
      go_simp
      refine hK _ _ (.inr (.inr (Turns.of_new ((Below.refl _ _).alloc (Nat.le_refl _) _)))) ?_
      clear hK
      have RL := Reads.litR w8 40 #[.slice A8 pl.length c8] 1 1 [.slice A8 pl.length c8] rfl rfl
      have hb8 : New w8 (w8.alloc (.cells #[.slice A8 pl.length c8] 40)) := (Below.refl _ _).alloc (Nat.le_refl _) _
      have CO9 := CO8.later hb8
      have o9 := row_later o8 hb8
      have s9 := s8.below hb8
      have B9 := B8.below hb8 B8.lt
      have BZ9 := BZ8.below hb8 BZ8.lt
      have G9 := grown_own G8 (grown_new_any (row := none) hb8) (by simp)
      have hz9 := hb8.size
      clear CO8 o8 s8 B8 BZ8 G8 hb8
      obtain ⟨wb, hwb⟩ : ∃ wb, wb = w8.alloc (.cells #[.slice A8 pl.length c8] 40) := ⟨_, rfl⟩
      rw [← hwb] at RL CO9 o9 s9 B9 BZ9 G9 hz9 ⊢
      have hbk : (Value.ownBlock (.slice (some ⟨w8.heap.size, 0, none⟩) 1 1)) = some w8.heap.size := rfl
      clear hwb hbk
      refine upT_call rfl rfl (fun K hK => ?_)
      refine wp_appR elCh (.tmp 21) (.tmp 28) rfl (W := w) (B := 0) (base := w.heap.size) CO9.row RL rfl rfl (below_zero G9) (Nat.zero_le _) (by omega) (by simp [Value.oneCell']) (by omega) (by simp only [maxLen]; omega) ?_
      intro A10 c10 w10 _ _ o10 g10 _
      refine hK _ _ (.inr (.inr ((Turns.row g10).more (fun x hx => List.mem_cons_of_mem _ hx)))) ?_
      clear hK
      have B10 := B9.touch (Turns.row g10) (rowT_ne CO9.row B9 (by decide))
      have BZ10 := BZ9.touch (Turns.row g10) (rowT_ne CO9.row BZ9 (by decide))
      have s10 := s9.pushRow CO9.row g10 (by decide) (by decide)
      have G10 := grown_own G9 g10 (fun b e => (World.ownsRow.lt CO9.row b e).1)
      have P10 : ∀ x ∈ D, w10.ownsRow w.heap.size 53 14 (.slice x.1 x.2.2.length x.2.1) x.2.2.length (recs pageV x.2.2) := fun x hx => (CO9.pages x hx).kept g10 (rows_apart (CO9.pages x hx) CO9.row (by decide))
      have o11 := o9.kept g10 (rows_apart o9 CO9.row (by decide))
      have x0 := B10.cell 1
      have y0 := B10.frozen 1
      simp at x0
      have gS : w10.grownBy (w10.setCell ⟨gq, 1, none⟩ (.slice A10 (D.length + 1) c10)) (some gq) := setCell_gr
      clear CO9 o9 s9 B9 BZ9 G9 g10 RL
      refine upT_pure rfl rfl (v := ?_) (fun W => ?_) ?_
      rotate_left
      · go_simp <;> with_reducible rfl
      simp only [Act.put, List.setIfInBounds_toArray, List.set_cons_zero, List.set_cons_succ]
      refine upT_call rfl rfl (fun K hK => ?_)
      go_simp
      refine hK _ _ (.inr (.inl rfl)) ?_
      clear hK x0 y0
      refine upT_nil ?_
      have CO12 : ChOwn (w10.setCell ⟨gq, 1, none⟩ (.slice A10 (D.length + 1) c10)) w.heap.size A10 c10 (D ++ [(A8, c8, pl)]) := by
        constructor
        · rw [recs_chV_snoc, List.length_append]
          exact o10.kept gS (.inr (row_blk_ne o10 B10 (by decide)))
        · intro x hx
          rcases List.mem_append.1 hx with hx | hx
          · exact (P10 x hx).kept gS (.inr (row_blk_ne (P10 x hx) B10 (by decide)))
          · rw [List.mem_singleton.1 hx]
            exact o11.kept gS (.inr (row_blk_ne o11 B10 (by decide)))
      have B12 := B10.set_ 1 (.slice A10 (D.length + 1) c10)
      simp only [List.setIfInBounds_toArray, List.set_cons_zero, List.set_cons_succ] at B12
      have BZ12 := BZ10.grown gS (by intro e; injection e with e; omega)
      have s12 := s10.keep gS B10 (by omega) (by decide)
      have G12 := grown_then G10 gS (by omega)
      have HD12 : Hid ((D ++ [(A8, c8, pl)]).map (fun x : ChD => x.2.2) = (chunksR (N : Int) (L.take (k + 1)) S1).1) := Lib.hid (by rw [HSN.out, List.map_append]; rfl)
      have hs12 : (chunksR (N : Int) (L.take (k + 1)) S1).2 = S5 := by rw [HSN.out]
      have HS12 := Lib.hid hs12
      clear gS P10 o10 o11 s10 G10 BZ10 B10 HSN hs12
      go_wp2_with fail
      go_roundw
      case rel => exact ⟨k + 1, c10, A10, D ++ [(A8, c8, pl)], by omega, by go_num, by rw [List.length_append]; exact B12, BZ12, CO12, HD12, Lib.hid (by rw [List.length_append, hDk.out]; rfl), by rw [HS12.out]; exact s12, by rw [HS12.out]; omega, G12⟩
      case measure => simp [intOf]; omega
    · obtain rfl : k = L.length := by omega
      obtain ⟨z0, z1⟩ := cells2 B
      have hX := HX.out
      rw [List.take_length] at s
      have HD2 := HD.out
      rw [List.take_length] at HD2
      have HXX := Lib.hid hX
      have HS := Lib.hid s
      have HDD := Lib.hid HD2
      have HG := Lib.hid G
      have HCO := Lib.hid CO
      clear hX s HD HD2 G CO
      go_wp2_with (refine wpList_storeG rfl 43 (.tmp 6) (.tmp 32) rfl w.heap.size _ rfl rfl BZ (by kernel_rfl) rfl (by simp [Value.oneCell']) ?_
                   intro W9 BR G9
                   obtain ⟨s0, s1⟩ := cells2 BR)
      have hX := HXX.out
      subst hX
      exact bodyPost_ret (v := .agg #[.int .i64 (N : Int), .slice A D.length d]) (by simp [results, Try.results35, go_sem, s0, s1]) rfl ⟨A, d, D, rfl, HDD.out, HCO.out.blk BZ G9 (by decide) (by decide), HS.out.keep G9 BZ (by omega) (by decide), grown_then HG.out G9 (Nat.le_refl _)⟩

end Go.Proofs.Ytflaaahcoglflaa
/- Contracts of schema.getCol and schema.Get. -/

namespace Go.Proofs.Ytflaaahcoglflaa
open Go.RowKit Go.Hm
def ColPost (c : ColS) (g : Nat) (S : St) (w : World) (e : Ending) (w' : World) : Prop := e = .returned (.agg #[.string (bstr c.1), .int .i64 c.2.1, .bool c.2.2]) ∧ CurS w' g S ∧ w.grownBy w' (some g)

set_option maxHeartbeats 2000000 in
set_option maxRecDepth 100000 in
theorem getCol_any {w : World} {g : Nat} {S : St} (h : CurS w g S) : Calls Try.prog 47 #[.pointer (some ⟨g, 0, none⟩)] w (ColPost (colS S).1 g (colS S).2 w) := by
  have hok := h.ok
  have hg := h.lt
  obtain ⟨W0, hW0⟩ : ∃ W, W = w.alloc (.cells #[.string ⟨#[]⟩, .int .i64 0, .bool false] 55) := ⟨_, rfl⟩
  have b0 : New w W0 := by rw [hW0]; exact (Below.refl _ _).alloc (Nat.le_refl _) _
  have G0 : w.grownBy W0 (some g) := by rw [hW0]; exact World.grownBy_alloc _ _ _
  have B0 : Blk W0 w.heap.size 55 #[.string ⟨#[]⟩, .int .i64 0, .bool false] := by rw [hW0]; exact Blk.new _ _ _
  have h0 := h.below b0
  have hne : w.heap.size ≠ g := by omega
  have P1 := Lib.hid (lenS_any (m := 100) h0 (by omega) (by omega))
  have hl := lenS_le (m := 100) S (by omega) hok
  have ok1 := lenS_ok (m := 100) hok
  rw [hW0] at P1
  have HW := Lib.hid hW0
  clear h h0 hok hW0 b0
  generalize hS : colS S = R
  unfold colS at hS
  generalize lenS 100 S = R1 at *
  obtain ⟨n1, S1⟩ := R1
  simp only at hl ok1 hS P1
  have HS := Lib.hid hS
  clear hS
  go_enter Try.func47, Try.ntmps47
  go_wp2_with fail
  refine P1.out.mono ?_
  rintro e w1 ⟨rfl, C1, G1⟩
  rw [← HW.out] at G1
  have B1 := B0.grown G1 (by simpa using hne)
  have G01 := G0.trans G1
  have P2 := Lib.hid (takeS_any (n := (n1 : Int)) C1 (by omega) (by omega))
  obtain ⟨ok2, l2⟩ := takeS_ok (n := (n1 : Int)) ok1
  replace HS := HS.out
  generalize takeS (n1 : Int) S1 = R2 at *
  obtain ⟨s2, S2⟩ := R2
  simp only at ok2 l2 HS P2
  replace HS := Lib.hid HS
  clear P1 B0 G0 G1 C1
  go_wp2_with fail
  refine P2.out.mono ?_
  rintro e w2 ⟨A2, n2, c2, rfl, e2, k2, C2, G2⟩
  have B2 := B1.grown G2 (by simpa using hne)
  have G02 := G01.trans G2
  have X2 := run_strB (c := c2) k2.reads
  have P3 := Lib.hid (byteS_any C2)
  have ok3 := byteS_ok ok2
  have lt3 := byteS_lt ok2
  replace HS := HS.out
  generalize byteS S2 = R3 at *
  obtain ⟨t3, S3⟩ := R3
  simp only at ok3 lt3 HS P3
  replace HS := Lib.hid HS
  clear P2 B1 G01 G2 C2 k2 e2
  go_wp2_with fail
  refine P3.out.mono ?_
  rintro e w3 ⟨rfl, C3, G3⟩
  have B3 := B2.grown G3 (by simpa using hne)
  have G03 := G02.trans G3
  have P4 := Lib.hid (byteS_any C3)
  have lt4 := byteS_lt ok3
  replace HS := HS.out
  generalize byteS S3 = R4 at *
  obtain ⟨u4, S4⟩ := R4
  simp only at lt4 HS P4
  replace HS := Lib.hid HS
  clear P3 B2 G02 G3 C3 X2
  go_wp2_with fail
  refine P4.out.mono ?_
  rintro e w4 ⟨rfl, C4, G4⟩
  have B4 := B3.grown G4 (by simpa using hne)
  have G04 := G03.trans G4
  clear P4 B3 G03 G4
  by_cases hu : 1 < u4
  · have P5 := Lib.hid (failS C4)
    go_wp2_with fail
    refine P5.out.mono ?_
    rintro e w5 ⟨rfl, C5, G5⟩
    have B5 := B4.grown G5 (by simpa using hne)
    have G05 := G04.trans G5
    clear P5 B4 G04 G5 C4
    obtain ⟨p0, p1, p2⟩ := ccells B5
    have f0 := B5.frozen 0
    have f1 := B5.frozen 1
    have f2 := B5.frozen 2
    have HB := Lib.hid B5
    clear B5
    go_wp2
    obtain ⟨W3, hW3, R10, G10, K10⟩ := store3g HB.out (a := .string (bstr s2)) (b := .int .i64 (t3 : Int)) (c := .bool ((u4 : Int) == 1)) G05 (Nat.le_refl _)
    rw [← hW3]
    have s0 := R10.cell 0
    have s1 := R10.cell 1
    have s2' := R10.cell 2
    simp at s0 s1 s2'
    have CW : CurS W3 g none := by rw [hW3]; exact ((C5.keep setCell_grown HB.out (by omega) (by decide)).keep setCell_grown (HB.out.set_ 0 _) (by omega) (by decide)).keep setCell_grown ((HB.out.set_ 0 _).set_ 1 _) (by omega) (by decide)
    refine bodyPost_ret (v := .agg #[.string (bstr s2), .int .i64 (t3 : Int), .bool ((u4 : Int) == 1)]) (by simp [results, Try.results47, go_sem, s0, s1, s2']) rfl ⟨?_, ?_, G10⟩
    · rw [← HS.out, show ((u4 : Int) == 1) = decide (u4 = 1) by rw [Bool.eq_iff_iff]; simp; omega]
    · rw [← HS.out, if_pos hu]
      exact CW
  ·
    obtain ⟨p0, p1, p2⟩ := ccells B4
    have f0 := B4.frozen 0
    have f1 := B4.frozen 1
    have f2 := B4.frozen 2
    have HB := Lib.hid B4
    clear B4
    go_wp2
    obtain ⟨W3, hW3, R10, G10, K10⟩ := store3g HB.out (a := .string (bstr s2)) (b := .int .i64 (t3 : Int)) (c := .bool ((u4 : Int) == 1)) G04 (Nat.le_refl _)
    rw [← hW3]
    have s0 := R10.cell 0
    have s1 := R10.cell 1
    have s2' := R10.cell 2
    simp at s0 s1 s2'
    have CW : CurS W3 g S4 := by rw [hW3]; exact ((C4.keep setCell_grown HB.out (by omega) (by decide)).keep setCell_grown (HB.out.set_ 0 _) (by omega) (by decide)).keep setCell_grown ((HB.out.set_ 0 _).set_ 1 _) (by omega) (by decide)
    refine bodyPost_ret (v := .agg #[.string (bstr s2), .int .i64 (t3 : Int), .bool ((u4 : Int) == 1)]) (by simp [results, Try.results47, go_sem, s0, s1, s2']) rfl ⟨?_, ?_, G10⟩
    · rw [← HS.out, show ((u4 : Int) == 1) = decide (u4 = 1) by rw [Bool.eq_iff_iff]; simp; omega]
    · rw [← HS.out, if_neg hu]
      exact CW

theorem grown_below' {w w1 w2 : World} {row : Option Nat} (h : w.grownBy w1 row) (h2 : w1.grownBy w2 row) : w.grownBy w2 row := h.trans h2

/-- Columns, a row of the call's own, and what is left of the cursor. -/
def ColsPost (l : List ColS) (g : Nat) (S : St) (w : World) (e : Ending) (w' : World) : Prop := ∃ A n c, e = .returned (.slice A n c) ∧ n ≤ c ∧ c ≤ maxLen ∧ w'.ownsRow w.heap.size 55 3 (.slice A n c) n (recs colV l) ∧ CurS w' g S ∧ w.grownBy w' (some g)
theorem elC : ElT Try.prog 22 55 (.agg #[.string ⟨#[]⟩, .int .i64 0, .bool false]) 3 32 := ⟨by kernel_rfl, by kernel_rfl, rfl, by omega⟩
set_option maxHeartbeats 2000000 in
set_option maxRecDepth 100000 in
theorem sget_any {w : World} {g : Nat} {S : St} (h : CurS w g S) : Calls Try.prog 32 #[.pointer (some ⟨g, 0, none⟩)] w (ColsPost (getC S).1 g (getC S).2 w) := by
  have hok := h.ok
  have hg := h.lt
  have P1 := Lib.hid (lenS_any (m := 64) h (by omega) (by omega))
  have hl := lenS_le (m := 64) S (by omega) hok
  have ok1 := lenS_ok (m := 64) hok
  have G1 := Lib.hid (show getC S = _ from rfl)
  generalize hR : getC S = R at *
  unfold getC at hR
  generalize lenS 64 S = R1 at *
  obtain ⟨n, S1⟩ := R1
  simp only at hl ok1 hR P1
  have HR := Lib.hid hR
  clear hR G1 h hok
  go_enter Try.func32, Try.ntmps32
  go_wp2_with fail
  refine P1.out.mono ?_
  rintro e w1 ⟨rfl, C1, G1⟩
  have z1 := G1.size
  clear P1
  have g1 : g < w1.heap.size := C1.lt
  go_wp2_with (refine wpList_mkR elC rfl (.tmp 8) (.tmp 8) rfl (W := w1) (B := w1.heap.size) n rfl rfl rfl rfl (Below.refl _ w1) (Nat.le_refl _) (by omega) (by simp only [maxLen]; omega) ?_
               intro w2 o2 g2 b2 s2)
  have C2 := C1.below b2
  have G2 : w.grownBy w2 (some g) := grown_below G1 b2
  obtain ⟨gm, hgm⟩ : ∃ gm, gm = w1.heap.size := ⟨_, rfl⟩
  rw [← hgm] at o2 ⊢
  have hgm1 : w.heap.size ≤ gm ∧ g ≠ gm := by omega
  have o2 := row_base o2 hgm1.1
  clear hgm C1 G1 z1 g2 b2 s2 g1
  go_loopw [12] (fun i wr => ∃ k : Nat, i = .int .i64 (k : Int) ∧ k ≤ n ∧ CurS wr g (colsS k S1).2 ∧ wr.ownsRow w.heap.size 55 3 (.slice (some ⟨gm, 0, none⟩) n n) n (recs colV ((colsS k S1).1 ++ List.replicate (n - k) ([], 0, false))) ∧ w.grownBy wr (some g)) (fun i _ => n - (intOf i).toNat)
  case atStart => exact ⟨0, rfl, by omega, C2, by simpa [recs, colsS, List.flatMap_replicate, colV, bstr] using o2, G2⟩
  case round =>
    obtain ⟨k, rfl, hk, C3, o3, G3⟩ := hrel
    by_cases hlt : k < n
    · have P4 := Lib.hid (getCol_any C3)
      obtain ⟨q1, q2⟩ := colsS_snoc k S1
      have okk := colsS_ok k ok1
      have hlen := colsS_len k S1
      have fin := colS_fine okk
      have HQ1 := Lib.hid q1
      have HQ2 := Lib.hid q2
      clear q1 q2
      generalize (colsS k S1).1 = pre at *
      generalize (colsS k S1).2 = Sk at *
      generalize colS Sk = R4 at *
      obtain ⟨⟨nm4, t4, u4⟩, S4⟩ := R4
      simp only at P4
      have hrep : List.replicate (n - k) (([], 0, false) : ColS) = ([], 0, false) :: List.replicate (n - (k + 1)) ([], 0, false) := by rw [show n - k = (n - (k + 1)) + 1 by omega]; rfl
      rw [hrep, recs_append, recs_cons] at o3
      have hpl : (recs colV pre).length = k * 3 := by rw [recs_length (sz := 3) (fun _ => rfl), hlen]
      have hiz : (k : Int) < (n : Int) := by omega
      have HO3 := Lib.hid o3
      clear o3 C3 hrep
      go_wp2_with fail
      refine P4.out.mono ?_
      rintro e w4 ⟨rfl, C4, G4⟩
      have o4 := World.ownsRow.kept HO3.out G4 (.inr (by simp [Value.ownBlock]; exact fun e => hgm1.2 e.symm))
      have G04 := grown_below' G3 G4
      obtain ⟨cs, B4⟩ := row_blk o4
      have c0 := o4.cellAt (k * 3) (by omega)
      have c1 := o4.cellAt (k * 3 + 1) (by omega)
      have c2 := o4.cellAt (k * 3 + 2) (by omega)
      rw [List.getElem?_append_right (by omega), hpl] at c0 c1 c2
      simp [colV] at c0 c1 c2
      have f0 := o4.frozenAt (k * 3)
      have f1 := o4.frozenAt (k * 3 + 1)
      have f2 := o4.frozenAt (k * 3 + 2)
      have HO4 := Lib.hid o4
      clear o4 P4 HO3
      go_wp2
      obtain ⟨W5, hW5, o5, g5⟩ := row_set3 (a := .string (bstr nm4)) (b := .int .i64 t4) (d := .bool u4) HO4.out hpl
      rw [← hW5]
      clear hW5
      go_roundw
      case rel => exact ⟨k + 1, by go_num, by omega, by rw [HQ2.out]; exact C4.keep g5 B4 hgm1.2 (by decide), by rw [HQ1.out, List.append_assoc, recs_append]; exact o5, grown_new G04 g5 hgm1.1⟩
      case measure => simp [intOf]; omega
    · obtain rfl : k = n := by omega
      rw [Nat.sub_self, List.replicate_zero, List.append_nil] at o3
      have hfin := colsS_fine k ok1
      have HR := HR.out
      have hlen := colsS_len k S1
      generalize colsS k S1 = R5 at *
      obtain ⟨L, S5⟩ := R5
      simp only at o3 hfin HR hlen C3
      subst hlen
      have r3 := Reads.of_own o3
      have P6 := Lib.hid (cols_any (c := L.length) r3 (fun x hx => ⟨(hfin x hx).1, by have := (hfin x hx).2; omega⟩) (Nat.le_refl _) (by omega))
      have P5 := Lib.hid (badS C3)
      rcases S5 with _ | l5
      · rw [if_pos (.inl rfl)] at HR
        subst HR
        go_wp2_with fail
        refine P5.out.mono ?_
        rintro e w5 ⟨rfl, rfl⟩
        have P7 := Lib.hid (failS C3)
        go_wp2_with fail
        refine P7.out.mono ?_
        rintro e w7 ⟨rfl, C7, G7⟩
        go_wp2
        go_ret
        exact ⟨none, 0, 0, rfl, by omega, by simp [maxLen], row_nil, C7, grown_below' G3 G7⟩
      · by_cases hck : colsCk L = 0
        · rw [if_neg (by simp [hck])] at HR
          subst HR
          rw [hck] at P6
          go_wp2_with fail
          refine P5.out.mono ?_
          rintro e w5 ⟨rfl, rfl⟩
          go_wp2_with fail
          refine P6.out.mono ?_
          rintro e w6 ⟨rfl, b6⟩
          go_wp2
          go_ret
          exact ⟨_, _, _, rfl, Nat.le_refl _, by simp only [maxLen]; omega, row_later o3 b6, C3.below b6, grown_below G3 b6⟩
        · rw [if_pos (.inr hck)] at HR
          subst HR
          generalize colsCk L = ck at *
          have e1 : (ck != 0) = true := by simpa using hck
          clear hck
          go_wp2_with fail
          refine P5.out.mono ?_
          rintro e w5 ⟨rfl, rfl⟩
          go_wp2_with fail
          refine P6.out.mono ?_
          rintro e w6 ⟨rfl, b6⟩
          have P7 := Lib.hid (failS (C3.below b6))
          go_wp2_with fail
          refine P7.out.mono ?_
          rintro e w7 ⟨rfl, C7, G7⟩
          go_wp2
          go_ret
          exact ⟨none, 0, 0, rfl, by omega, by simp [maxLen], row_nil, C7, grown_below' (grown_below G3 b6) G7⟩

end Go.Proofs.Ytflaaahcoglflaa
