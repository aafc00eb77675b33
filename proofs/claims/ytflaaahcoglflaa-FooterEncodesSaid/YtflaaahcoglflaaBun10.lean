/- Texts merged, for a claim has at most 60 files: FooV, FooT, FooU, FooZ. -/
import Derived.Test.YtflaaahcoglflaaBun6
import Derived.Test.YtflaaahcoglflaaBun7
import Derived.Test.YtflaaahcoglflaaBun8
import Derived.Test.YtflaaahcoglflaaBun9
/- The contract of the answer's Encode (layer 19). -/

namespace Go.Hm
open Go Go.RowKit
theorem putS_pre {l : List Nat} {t : Int} {s : StatS} : putS l t s = l ++ putS [] t s := by
  unfold putS
  split
  · split <;> simp
  · simp

end Go.Hm

namespace Go.Proofs.Ytflaaahcoglflaa
open Go.RowKit Go.Hm
set_option maxHeartbeats 8000000 in
set_option maxRecDepth 100000 in
theorem rfencode_any {w : World} {Ac : Option Addr} {cc : Nat} {L : List ColS} {r : Int} {Ag : Option Addr} {cg : Nat} {G : List GrD} (h : FootIn w Ac cc L Ag G) (hp : ∀ g ∈ G, ∀ x ∈ g.2.2.2, ∀ p ∈ x.2.2, PageFine p) (hr8 : -9223372036854775808 ≤ r ∧ r ≤ 9223372036854775807) :
    Calls Try.prog 10 #[footA Ac cc L r Ag cg G] w (OptB (encF (footP L r G)) w) := by
  have RT := Lib.hid (fun (W : World) (hW : New w W) => rfright_any (cc := cc) (cg := cg) (r := r) (h.later hW) (fun g hg x hx p hpm => (hp g hg x hx p hpm).stat) hr8)
  have HG := Lib.hid h.groups
  have HL := Lib.hid h.cols
  have hfew := h.few
  have hfew2 := h.few2
  have hfine := h.fine
  have HCH := Lib.hid h.chunks
  have HPG := Lib.hid h.pages
  have HP := Lib.hid hp
  clear h hp
  obtain ⟨M, hM⟩ : ∃ M, M = encF (footP L r G) := ⟨_, rfl⟩
  rw [← hM]
  unfold encF at hM
  show Calls Try.prog 10 #[.agg #[.slice Ac L.length cc, .int .i64 r, .slice Ag G.length cg]] w (OptB M w)
  have B0 := Blk.new w 25 #[.slice Ac L.length cc, .int .i64 r, .slice Ag G.length cg]
  have b0 : New w (w.alloc (.cells #[.slice Ac L.length cc, .int .i64 r, .slice Ag G.length cg] 25)) := (Below.refl _ _).alloc (Nat.le_refl _) _
  obtain ⟨x0, x1, x2⟩ := ccells B0
  by_cases hok : FootOk (footP L r G)
  · rw [if_pos hok] at hM
    rw [rightF_yes hok] at RT
    have RT : Hid (∀ W, New w W → Calls Try.prog 12 #[.agg #[.slice Ac L.length cc, .int .i64 r, .slice Ag G.length cg]] W (NewPost (.bool true) W)) := RT
    have hok2 := hok
    obtain ⟨hcok, hgok, hsum, hr, -⟩ := hok
    unfold footP at hok2 hgok hsum hM
    dsimp only [footP] at hcok hr
    dsimp only at hgok hsum
    have hr0 := sum_rows_nat hgok
    rw [hsum] at hr0
    obtain ⟨rN, rfl⟩ := Int.eq_ofNat_of_zero_le hr0
    unfold footL at hM
    dsimp only at hM
    rw [Int.toNat_natCast, List.length_map] at hM
    have hcl := catC_few hcok
    have SPt := Lib.hid (fun (W : World) (hW : New w W) => rsput_any (A := none) (n := 0) (c := 0) (b := []) (c2 := cc) Reads.none_ (by omega) (Reads.later HL.out hW) hfine hfew)
    have HMap := Lib.hid (fun (k : Nat) (hk : k < G.length) => getD_mapX grP G (k := k) grZ groupZ hk)
    have HLen := Lib.hid (show (G.map grP).length = G.length from List.length_map ..)
    have HOK := Lib.hid hok2
    have HL64 : L.length ≤ 64 := hcok.1
    have hGl : G.length ≤ 65536 := by
      have := (rows_sum hgok).1
      rw [List.length_map, hsum] at this
      omega
    have HM := Lib.hid hM
    have hrN : rN ≤ 65536 := by omega
    have wR : IntKind.u64.wrap (rN : Int) = (rN : Int) := by rw [IntKind.wrap_u64]; omega
    have wG : IntKind.u64.wrap (G.length : Int) = (G.length : Int) := by rw [IntKind.wrap_u64]; omega
    clear hM hgok hsum hr0 hok2 hcok hfine hr hr8
    generalize G.map grP = GP at *
    generalize putC [] L = PC at *
    go_enter Try.func10, Try.ntmps10
    go_wp2_with fail
    refine (RT.out _ b0).mono ?_
    rintro e w1 ⟨rfl, b1⟩
    have B1 := B0.below b1 B0.lt
    have b01 := New.trans b0 b1
    clear B0 b0 b1 x0 x1 x2 RT
    obtain ⟨x0, x1, x2⟩ := ccells B1
    go_wp2_with fail
    refine (SPt.out _ b01).mono ?_
    rintro e w2 ⟨A2, n2, c2, rfl, o2, b2⟩
    have hq2 : n2 ≤ 8000 := by have := o2.len; rw [nums_length] at this; omega
    have B2 := B1.below b2 B1.lt
    have o2 := o2.base_le b01.size
    have b02 := New.trans b01 b2
    have N1 := Lib.hid (rput_any (c := c2) rN o2.reads (by omega) (by omega))
    have VR := vp_len10 (n := rN) (by omega)
    have VG := vp_len10 (n := G.length) (by omega)
    clear SPt B1 x0 x1 x2 b01 b2
    obtain ⟨x0, x1, x2⟩ := ccells B2
    go_wp2_with fail
    refine N1.out.mono ?_
    rintro e w3 ⟨A3, n3, c3, rfl, o3, b3⟩
    have hq3 : n3 ≤ 8010 := by have h1 := o3.len; have h2 := o2.len; rw [nums_length, List.length_append] at h1; rw [nums_length] at h2; omega
    have B3 := B2.below b3 B2.lt
    have o3 := o3.base_le b02.size
    have b03 := New.trans b02 b3
    have N2 := Lib.hid (rput_any (c := c3) G.length o3.reads (by omega) (by omega))
    clear N1 o2 B2 x0 x1 x2 b02 b3
    obtain ⟨x0, x1, x2⟩ := ccells B3
    go_wp2_with fail
    refine N2.out.mono ?_
    rintro e w4 ⟨A4, n4, c4, rfl, o4, b4⟩
    have hq4 : n4 ≤ 8020 := by have h1 := o4.len; have h2 := o3.len; rw [nums_length, List.length_append] at h1; rw [nums_length] at h2; omega
    have B4 := B3.below b4 B3.lt
    have o4 := o4.base_le b03.size
    have b04 := New.trans b03 b4
    clear N2 o3 B3 x0 x1 x2 b03 b4
    go_wp2_with fail
    go_loopw [5, 6] (fun v i wr => ∃ (k : Nat) (B : Option Addr) (m d R : Nat), k ≤ G.length ∧ i = .int .i64 (k : Int) ∧ v = .slice B m d ∧ Go.Hm.Own wr w.heap.size 5 (.slice B m d) (nums .u8 (PC ++ vp rN ++ vp G.length ++ (GP.take k).flatMap (groupL L)))
      ∧ Hid ((R : Int) = ((GP.take k).map (·.1)).sum) ∧ m ≤ 9000 + 700 * k + 8961280 * R ∧ Blk wr w.heap.size 25 #[.slice Ac L.length cc, .int .i64 (rN : Int), .slice Ag G.length cg] ∧ New w wr) (fun _ i _ => G.length - (intOf i).toNat)
    case atStart => exact ⟨0, A4, n4, c4, 0, Nat.zero_le _, rfl, rfl, by simpa using o4, Lib.hid (by simp), by omega, B4, b04⟩
    case round =>
      obtain ⟨k, Bv, m, d, R, hk, rfl, rfl, o, HRw, hml, B, bw⟩ := hrel
      clear o4 B4 b04 hq4
      by_cases hlt : k < G.length
      · obtain ⟨ad, rfl, hb, d0, d1⟩ := (Reads.later HG.out bw).gr2 hlt
        have hgm := mem_getDF grZ hlt
        have hch := HCH.out _ hgm
        have hpg := HPG.out _ hgm
        have hpp := HP.out _ hgm
        have hmap := HMap.out k hlt
        have hltP : k < GP.length := by rw [HLen.out]; exact hlt
        have hgok := HOK.out.2.1 (GP.getD k groupZ) (mem_getDF groupZ hltP)
        have hrows := foot_rows HOK.out hltP
        have hts := sum_take_succ (fun g : GroupS => g.1) GP k groupZ hltP
        have hfm : (GP.take (k + 1)).flatMap (groupL L) = (GP.take k).flatMap (groupL L) ++ groupL L (GP.getD k groupZ) := by rw [take_snoc GP k groupZ hltP, List.flatMap_append]; simp
        dsimp only at hgok hrows hts
        rw [hmap] at hgok hrows hts hfm
        have FG := Lib.hid (fun (W : World) (hW : New w W) => show W.cell? (ad.add (k * 2)) = some (.int .i64 (G.getD k grZ).1) ∧ W.cell? ⟨(ad.add (k * 2)).block, (ad.add (k * 2)).off + 1, none⟩ = some (.slice (G.getD k grZ).2.1 (G.getD k grZ).2.2.2.length (G.getD k grZ).2.2.1) from by
          obtain ⟨al', e, _, f⟩ := (Reads.later HG.out hW).gr2 hlt
          injection e with e
          subst e
          exact f)
        generalize G.getD k grZ = g at *
        obtain ⟨gI, Ach, cch, D⟩ := g
        unfold grP at hgok hrows hts hfm
        dsimp only at d0 d1 hch hpg hpp hgok hrows hts hfm FG
        obtain ⟨hg1, hg2, hg3⟩ := hgok
        dsimp only at hg1 hg2 hg3
        obtain ⟨gr, rfl⟩ := Int.eq_ofNat_of_zero_le (show 0 ≤ gI by omega)
        rw [List.length_map] at hg2
        rw [show groupL L ((gr : Int), D.map fun x : ChD => x.2.2) = vp gr ++ chunksL L (D.map fun x : ChD => x.2.2) from rfl] at hfm
        have hR := HRw.out
        have hgr : gr + R ≤ 65536 := by omega
        have hRR : ((R + gr : Nat) : Int) = ((GP.take (k + 1)).map (·.1)).sum := by rw [hts, ← hR]; simp
        have HRR := Lib.hid hRR
        have HFM := Lib.hid hfm
        have HG3 := Lib.hid hg3
        have HCHk := Lib.hid hch.1
        have HPGk := Lib.hid hpg
        have HPPk := Lib.hid hpp
        have HG2 := Lib.hid hg2
        clear hmap hltP hgm hb hch hpg hpp hts hrows hR hRR hfm hg3 hg2 HRw
        have N1 := Lib.hid (rput_any (c := d) gr o.reads (by omega) (by omega))
        have VGr := vp_len10 (n := gr) (by omega)
        have HML := Lib.hid hml
        have hmq : m ≤ 700000000000 := by omega
        have wg : IntKind.u64.wrap (gr : Int) = (gr : Int) := by rw [IntKind.wrap_u64]; omega
        obtain ⟨x0, x1, x2⟩ := ccells B
        go_wp2_with fail
        refine N1.out.mono ?_
        rintro e w6 ⟨A6, n6, c6, rfl, o6, b6⟩
        have hq6 : n6 ≤ m + 10 := by have h1 := o6.len; have h2 := o.len; rw [nums_length, List.length_append] at h1; rw [nums_length] at h2; omega
        have B6 := B.below b6 B.lt
        have o6 := o6.base_le bw.size
        have b06 := New.trans bw b6
        clear N1 o B x0 x1 x2 bw b6 d0 d1
        have hY : ∃ Y, Y = 10 + gr * 140020 := ⟨_, rfl⟩
        obtain ⟨Y, hY⟩ := hY
        have HYY := Lib.hid hY
        clear hY
        go_wp2_with fail
        go_loopw [5, 7] (fun v i wr => ∃ (c : Nat) (Bq : Option Addr) (m2 d2 : Nat), c ≤ L.length ∧ i = .int .i64 (c : Int) ∧ v = .slice Bq m2 d2
          ∧ Go.Hm.Own wr w.heap.size 5 (.slice Bq m2 d2) (nums .u8 (PC ++ vp rN ++ vp G.length ++ (GP.take k).flatMap (groupL L) ++ vp gr ++ chunksL (L.take c) ((D.map (fun x : ChD => x.2.2)).take c)))
          ∧ m2 ≤ m + 10 + c * Y ∧ Blk wr w.heap.size 25 #[.slice Ac L.length cc, .int .i64 (rN : Int), .slice (some ad) G.length cg] ∧ New w wr) (fun _ i _ => L.length - (intOf i).toNat)
        case atStart => exact ⟨0, A6, n6, c6, Nat.zero_le _, rfl, rfl, by simpa [chunksL] using o6, by omega, B6, b06⟩
        case round =>
          obtain ⟨c, Bq, m2, d2, hc, rfl, rfl, oq, hmc, Bx, bq⟩ := hrel
          clear o6 hq6 B6 b06
          have hcY : c * Y ≤ 64 * Y := Nat.mul_le_mul_right _ (by omega)
          have hYv := HYY.out
          have hm2q : m2 ≤ 90000000000000 := by omega
          by_cases hlc : c < L.length
          · have hcD : c < D.length := by rw [HG2.out]; exact hlc
            obtain ⟨d0, d1⟩ := FG.out _ bq
            obtain ⟨ac, rfl, hbc, e0⟩ := (Reads.later HCHk.out bq).ch1 hcD
            obtain ⟨al, rfl, hbl, f0, f1, f2⟩ := (Reads.later HL.out bq).colT hlc
            have FC := Lib.hid (fun (W : World) (hW : New w W) => show (W.cell? (al.add (c * 3)) = some (.string (bstr (L.getD c colZ).1)) ∧ W.cell? ⟨(al.add (c * 3)).block, (al.add (c * 3)).off + 1, none⟩ = some (.int .i64 (L.getD c colZ).2.1) ∧ W.cell? ⟨(al.add (c * 3)).block, (al.add (c * 3)).off + 2, none⟩ = some (.bool (L.getD c colZ).2.2)) from by
              obtain ⟨al', e, _, f⟩ := (Reads.later HL.out hW).colT hlc
              injection e with e
              subst e
              exact f)
            have hxm := mem_getDF chZ hcD
            have hpx := HPGk.out _ hxm
            have hsx := HPPk.out _ hxm
            have hco := HG3.out c hlc
            have hsn := chunksL_snoc c L (D.map fun x : ChD => x.2.2) hlc (by rw [List.length_map]; exact hcD)
            rw [getD_mapX (fun x : ChD => x.2.2) D chZ [] hcD] at hco hsn
            have hlD : (c : Int) < (D.length : Int) := by omega
            generalize D.getD c chZ = x at *
            obtain ⟨Ax, cx, pl⟩ := x
            dsimp only at e0 hpx hsx hco hsn
            have hpn : ∀ p ∈ pl, PageNum p := fun p hpm => (hsx p hpm).num (hco.1 p hpm)
            have hpl := rowsL_pos hco.1
            have hcr := hco.2
            have hnp : pl.length ≤ gr := by omega
            have HPL := Lib.hid hpx.1
            generalize L.getD c colZ = col at *
            obtain ⟨nm, t, nu⟩ := col
            dsimp only at f0 f1 f2 hsn FC
            have hnp2 : pl.length ≤ 65536 := by omega
            have hnn : m2 + 10 + pl.length * 140020 ≤ 99999999999000 := by clear hcY hmc; omega
            have hlch : (chunkL t pl).length ≤ 10 + pl.length * 140020 := by
              have h1 := flat_pages (t := t) pl (fun p hpm => by
                have := hpn p hpm
                have h1 := this.1
                have h2 := this.2.1
                omega)
              have h2 := vp_len10 (n := pl.length) (by omega)
              unfold chunkL
              rw [List.length_append]
              omega
            have hfl := fun q => flat_pages (t := t) (pl.take q) (fun p hpm => by
              have := hpn p (List.mem_of_mem_take hpm)
              have h1 := this.1
              have h2 := this.2.1
              omega)
            have HF := Lib.hid (fun q => by have := hfl q; rw [List.length_take] at this; exact this)
            have HPN := Lib.hid hpn
            have hchY : (chunkL t pl).length ≤ Y := by omega
            have HSN := Lib.hid hsn
            have hln := oq.len
            rw [nums_length] at hln
            have HLN := Lib.hid hln
            obtain ⟨x0, x1, x2⟩ := ccells Bx
            have N2 := Lib.hid (rput_any (c := d2) pl.length oq.reads (by omega) (by omega))
            have Vp := vp_len10 (n := pl.length) (by omega)
            have wp : IntKind.u64.wrap (pl.length : Int) = (pl.length : Int) := by rw [IntKind.wrap_u64]; omega
            generalize hBASE : PC ++ vp rN ++ vp G.length ++ (GP.take k).flatMap (groupL L) ++ vp gr ++ chunksL (L.take c) ((D.map (fun x : ChD => x.2.2)).take c) = BASE at *
            have HB := Lib.hid hBASE
            clear hsn hco hcr hpl hpn hpx hsx hxm hbc hbl hlch hYv hfl hln hBASE
            go_wp2_with fail
            refine N2.out.mono ?_
            rintro e w7 ⟨A7, n7, c7, rfl, o7, b7⟩
            have hq7 : n7 ≤ m2 + 10 := by have h1 := o7.len; rw [nums_length, List.length_append] at h1; have h2 := HLN.out; omega
            have B7 := Bx.below b7 Bx.lt
            have o7 := o7.base_le bq.size
            have b07 := New.trans bq b7
            clear N2 oq Bx x0 x1 x2 bq b7 d0 d1 e0 f0 f1 f2
            go_wp2_with fail
            go_loopw [5, 9] (fun v i wr => ∃ (q : Nat) (Bz : Option Addr) (m3 d3 : Nat), q ≤ pl.length ∧ i = .int .i64 (q : Int) ∧ v = .slice Bz m3 d3
              ∧ Go.Hm.Own wr w.heap.size 5 (.slice Bz m3 d3) (nums .u8 (BASE ++ vp pl.length ++ (pl.take q).flatMap (pageL t)))
              ∧ Blk wr w.heap.size 25 #[.slice (some al) L.length cc, .int .i64 (rN : Int), .slice (some ad) G.length cg] ∧ New w wr) (fun _ i _ => pl.length - (intOf i).toNat)
            case atStart => exact ⟨0, A7, n7, c7, Nat.zero_le _, rfl, rfl, by simpa using o7, B7, b07⟩
            case round =>
              obtain ⟨q, Bz, m3, d3, hq, rfl, rfl, o3, Bw, b3⟩ := hrel
              clear o7 hq7 B7 b07
              have hm3 : m3 ≤ m2 + 10 + q * 140020 := by
                have h1 := o3.len
                rw [nums_length, List.length_append, List.length_append] at h1
                have h2 := HF.out q
                have h3 := HLN.out
                omega
              by_cases hlq : q < pl.length
              · have FP := fun (W : World) (hW : New w W) => (Reads.later HPL.out hW).page14 hlq
                obtain ⟨ap, rfl, -⟩ := FP _ b3
                have FP := fun (W : World) (hW : New w W) => (Reads.later HPL.out hW).page14s hlq
                have htk := take_snoc pl q pageZ hlq
                have hpn := HPN.out _ (mem_getDF pageZ hlq)
                have hpl : (pl.take (q + 1)).flatMap (pageL t) = (pl.take q).flatMap (pageL t) ++ pageL t (pl.getD q pageZ) := by rw [htk, List.flatMap_append]; simp
                rw [show pageL t (pl.getD q pageZ) = vp (pl.getD q pageZ).1.toNat ++ vp (pl.getD q pageZ).2.1.toNat ++ Go.Hm.putS [] t (pl.getD q pageZ).2.2 from rfl] at hpl
                have HPS := Lib.hid hpl
                clear htk hpl
                generalize pl.getD q pageZ = p at *
                obtain ⟨hp1, hp2, hp3⟩ := hpn
                have SP := fun (W : World) (A : Option Addr) (n c : Nat) (l : List Nat) (h : Reads W W.heap.size 1 A n (nums .u8 l)) (hn : n ≤ 100000000000000) => rstput_any (c := c) (t := t) h hn hp3
                obtain ⟨szI, rwI, nn, bb, ⟨p1, p2, p3, p4, p5⟩, ⟨q1, q2, q3, q4, q5⟩⟩ := p
                dsimp only at hp1 hp2 hp3 SP HPS FP
                obtain ⟨sz, rfl⟩ := Int.eq_ofNat_of_zero_le hp1.1
                obtain ⟨rw, rfl⟩ := Int.eq_ofNat_of_zero_le hp2.1
                simp only [Int.toNat_natCast] at HPS
                have HPRE := Lib.hid (fun l : List Nat => putS_pre (l := l) (t := t) (s := (nn, bb, (p1, p2, p3, p4, p5), (q1, q2, q3, q4, q5))))
                have SP : Hid (∀ (W : World) (A : Option Addr) (n c : Nat) (l : List Nat), Reads W W.heap.size 1 A n (nums .u8 l) → n ≤ 100000000000000 → Calls Try.prog 25 #[.slice A n c, .int .i64 t, .agg #[.int .i64 nn, .bool bb, .bool p1, .int .i64 p2, .string (bstr p3), .int .i64 p4, .int .i64 p5, .bool q1, .int .i64 q2, .string (bstr q3), .int .i64 q4, .int .i64 q5]] W (BytesPost (putS l t (nn, bb, (p1, p2, p3, p4, p5), (q1, q2, q3, q4, q5))) W)) := Lib.hid SP
                have hrwN : rw ≤ 9223372036854775807 := by omega
                have FP := Lib.hid FP
                have V1 := vp_len10 (n := sz) (by omega)
                have V2 := vp_len10 (n := rw) (by omega)
                have w1 : IntKind.u64.wrap (sz : Int) = (sz : Int) := by rw [IntKind.wrap_u64]; omega
                have w2 : IntKind.u64.wrap (rw : Int) = (rw : Int) := by rw [IntKind.wrap_u64]; omega
                have N3 := Lib.hid (rput_any (c := d3) sz o3.reads (by omega) (by omega))
                obtain ⟨d0, d1, d2, d3, d4, d5, d6, d7, d8, d9, d10, d11, d12, d13⟩ := FP.out _ b3
                clear d2 d3 d4 d5 d6 d7 d8 d9 d10 d11 d12 d13 hp1 hp2 hp3
                go_wp2_with fail
                refine N3.out.mono ?_
                rintro e w8 ⟨A8, n8, c8, rfl, o8, b8⟩
                have hq8 : n8 ≤ m3 + 10 := by have h1 := o8.len; have h2 := o3.len; rw [nums_length, List.length_append] at h1; rw [nums_length] at h2; omega
                have B8 := Bw.below b8 Bw.lt
                have o8 := o8.base_le b3.size
                have b08 := New.trans b3 b8
                have N4 := Lib.hid (rput_any (c := c8) rw o8.reads (by omega) (by omega))
                clear N3 o3 Bw b3 b8 d0 d1
                obtain ⟨d0, d1, d2, d3, d4, d5, d6, d7, d8, d9, d10, d11, d12, d13⟩ := FP.out _ b08
                clear d2 d3 d4 d5 d6 d7 d8 d9 d10 d11 d12 d13
                go_wp2_with fail
                refine N4.out.mono ?_
                rintro e w9 ⟨A9, n9, c9, rfl, o9, b9⟩
                have hq9 : n9 ≤ m3 + 20 := by have h1 := o9.len; have h2 := o8.len; rw [nums_length, List.length_append] at h1; rw [nums_length] at h2; omega
                have B9 := B8.below b9 B8.lt
                have o9 := o9.base_le b08.size
                have b09 := New.trans b08 b9
                clear N4 o8 B8 b08 b9 d0 d1
                go_wp2_with fail
                have F := Lib.hid (fun (W : World) (hW : New w9 W) => And.intro (B9.below hW B9.lt) (o9.later hW))
                have hq9' : n9 ≤ 100000000000000 := by omega
                refine wp_region_up New [(true, 0), (true, 1), (true, 2), (true, 3), (true, 4), (true, 5), (true, 6), (true, 7), (true, 8), (true, 9), (true, 10), (true, 11), (false, 12), (true, 13)]
                  New.refl New.trans (by kernel_rfl) (by kernel_rfl) (by kernel_rfl) (by kernel_rfl) ?_
                have hU := New.drew w9
                repeat (first
                  | (refine up_quiet rfl rfl (v := ?_) (fun W hQ => ?_) ?_; rotate_left; (obtain ⟨d0, d1, d2, d3, d4, d5, d6, d7, d8, d9, d10, d11, d12, d13⟩ := FP.out W (New.trans b09 (New.trans hU hQ)); obtain ⟨f0, f1, f2⟩ := FC.out W (New.trans b09 (New.trans hU hQ)); obtain ⟨y0, y1, y2⟩ := ccells (F.out W (New.trans hU hQ)).1; go_simp <;> with_reducible rfl); simp only [Act.put, List.setIfInBounds_toArray, List.set_cons_zero, List.set_cons_succ]))
                refine up_call rfl rfl (fun K0 hK0 => ?_)
                go_simp
                (with_reducible refine (SP.out _ A9 n9 c9 _ (F.out _ hU).2.reads hq9').mono ?_)
                rintro e u ⟨A10, n10, c10, rfl, o10, bu⟩
                refine hK0 _ _ bu ?_
                have o10 := o10.base_le (New.trans b09 hU).size
                replace hU := New.trans hU bu
                clear hK0 bu
                repeat (first
                  | (refine up_quiet rfl rfl (v := ?_) (fun W hQ => ?_) ?_; rotate_left; (go_simp <;> with_reducible rfl); simp only [Act.put, List.setIfInBounds_toArray, List.set_cons_zero, List.set_cons_succ]))
                refine up_nil ?_
                have B10 := (F.out _ hU).1
                have b10 := New.trans b09 hU
                have o10 : Go.Hm.Own u w.heap.size 5 (.slice A10 n10 c10) (nums .u8 (BASE ++ vp pl.length ++ (pl.take (q + 1)).flatMap (pageL t))) := by
                  rw [HPS.out]
                  rw [HPRE.out] at o10
                  simpa using o10
                clear F hU B9 b09 o9 SP FP
                go_wp2_with fail
                go_roundw
                case rel => exact ⟨q + 1, A10, n10, c10, by omega, by go_num, rfl, o10, B10, b10⟩
                case measure => simp [intOf]; omega
              · obtain rfl : q = pl.length := by omega
                have o11 : Go.Hm.Own wr w.heap.size 5 (.slice Bz m3 d3) (nums .u8 (PC ++ vp rN ++ vp G.length ++ (GP.take k).flatMap (groupL L) ++ vp gr ++ chunksL (L.take (c + 1)) ((D.map (fun x : ChD => x.2.2)).take (c + 1)))) := by
                  rw [HSN.out]
                  rw [List.take_length, ← HB.out] at o3
                  rw [show chunkL t pl = vp pl.length ++ pl.flatMap (pageL t) from rfl]
                  simpa using o3
                have hq11 : m3 ≤ m2 + Y := by
                  have h1 := o3.len
                  rw [nums_length, List.length_append, List.length_append, List.take_length] at h1
                  have h3 := HLN.out
                  have h4 : (chunkL t pl).length = (vp pl.length).length + (pl.flatMap (pageL t)).length := by unfold chunkL; rw [List.length_append]
                  omega
                have hsm : (c + 1) * Y = c * Y + Y := Nat.succ_mul c Y
                have hq12 : m3 ≤ m + 10 + (c + 1) * Y := by omega
                clear o3 hsm hmc hm3
                go_wp2_with fail
                go_roundw
                case rel => exact ⟨c + 1, Bz, m3, d3, by omega, by go_num, rfl, o11, hq12, Bw, b3⟩
                case measure => simp [intOf]; omega
          · obtain rfl : c = L.length := by omega
            have hfin : PC ++ vp rN ++ vp G.length ++ (GP.take k).flatMap (groupL L) ++ vp gr ++ chunksL (L.take L.length) ((D.map (fun x : ChD => x.2.2)).take L.length) = PC ++ vp rN ++ vp G.length ++ (GP.take (k + 1)).flatMap (groupL L) := by
              rw [HFM.out, List.take_length, show (D.map fun x : ChD => x.2.2).take L.length = D.map fun x : ChD => x.2.2 from List.take_of_length_le (by rw [List.length_map, HG2.out]; exact Nat.le_refl _)]
              simp
            rw [hfin] at oq
            have hml2 : m2 ≤ 9000 + 700 * (k + 1) + 8961280 * (R + gr) := by have := HML.out; omega
            clear hfin hmc hcY
            obtain ⟨x0, x1, x2⟩ := ccells Bx
            go_wp2_with fail
            go_roundw
            case rel => exact ⟨k + 1, Bq, m2, d2, R + gr, by omega, by go_num, rfl, oq, HRR, hml2, Bx, bq⟩
            case measure => simp [intOf]; omega
      · obtain rfl : k = G.length := by omega
        have HO2 := Lib.hid o
        clear o HRw
        obtain ⟨x0, x1, x2⟩ := ccells B
        go_wp2_with fail
        go_ret2
        rw [HM.out]
        have := HO2.out
        rw [← HLen.out, List.take_length, HLen.out] at this
        exact ⟨_, _, _, rfl, this, bw⟩
  · rw [if_neg hok] at hM
    rw [rightF_no hok] at RT
    have RT : Hid (∀ W, New w W → Calls Try.prog 12 #[.agg #[.slice Ac L.length cc, .int .i64 r, .slice Ag G.length cg]] W (NewPost (.bool false) W)) := RT
    have HM := Lib.hid hM
    clear hM hok
    go_enter Try.func10, Try.ntmps10
    go_wp2_with fail
    refine (RT.out _ b0).mono ?_
    rintro e w1 ⟨rfl, b1⟩
    go_wp2_with fail
    go_ret2
    rw [HM.out]
    exact ⟨rfl, New.trans b0 b1⟩

end Go.Proofs.Ytflaaahcoglflaa
/- The contract of the answer's Spans (layer 19). -/

namespace Go.Proofs.Ytflaaahcoglflaa
open Go.RowKit Go.Hm
set_option maxHeartbeats 4000000 in
set_option maxRecDepth 100000 in
theorem rfspans_any {w : World} {Ac : Option Addr} {cc : Nat} {L : List ColS} {r : Int} {Ag : Option Addr} {cg : Nat} {G : List GrD} (h : FootIn w Ac cc L Ag G) (hp : ∀ g ∈ G, ∀ x ∈ g.2.2.2, ∀ p ∈ x.2.2, statFine p.2.2) (hr8 : -9223372036854775808 ≤ r ∧ r ≤ 9223372036854775807) {g c : Int} :
    Calls Try.prog 15 #[footA Ac cc L r Ag cg G, .int .i64 g, .int .i64 c] w (SpansPost (spansF (footP L r G) g c) w) := by
  have HR := fun (W : World) (hW : New w W) => rfright_any (r := r) (cc := cc) (cg := cg) (h.later hW) hp hr8
  have hX : spansF (footP L r G) g c = if rightF (footP L r G) && inB L.length G.length g c then spansL (aheadR (G.map grP) g.toNat) (pagesAt (G.map grP) g.toNat c.toNat) else [] := by
    unfold spansF footP
    simp only [List.length_map]
  have hF : rightF (footP L r G) = true → FootOk (footP L r G) := fun e => by unfold rightF at e; simpa using e
  have B0 := Blk.new w 25 #[.slice Ac L.length cc, .int .i64 r, .slice Ag G.length cg]
  have b0 : New w (w.alloc (.cells #[.slice Ac L.length cc, .int .i64 r, .slice Ag G.length cg] 25)) := (Below.refl _ _).alloc (Nat.le_refl _) _
  obtain ⟨x0, x1, x2⟩ := ccells B0
  have HG := Lib.hid h.groups
  have HCH := Lib.hid h.chunks
  have HPG := Lib.hid h.pages
  have hfew2 := h.few2
  have hB := @inB_yes L.length G.length g c
  have hI : inB L.length G.length g c = decide (0 ≤ g ∧ g < (G.length : Int) ∧ 0 ≤ c ∧ c < (L.length : Int)) := rfl
  clear h hp
  generalize inB L.length G.length g c = I at *
  show Calls Try.prog 15 #[.agg #[.slice Ac L.length cc, .int .i64 r, .slice Ag G.length cg], .int .i64 g, .int .i64 c] w (SpansPost (spansF (footP L r G) g c) w)
  generalize spansF (footP L r G) g c = X at *
  generalize rightF (footP L r G) = M at *
  have HR : Hid (∀ W, New w W → Calls Try.prog 12 #[.agg #[.slice Ac L.length cc, .int .i64 r, .slice Ag G.length cg]] W (NewPost (.bool M) W)) := Lib.hid HR
  cases M with
  | false =>
    obtain rfl : X = [] := by rw [hX]; rfl
    clear hX hF hB hI
    go_enter Try.func15, Try.ntmps15
    go_wp2_with fail
    refine (HR.out _ b0).mono ?_
    rintro e w1 ⟨rfl, b1⟩
    have b01 := New.trans b0 b1
    clear b0 b1
    go_wp2
    go_ret
    exact ⟨none, 0, 0, rfl, row_nil, b01⟩
  | true =>
    have hok := hF rfl
    clear hF
    cases I with
    | false =>
      obtain rfl : X = [] := by rw [hX]; rfl
      have hcs : g < 0 ∨ (0 ≤ g ∧ (G.length : Int) ≤ g) ∨ (0 ≤ g ∧ g < (G.length : Int) ∧ c < 0) ∨ (0 ≤ g ∧ g < (G.length : Int) ∧ 0 ≤ c ∧ (L.length : Int) ≤ c) := by
        have := of_decide_eq_false hI.symm
        omega
      clear hX hB hI
      go_enter Try.func15, Try.ntmps15
      go_wp2_with fail
      refine (HR.out _ b0).mono ?_
      rintro e w1 ⟨rfl, b1⟩
      have B1 := B0.below b1 B0.lt
      have b01 := New.trans b0 b1
      clear b0 b1 B0 x0 x1 x2
      obtain ⟨x0, x1, x2⟩ := ccells B1
      rcases hcs with hh | ⟨hh, hh2⟩ | ⟨hh, hh2, hh3⟩ | ⟨hh, hh2, hh3, hh4⟩
      all_goals
        go_wp2
        go_ret
        exact ⟨none, 0, 0, rfl, row_nil, b01⟩
    | true =>
      obtain ⟨gk, ck, rfl, rfl, hgk, hck⟩ := hB rfl
      clear hB hI
      replace hX : X = spansL (aheadR (G.map grP) gk) (pagesAt (G.map grP) gk ck) := hX
      have hAH := fun (k : Nat) (hk : k < G.length) => foot_ahead hok (k := k) (by unfold footP; simpa using hk)
      have hCK := foot_chunk hok (k := gk) (c := ck) (by unfold footP; simpa using hgk) hck
      unfold footP at hAH hCK
      dsimp only at hAH hCK
      have hMap := fun (k : Nat) (hk : k < G.length) => getD_mapX grP G (k := k) grZ groupZ hk
      have HAH := Lib.hid (fun (k : Nat) (hk : k < G.length) => show 0 ≤ aheadR (G.map grP) k ∧ aheadR (G.map grP) (k + 1) = aheadR (G.map grP) k + (G.getD k grZ).1 ∧ aheadR (G.map grP) (k + 1) ≤ 65536 ∧ 1 ≤ (G.getD k grZ).1 by
        have := hAH k hk
        rw [hMap k hk] at this
        exact this)
      have h65 := hAH gk hgk
      rw [hMap gk hgk] at h65
      have hMG := hMap gk hgk
      unfold pagesAt at hX hCK
      rw [hMG] at hX hCK
      have ha0 : aheadR (G.map grP) 0 = 0 := rfl
      have HA0 := Lib.hid ha0
      generalize hAR : aheadR (G.map grP) = AR at *
      clear hAR hAH hMap hMG ha0
      have n1 : ¬ (gk : Int) < 0 := by omega
      have n2 : ¬ (G.length : Int) ≤ (gk : Int) := by omega
      have n3 : ¬ (ck : Int) < 0 := by omega
      have n4 : ¬ (L.length : Int) ≤ (ck : Int) := by omega
      go_enter Try.func15, Try.ntmps15
      go_wp2_with fail
      refine (HR.out _ b0).mono ?_
      rintro e w1 ⟨rfl, b1⟩
      have B1 := B0.below b1 B0.lt
      have b01 := New.trans b0 b1
      clear b0 b1 B0 x0 x1 x2 HR
      obtain ⟨x0, x1, x2⟩ := ccells B1
      go_wp2_with fail
      clear x0 x1 x2 n1 n2 n3 n4
      go_loopw [8, 9] (fun a i wr => ∃ k : Nat, k ≤ gk ∧ i = .int .i64 (k : Int) ∧ a = .int .i64 (AR k) ∧ Blk wr w.heap.size 25 #[.slice Ac L.length cc, .int .i64 r, .slice Ag G.length cg] ∧ New w wr) (fun _ i _ => gk - (intOf i).toNat)
      case atStart => exact ⟨0, Nat.zero_le _, rfl, by rw [HA0.out], B1, b01⟩
      case round =>
        obtain ⟨k, hk, rfl, rfl, B, b⟩ := hrel
        clear B1 b01 HA0
        by_cases hlt : k < gk
        · obtain ⟨x0, x1, x2⟩ := ccells B
          have hkG : k < G.length := by omega
          obtain ⟨ad, rfl, hb, d0, d1⟩ := (Reads.later HG.out b).gr2 (i := k) (by omega)
          obtain ⟨a1, a2, a3, a4⟩ := HAH.out k (by omega)
          have HA2 := Lib.hid a2
          have hq : AR k + (G.getD k grZ).1 ≤ 65536 := by omega
          have hq0 : 0 ≤ AR k + (G.getD k grZ).1 := by omega
          clear a2 a3 a4 hX h65 hCK
          generalize AR k = ak at *
          generalize G.getD k grZ = gg at *
          obtain ⟨gr, Ach, cch, D⟩ := gg
          dsimp only at d0 d1 HA2 hq hq0
          go_wp2_with fail
          go_roundw
          case rel => exact ⟨k + 1, by omega, by go_num, by rw [HA2.out], B, b⟩
          case measure => simp [intOf]; omega
        · obtain rfl : k = gk := by omega
          obtain ⟨x0, x1, x2⟩ := ccells B
          obtain ⟨ad, rfl, hb, d0, d1⟩ := (Reads.later HG.out b).gr2 hgk
          have hgm := mem_getDF grZ hgk
          have hch := HCH.out _ hgm
          have hpg := HPG.out _ hgm
          clear hlt HAH hk hb hgm
          generalize G.getD k grZ = gg at *
          obtain ⟨gr, Ach, cch, D⟩ := gg
          unfold grP at hCK hX h65
          dsimp only at d0 d1 hCK hX h65 hch hpg
          have hD : D.length = L.length := by have := hCK.2; simpa using this
          have hckD : ck < D.length := by omega
          rw [getD_mapX (fun x : ChD => x.2.2) D chZ [] hckD] at hCK hX
          obtain ⟨ac, rfl, hbc, e0⟩ := (Reads.later hch.1 b).ch1 hckD
          have hxm := mem_getDF chZ hckD
          have hpx := hpg _ hxm
          clear hpg hch hxm hbc
          have hCK := hCK.1
          generalize D.getD ck chZ = x at *
          obtain ⟨Ax, cx, pl⟩ := x
          dsimp only at e0 hpx hCK hX
          have HPL := Lib.hid hpx.1
          have hpn := hpx.2
          have RT := Lib.hid (fun (q : Nat) (hq : q < pl.length) => rowsL_take hCK hq)
          have h65a : 0 ≤ AR k := h65.1
          have h65b : AR k + gr ≤ 65536 := by omega
          have hplr := (rowsL_pos hCK.1).2
          have hgr := hCK.2
          have HX := Lib.hid hX
          generalize AR k = a0 at *
          have HCK := Lib.hid hCK
          clear hpx h65 hok hCK hX
          have hDi : (ck : Int) < (D.length : Int) := by omega
          go_wp2_with fail
          clear x0 x1 x2 d0 d1 e0
          go_loopw [10, 8, 12] (fun v a i wr => ∃ (q : Nat) (A : Option Addr) (d : Nat), q ≤ pl.length ∧ i = .int .i64 (q : Int) ∧ v = .slice A q d ∧ a = .int .i64 (a0 + rowsL (pl.take q)) ∧ wr.ownsRow w.heap.size 45 2 (.slice A q d) q (pairs (spansL a0 (pl.take q))) ∧ New w wr) (fun _ _ i _ => pl.length - (intOf i).toNat)
          case atStart => exact ⟨0, none, 0, Nat.zero_le _, rfl, rfl, by simp [rowsL], row_nil, b⟩
          case round =>
            obtain ⟨q, A, d, hq, rfl, rfl, rfl, o, b⟩ := hrel
            by_cases hlq : q < pl.length
            · have FP := fun (W : World) (hW : New w W) => (Reads.later HPL.out hW).page14 hlq
              obtain ⟨ap, rfl, -⟩ := FP _ b
              have FP := Lib.hid (fun (W : World) (hW : New w W) => show W.cell? ⟨(ap.add (q * 14)).block, (ap.add (q * 14)).off + 1, none⟩ = some (.int .i64 (pl.getD q pageZ).2.1) from by
                obtain ⟨ad', e, _, _, f, _⟩ := FP W hW
                injection e with e
                subst e
                exact f)
              obtain ⟨r1, r2, r3⟩ := RT.out q hlq
              have htk := take_snoc pl q pageZ hlq
              have hsn := spansL_snoc a0 (pl.take q) (pl.getD q pageZ)
              rw [← htk] at hsn
              have HS := Lib.hid hsn
              have H2 := Lib.hid r2
              have b65 : a0 + (rowsL (pl.take q) + (pl.getD q pageZ).2.1) ≤ 65536 := by omega
              have b0 : 0 ≤ a0 + (rowsL (pl.take q) + (pl.getD q pageZ).2.1) := by have := ((pageB_most.1 (HCK.out.1 _ (mem_getDF pageZ hlq))).1); omega
              clear r2 r3 htk hsn
              generalize rowsL (pl.take q) = rq at *
              generalize (pl.getD q pageZ).2.1 = rw at *
              have d1 := FP.out _ b
              have z0 := b.size
              have hq6 : q ≤ 65536 := by omega
              go_wp2_with (refine wpList_pushR elP rfl (.tmp 67) (.tmp 77) rfl (W := w) (B := w.heap.size) (base := w.heap.size) (n := q) o rfl rfl b (Nat.le_refl _) z0 rfl (by simp [Value.oneCell']) (by omega) (by simp only [maxLen]; omega) ?_
                           intro A' c' w' _ _ o' g' b' _ _
                           have d1' := FP.out _ b')
              go_roundw
              case rel => exact ⟨q + 1, A', c', by omega, by go_num, rfl, by rw [H2.out]; congr 1; omega, by rw [HS.out, pairs_snoc]; exact o', b'⟩
              case measure => simp [intOf]; omega
            · obtain rfl : q = pl.length := by omega
              rw [List.take_length] at o
              have O := Lib.hid o
              clear o
              go_wp2
              go_ret
              exact ⟨A, pl.length, d, rfl, by rw [HX.out]; exact O.out, b⟩

end Go.Proofs.Ytflaaahcoglflaa
/- The contract of the answer's Place (layer 19). -/

namespace Go.Proofs.Ytflaaahcoglflaa
open Go Go.RowKit Go.Hm
/-- The page asked for is not ahead of page q of chunk j of group k. -/
def NotYet (nl : Nat) (G : List GroupS) (g c p : Int) (k j q : Nat) : Prop :=
  ∀ gk ck pk : Nat, g = (gk : Int) → c = (ck : Int) → p = (pk : Int) → gk < G.length → ck < nl → pk < (pagesAt G gk ck).length → k < gk ∨ (k = gk ∧ (j < ck ∨ (j = ck ∧ q ≤ pk)))
theorem NotYet.zero {nl : Nat} {G : List GroupS} {g c p : Int} : NotYet nl G g c p 0 0 0 := fun gk ck pk _ _ _ _ _ _ => by omega
theorem NotYet.page {nl : Nat} {G : List GroupS} {g c p : Int} {k j q : Nat} (h : NotYet nl G g c p k j q) (hn : ¬ (g = (k : Int) ∧ c = (j : Int) ∧ p = (q : Int))) : NotYet nl G g c p k j (q + 1) := fun gk ck pk e1 e2 e3 h1 h2 h3 => by
  rcases h gk ck pk e1 e2 e3 h1 h2 h3 with a | ⟨a, b | ⟨b, d⟩⟩
  · exact .inl a
  · exact .inr ⟨a, .inl b⟩
  · refine .inr ⟨a, .inr ⟨b, ?_⟩⟩
    rcases Nat.lt_or_ge q pk with e | e
    · exact e
    · exfalso
      have : q = pk := by omega
      subst a b this
      exact hn ⟨e1, e2, e3⟩
theorem NotYet.chunk {nl : Nat} {G : List GroupS} {g c p : Int} {k j : Nat} (h : NotYet nl G g c p k j (pagesAt G k j).length) : NotYet nl G g c p k (j + 1) 0 := fun gk ck pk e1 e2 e3 h1 h2 h3 => by
  rcases h gk ck pk e1 e2 e3 h1 h2 h3 with a | ⟨a, b | ⟨b, d⟩⟩
  · exact .inl a
  · refine .inr ⟨a, ?_⟩
    omega
  · subst a b
    omega
theorem NotYet.group {nl : Nat} {G : List GroupS} {g c p : Int} {k : Nat} (h : NotYet nl G g c p k nl 0) : NotYet nl G g c p (k + 1) 0 0 := fun gk ck pk e1 e2 e3 h1 h2 h3 => by
  rcases h gk ck pk e1 e2 e3 h1 h2 h3 with a | ⟨a, b | ⟨b, d⟩⟩ <;> omega
theorem inB_of {nl ng k j : Nat} (h1 : k < ng) (h2 : j < nl) : inB nl ng (k : Int) (j : Int) = true := by
  unfold inB
  simp only [decide_eq_true_eq]
  omega
noncomputable def placeI (nl : Nat) (G : List GroupS) (g c p : Int) : Int :=
  if endB G.length g c p || (inB nl G.length g c && pgB (pagesAt G g.toNat c.toNat).length p) then placeV G g.toNat c.toNat p.toNat else -1
theorem placeI_at {nl : Nat} {G : List GroupS} {g c p : Int} {k j q : Nat} (h1 : k < G.length) (h2 : j < nl) (h3 : q < (pagesAt G k j).length) (e : g = (k : Int) ∧ c = (j : Int) ∧ p = (q : Int)) : placeI nl G g c p = placeV G k j q := by
  obtain ⟨rfl, rfl, rfl⟩ := e
  unfold placeI
  rw [inB_of h1 h2]
  simp only [Int.toNat_natCast]
  have : pgB (pagesAt G k j).length (q : Int) = true := by unfold pgB; simp only [decide_eq_true_eq]; omega
  rw [this]
  simp
theorem placeI_end {nl : Nat} {G : List GroupS} {g c p : Int} (e : g = (G.length : Int) ∧ c = 0 ∧ p = 0) : placeI nl G g c p = placeV G G.length 0 0 := by
  obtain ⟨rfl, rfl, rfl⟩ := e
  unfold placeI
  have : endB G.length (G.length : Int) 0 0 = true := by unfold endB; simp
  rw [this]
  simp
theorem placeI_no {nl : Nat} {G : List GroupS} {g c p : Int} (h : NotYet nl G g c p G.length 0 0) (e : ¬ (g = (G.length : Int) ∧ c = 0 ∧ p = 0)) : placeI nl G g c p = -1 := by
  unfold placeI
  have h1 : endB G.length g c p = false := by unfold endB; simpa using e
  rw [h1, Bool.false_or]
  split
  · rename_i hh
    exfalso
    rw [Bool.and_eq_true] at hh
    obtain ⟨gk, ck, rfl, rfl, h2, h3⟩ := inB_yes hh.1
    have h4 := hh.2
    unfold pgB at h4
    simp only [decide_eq_true_eq, Int.toNat_natCast] at h4
    obtain ⟨pk, rfl⟩ := Int.eq_ofNat_of_zero_le h4.1
    rcases h gk ck pk rfl rfl rfl h2 h3 (by omega) with a | ⟨a, -⟩ <;> omega
  · rfl
theorem placeF_I (F : FootS) (g c p : Int) : placeF F g c p = if rightF F then placeI F.cols.length F.groups g c p else -1 := by
  unfold placeF placeI
  cases rightF F <;> simp
set_option maxHeartbeats 4000000 in
set_option maxRecDepth 100000 in
theorem rplace_any {w : World} {Ac : Option Addr} {cc : Nat} {L : List ColS} {r : Int} {Ag : Option Addr} {cg : Nat} {G : List GrD} (h : FootIn w Ac cc L Ag G) (hp : ∀ g ∈ G, ∀ x ∈ g.2.2.2, ∀ p ∈ x.2.2, statFine p.2.2) (hr8 : -9223372036854775808 ≤ r ∧ r ≤ 9223372036854775807) {g c p : Int} :
    Calls Try.prog 17 #[footA Ac cc L r Ag cg G, .int .i64 g, .int .i64 c, .int .i64 p] w (NewPost (.int .i64 (placeF (footP L r G) g c p)) w) := by
  have HR := fun (W : World) (hW : New w W) => rfright_any (r := r) (cc := cc) (cg := cg) (h.later hW) hp hr8
  have hX := placeF_I (footP L r G) g c p
  have hF : rightF (footP L r G) = true → FootOk (footP L r G) := fun e => by unfold rightF at e; simpa using e
  have B0 := Blk.new w 25 #[.slice Ac L.length cc, .int .i64 r, .slice Ag G.length cg]
  have b0 : New w (w.alloc (.cells #[.slice Ac L.length cc, .int .i64 r, .slice Ag G.length cg] 25)) := (Below.refl _ _).alloc (Nat.le_refl _) _
  obtain ⟨x0, x1, x2⟩ := ccells B0
  have HG := Lib.hid h.groups
  have HCH := Lib.hid h.chunks
  have HPG := Lib.hid h.pages
  have hfew := h.few
  have hfew2 := h.few2
  clear h hp
  show Calls Try.prog 17 #[.agg #[.slice Ac L.length cc, .int .i64 r, .slice Ag G.length cg], .int .i64 g, .int .i64 c, .int .i64 p] w (NewPost (.int .i64 (placeF (footP L r G) g c p)) w)
  generalize placeF (footP L r G) g c p = X at *
  generalize rightF (footP L r G) = M at *
  have HR : Hid (∀ W, New w W → Calls Try.prog 12 #[.agg #[.slice Ac L.length cc, .int .i64 r, .slice Ag G.length cg]] W (NewPost (.bool M) W)) := Lib.hid HR
  cases M with
  | false =>
    obtain rfl : X = -1 := by rw [hX]; rfl
    clear hX hF
    go_enter Try.func17, Try.ntmps17
    go_wp2_with fail
    refine (HR.out _ b0).mono ?_
    rintro e w1 ⟨rfl, b1⟩
    have b01 := New.trans b0 b1
    clear b0 b1
    go_wp2
    go_ret
    exact ⟨rfl, b01⟩
  | true =>
    have hok := hF rfl
    clear hF
    rw [if_pos rfl] at hX
    unfold footP at hX
    dsimp only at hX
    have HDL := Lib.hid (fun (k : Nat) (hk : k < G.length) => show (G.getD k grZ).2.2.2.length = L.length by
      have := (foot_group hok (k := k) (by unfold footP; simpa using hk)).2.1
      unfold footP at this
      dsimp only at this
      rw [getD_mapX grP G grZ groupZ hk] at this
      unfold grP at this
      simpa using this)
    have hPA := fun (k : Nat) (hk : k < G.length) (j : Nat) (hj : j < (G.getD k grZ).2.2.2.length) => show pagesAt (G.map grP) k j = ((G.getD k grZ).2.2.2.getD j chZ).2.2 by
      unfold pagesAt
      rw [getD_mapX grP G grZ groupZ hk]
      exact getD_mapX (fun x : ChD => x.2.2) (G.getD k grZ).2.2.2 chZ [] hj
    have HPA := Lib.hid hPA
    have VZ := Lib.hid (placeV_zero (G.map grP))
    have VP := Lib.hid (fun (k : Nat) (hk : k < G.length) (j : Nat) (hj : j < L.length) (q : Nat) (hq : q < (pagesAt (G.map grP) k j).length) => placeV_page hok (k := k) (j := j) (q := q) (by unfold footP; simpa using hk) (by unfold footP; exact hj) (by unfold footP; exact hq))
    have VC := Lib.hid (fun (k : Nat) (hk : k < G.length) (j : Nat) (hj : j < L.length) => placeV_chunk hok (k := k) (j := j) (by unfold footP; simpa using hk) (by unfold footP; exact hj))
    have VG := Lib.hid (fun (k : Nat) (hk : k < G.length) => placeV_group hok (k := k) (by unfold footP; simpa using hk))
    unfold footP at VP VC VG
    dsimp only at VP VC VG
    have hGl : (G.map grP).length = G.length := List.length_map ..
    have XA := Lib.hid (fun (k j q : Nat) (h1 : k < G.length) (h2 : j < L.length) (h3 : q < (pagesAt (G.map grP) k j).length) e => hX.trans (placeI_at (nl := L.length) (g := g) (c := c) (p := p) (by rw [hGl]; exact h1) h2 h3 e))
    have XE := Lib.hid (fun (e : g = (G.length : Int) ∧ c = 0 ∧ p = 0) => show X = placeV (G.map grP) G.length 0 0 from by
      rw [← hGl] at e ⊢
      exact hX.trans (placeI_end e))
    have XN := Lib.hid (fun (h : NotYet L.length (G.map grP) g c p G.length 0 0) (e : ¬ (g = (G.length : Int) ∧ c = 0 ∧ p = 0)) => show X = -1 from by
      rw [← hGl] at h e
      exact hX.trans (placeI_no h e))
    have NP := Lib.hid (fun (k j q : Nat) (h : NotYet L.length (G.map grP) g c p k j q) hn => h.page hn)
    have NC := Lib.hid (fun (k j : Nat) (h : NotYet L.length (G.map grP) g c p k j (pagesAt (G.map grP) k j).length) => h.chunk)
    have NG := Lib.hid (fun (k : Nat) (h : NotYet L.length (G.map grP) g c p k L.length 0) => h.group)
    have N0 := Lib.hid (NotYet.zero (nl := L.length) (G := G.map grP) (g := g) (c := c) (p := p))
    generalize NotYet L.length (G.map grP) g c p = NY at *
    generalize hVV : placeV (G.map grP) = V at *
    generalize hPP : pagesAt (G.map grP) = PA at *
    clear hX hok hPA hGl hVV hPP
    go_enter Try.func17, Try.ntmps17
    go_wp2_with fail
    refine (HR.out _ b0).mono ?_
    rintro e w1 ⟨rfl, b1⟩
    have B1 := B0.below b1 B0.lt
    have b01 := New.trans b0 b1
    clear b0 b1 B0 x0 x1 x2 HR
    go_wp2_with fail
    go_loopw [10, 11] (fun a i wr => ∃ k : Nat, k ≤ G.length ∧ i = .int .i64 (k : Int) ∧ a = .int .i64 (V k 0 0) ∧ Hid (NY k 0 0) ∧ Blk wr w.heap.size 25 #[.slice Ac L.length cc, .int .i64 r, .slice Ag G.length cg] ∧ New w wr) (fun _ i _ => G.length - (intOf i).toNat)
    case atStart => exact ⟨0, Nat.zero_le _, rfl, by rw [VZ.out], N0, B1, b01⟩
    case round =>
      obtain ⟨k, hk, rfl, rfl, H, B, b⟩ := hrel
      clear B1 b01 VZ N0
      by_cases hlt : k < G.length
      · obtain ⟨x0, x1, x2⟩ := ccells B
        go_wp2_with fail
        clear x0 x1 x2
        go_loopw [10, 12] (fun a i wr => ∃ j : Nat, j ≤ L.length ∧ i = .int .i64 (j : Int) ∧ a = .int .i64 (V k j 0) ∧ Hid (NY k j 0) ∧ Blk wr w.heap.size 25 #[.slice Ac L.length cc, .int .i64 r, .slice Ag G.length cg] ∧ New w wr) (fun _ i _ => L.length - (intOf i).toNat)
        case atStart => exact ⟨0, Nat.zero_le _, rfl, rfl, H, B, b⟩
        case round =>
          clear B b H
          obtain ⟨j, hj, rfl, rfl, H, B, b⟩ := hrel
          by_cases hlj : j < L.length
          · obtain ⟨x0, x1, x2⟩ := ccells B
            obtain ⟨ad, rfl, hb, d0, d1⟩ := (Reads.later HG.out b).gr2 hlt
            have hgm := mem_getDF grZ hlt
            have hch := HCH.out _ hgm
            have hpg := HPG.out _ hgm
            have hDl := HDL.out k hlt
            have hpa := HPA.out k hlt j (by rw [hDl]; exact hlj)
            have VPj := VP.out k hlt j hlj
            have VCj := Lib.hid (VC.out k hlt j hlj)
            have XAj := XA.out k j
            clear hb hgm
            generalize G.getD k grZ = gg at *
            obtain ⟨gr, Ach, cch, D⟩ := gg
            dsimp only at d0 d1 hch hpg hDl hpa
            have hjD : j < D.length := by omega
            obtain ⟨ac, rfl, hbc, e0⟩ := (Reads.later hch.1 b).ch1 hjD
            have hxm := mem_getDF chZ hjD
            have hpx := hpg _ hxm
            clear hbc hxm hch hpg
            generalize D.getD j chZ = x at *
            obtain ⟨Ax, cx, pl⟩ := x
            dsimp only at e0 hpx hpa
            have HPL := Lib.hid hpx.1
            have hpn := hpx.2
            rw [hpa] at VPj XAj
            have VPj := Lib.hid VPj
            have XAj := Lib.hid XAj
            have NCj := Lib.hid (show NY k j pl.length → NY k (j + 1) 0 by have := NC.out k j; rw [hpa] at this; exact this)
            have VCj : Hid (V k j pl.length = V k (j + 1) 0) := Lib.hid (by have := VCj.out; rw [hpa] at this; exact this)
            have HDl := Lib.hid hDl
            clear hpx hpa hDl
            go_wp2_with fail
            clear x0 x1 x2 d0 d1 e0
            go_loopw [10, 14] (fun a i wr => ∃ q : Nat, q ≤ pl.length ∧ i = .int .i64 (q : Int) ∧ a = .int .i64 (V k j q) ∧ Hid (NY k j q) ∧ Blk wr w.heap.size 25 #[.slice Ac L.length cc, .int .i64 r, .slice (some ad) G.length cg] ∧ New w wr) (fun _ i _ => pl.length - (intOf i).toNat)
            case atStart => exact ⟨0, Nat.zero_le _, rfl, rfl, H, B, b⟩
            case round =>
              clear B b H
              obtain ⟨q, hq, rfl, rfl, H, B, b⟩ := hrel
              by_cases hlq : q < pl.length
              · by_cases hm : g = (k : Int) ∧ c = (j : Int) ∧ p = (q : Int)
                · have hX := XAj.out q hlt hlj hlq hm
                  obtain ⟨rfl, rfl, rfl⟩ := hm
                  have HX := Lib.hid hX
                  clear hX
                  go_wp2
                  go_ret
                  exact ⟨by rw [HX.out]; rfl, b⟩
                · have hN := Lib.hid (NP.out k j q H.out hm)
                  obtain ⟨ap, rfl, hbp, d0, d1, -⟩ := (Reads.later HPL.out b).page14 hlq
                  obtain ⟨v1, v2, v3, v4⟩ := VPj.out q hlq
                  have vs : V k j q + (pl.getD q pageZ).1 ≤ 1073741824 := by omega
                  have vs0 : 0 ≤ V k j q + (pl.getD q pageZ).1 := by omega
                  have H2 := Lib.hid v2
                  clear v2 v3 v4 hbp
                  generalize (pl.getD q pageZ).1 = sz at *
                  have hcs : ((k : Int) == g) = false ∨ (((k : Int) == g) = true ∧ ((j : Int) == c) = false) ∨ (((k : Int) == g) = true ∧ ((j : Int) == c) = true ∧ ((q : Int) == p) = false) := by
                    by_cases e1 : (k : Int) = g
                    · by_cases e2 : (j : Int) = c
                      · refine .inr (.inr ⟨by simpa using e1, by simpa using e2, by simpa using fun e3 => hm ⟨e1.symm, e2.symm, e3.symm⟩⟩)
                      · exact .inr (.inl ⟨by simpa using e1, by simpa using e2⟩)
                    · exact .inl (by simpa using e1)
                  clear hm
                  rcases hcs with t1 | ⟨t1, t2⟩ | ⟨t1, t2, t3⟩
                  all_goals
                    go_wp2_with fail
                    go_roundw
                    case rel => exact ⟨q + 1, by omega, by go_num, by rw [H2.out], hN, B, b⟩
                    case measure => simp [intOf]; omega
              · obtain rfl : q = pl.length := by omega
                have hN := Lib.hid (NCj.out H.out)
                go_wp2
                go_roundw
                case rel => exact ⟨j + 1, by omega, by go_num, by rw [VCj.out], hN, B, b⟩
                case measure => simp [intOf]; omega
          · obtain rfl : j = L.length := by omega
            have hN := Lib.hid (NG.out k H.out)
            have hvg := Lib.hid (VG.out k hlt)
            obtain ⟨x0, x1, x2⟩ := ccells B
            go_wp2
            go_roundw
            case rel => exact ⟨k + 1, by omega, by go_num, by rw [hvg.out], hN, B, b⟩
            case measure => simp [intOf]; omega
      · obtain rfl : k = G.length := by omega
        obtain ⟨x0, x1, x2⟩ := ccells B
        by_cases he : g = (G.length : Int) ∧ c = 0 ∧ p = 0
        · have hX := Lib.hid (XE.out he)
          obtain ⟨rfl, rfl, rfl⟩ := he
          go_wp2
          go_ret
          exact ⟨by rw [hX.out]; rfl, b⟩
        · have hX := Lib.hid (XN.out H.out he)
          have hcs : (g == (G.length : Int)) = false ∨ ((g == (G.length : Int)) = true ∧ (c == 0) = false) ∨ ((g == (G.length : Int)) = true ∧ (c == 0) = true ∧ (p == 0) = false) := by
            by_cases e1 : g = (G.length : Int)
            · by_cases e2 : c = 0
              · refine .inr (.inr ⟨by simpa using e1, by simpa using e2, by simpa using fun e3 => he ⟨e1, e2, e3⟩⟩)
              · exact .inr (.inl ⟨by simpa using e1, by simpa using e2⟩)
            · exact .inl (by simpa using e1)
          clear he
          rcases hcs with t1 | ⟨t1, t2⟩ | ⟨t1, t2, t3⟩
          all_goals
            go_wp2
            go_ret
            exact ⟨by rw [hX.out]; rfl, b⟩

end Go.Proofs.Ytflaaahcoglflaa
/- How many bytes a footer has at most: plain. -/

namespace Go.Proofs.Ytflaaahcoglflaa
open Go Go.RowKit Go.Hm
theorem chunksL_len {rows : Int} (hr : 0 ≤ rows) : ∀ (cs : List ColS) (ls : List (List PageS)), (∀ i, i < cs.length → i < ls.length → ChunkOk (cs.getD i colZ).2.1 (cs.getD i colZ).2.2 (ls.getD i []) rows) → rows ≤ 65536 → (chunksL cs ls).length ≤ cs.length * (10 + rows.toNat * 140020)
  | [], ls, _, _ => by simp [chunksL]
  | c :: cs, [], _, _ => by simp [chunksL]
  | c :: cs, l :: ls, h, hm => by
    have ih := chunksL_len hr cs ls (fun i hi hj => by have := h (i + 1) (by simp; omega) (by simp; omega); simpa using this) hm
    have h0 := h 0 (by simp) (by simp)
    simp only [List.getD_cons_zero] at h0
    have h1 := rowsL_pos h0.1
    have h2 := h0.2
    have h3 := flat_pages (t := c.2.1) l (fun p hp => by have := (pageB_most.1 (h0.1 p hp)).1; omega)
    have h4 := vp_len10 (n := l.length) (by omega)
    have h5 : l.length * 140020 ≤ rows.toNat * 140020 := Nat.mul_le_mul_right _ (by omega)
    have h6 : (cs.length + 1) * (10 + rows.toNat * 140020) = cs.length * (10 + rows.toNat * 140020) + (10 + rows.toNat * 140020) := Nat.succ_mul _ _
    simp only [chunksL, chunkL, List.length_append, List.length_cons]
    omega
theorem groupsL_len {cols : List ColS} (hc : cols.length ≤ 64) : ∀ (gs : List GroupS), (∀ g ∈ gs, GroupOk cols g ∧ g.1 ≤ 65536) → (gs.flatMap (groupL cols)).length ≤ gs.length * 700 + ((gs.map (fun g : GroupS => g.1)).sum).toNat * 8961280
  | [], _ => by simp
  | g :: gs, h => by
    have ih := groupsL_len hc gs (fun q hq => h q (by simp [hq]))
    obtain ⟨⟨h1, h2, h3⟩, h4⟩ := h g (by simp)
    have h5 := chunksL_len (rows := g.1) (by omega) cols g.2 (fun i hi _ => h3 i hi) h4
    have h6 := vp_len10 (n := g.1.toNat) (by omega)
    have h7 : cols.length * (10 + g.1.toNat * 140020) ≤ 64 * (10 + g.1.toNat * 140020) := Nat.mul_le_mul_right _ hc
    have h8 := sum_nonneg (fun g : GroupS => g.1) gs (fun q hq => by have := (h q (by simp [hq])).1.1; omega)
    simp only [List.flatMap_cons, List.length_append, groupL, List.length_cons, List.map_cons, List.sum_cons]
    omega
theorem footL_len {F : FootS} (h : FootOk F) : (footL F).length ≤ 700000000000 := by
  obtain ⟨a1, a2, a3, a4, a5⟩ := h
  have h0 := rows_sum a2
  have h1 := groupsL_len a1.1 F.groups (fun g hg => ⟨a2 g hg, by have := h0.2 g hg; omega⟩)
  have h2 := catC_few a1
  have h3 := vp_len10 (n := F.rows.toNat) (by omega)
  have h4 := vp_len10 (n := F.groups.length) (by omega)
  rw [a3] at h1
  simp only [footL, List.length_append]
  omega
theorem fine_data {w : World} {Ac : Option Addr} {cc : Nat} {L : List ColS} {r : Int} {Ag : Option Addr} {G : List GrD} (h : FootIn w Ac cc L Ag G) (hp : ∀ g ∈ G, ∀ x ∈ g.2.2.2, ∀ p ∈ x.2.2, PageFine p) : FootData (footP L r G) := by
  refine ⟨fun c hc => (h.fine c hc).1, fun g hg l hl p hpm => ?_⟩
  obtain ⟨g', hg', rfl⟩ := List.mem_map.1 hg
  obtain ⟨x, hx, rfl⟩ := List.mem_map.1 hl
  have := hp g' hg' x hx p hpm
  exact ⟨CellFine.data this.1.1.1, CellFine.data this.1.1.2⟩

end Go.Proofs.Ytflaaahcoglflaa
