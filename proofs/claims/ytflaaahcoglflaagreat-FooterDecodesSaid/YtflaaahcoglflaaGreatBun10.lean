/- Texts merged, for a claim has at most 60 files: FooS, FooAB. -/
import Derived.Test.YtflaaahcoglflaaGreatBun7
import Derived.Test.YtflaaahcoglflaaGreatBun8
import Derived.Test.YtflaaahcoglflaaGreatBun9
/- The contract of the answer's Right (layer 19). -/

namespace Go.Hm
open Go Go.RowKit
theorem FootTo.no_rowsR {L : List ColS} {G : List GroupS} {k : Nat} {rows size r : Int} (h : FootTo L G k rows size) (hk : k < G.length) (hb : (G.getD k groupZ).1 < 1 ∨ r - rows < (G.getD k groupZ).1 ∨ (G.getD k groupZ).2.length ≠ L.length) : ¬ FootOk ⟨L, r, G⟩ := fun hF => by
  have hg := hF.2.1 (G.getD k groupZ) (mem_getDF groupZ hk)
  have h1 := sum_take_succ (fun g : GroupS => g.1) G k groupZ hk
  have h2 := sum_take_le (fun g : GroupS => g.1) G (k + 1) (fun g hg => by have := (hF.2.1 g hg).1; omega)
  have h3 := h.rows_
  have h4 := hF.2.2.1
  dsimp only at h4
  rcases hb with hb | hb | hb
  · have := hg.1; omega
  · omega
  · exact hb hg.2.1
/-- What the answer's chunk tells of a chunk of a group. -/
theorem chunk_tells {t : Int} {nu : Bool} {l : List PageS} {gr sz : Int} (hg : 1 ≤ gr ∧ gr ≤ 65536) (hs : 0 ≤ sz) :
    ((rchunkS t nu l 0 0).1 = gr → ChunkOk t nu l gr ∧ (rchunkS t nu l 0 0).2 = sizesL l) ∧ ((rchunkS t nu l 0 0).1 ≠ gr → ¬ ChunkOk t nu l gr ∨ 1073741824 < sz + sizesL l) := by
  constructor
  · intro e
    rcases rchunkS_or (t := t) (nu := nu) l 0 0 with h | ⟨h1, h2⟩
    · rw [h] at e
      dsimp only at e
      omega
    · rw [h2] at e ⊢
      dsimp only at e ⊢
      exact ⟨⟨h1, by omega⟩, by omega⟩
  · intro e
    by_cases hc : ChunkOk t nu l gr
    · refine .inr ?_
      rcases Int.lt_or_le 1073741824 (sz + sizesL l) with h | h
      · exact h
      · exfalso
        have hr := hc.2
        rw [rchunkS_yes l 0 0 hc.1 (by omega) (by omega)] at e
        dsimp only at e
        omega
    · exact .inl hc

end Go.Hm

namespace Go.Proofs.YtflaaahcoglflaaGreat
open Go.RowKit Go.Hm
set_option maxHeartbeats 4000000 in
set_option maxRecDepth 100000 in
theorem rfright_any {w : World} {Ac : Option Addr} {cc : Nat} {L : List ColS} {r : Int} {Ag : Option Addr} {cg : Nat} {G : List GrD} (h : FootIn w Ac cc L Ag G) (hp : ∀ g ∈ G, ∀ x ∈ g.2.2.2, ∀ p ∈ x.2.2, statFine p.2.2) (hr8 : -9223372036854775808 ≤ r ∧ r ≤ 9223372036854775807) :
    Calls Tryz.prog 22 #[footA Ac cc L r Ag cg G] w (NewPost (.bool (rightF (footP L r G))) w) := by
  have CK := Lib.hid (fun (W : World) (hW : New w W) => rcols_any (c := cc) (Reads.later h.cols hW) h.fine h.few)
  have HG := Lib.hid h.groups
  have HL := Lib.hid h.cols
  have hfew := h.few
  have hfew2 := h.few2
  have HCH := Lib.hid h.chunks
  have HPG := Lib.hid h.pages
  have HP := Lib.hid hp
  have HY := Lib.hid (fun e : FootOk (footP L r G) => rightF_yes e)
  have HN := Lib.hid (fun e : ¬ FootOk (footP L r G) => rightF_no e)
  have hz : FootTo L (G.map grP) 0 0 0 := FootTo.zero _ _
  have HZ := Lib.hid hz
  have hbig : FootOk (footP L r G) → 0 ≤ r ∧ r ≤ 65536 := fun e => by
    have h1 := e.2.2.1
    have h2 := e.2.2.2.1
    have h3 := sum_nonneg (fun g : GroupS => g.1) (footP L r G).groups (fun g hg => by have := (e.2.1 g hg).1; omega)
    rw [h1] at h3
    exact ⟨h3, h2⟩
  clear h hp hz
  generalize rightF (footP L r G) = M at *
  unfold footP at HY HN hbig
  have HMap := Lib.hid (fun (k : Nat) (hk : k < G.length) => getD_mapX grP G (k := k) grZ groupZ hk)
  have HLen := Lib.hid (show (G.map grP).length = G.length from List.length_map ..)
  generalize hGP : G.map grP = GP at *
  have hck := colsCk_iff L
  clear hGP
  show Calls Tryz.prog 22 #[.agg #[.slice Ac L.length cc, .int .i64 r, .slice Ag G.length cg]] w (NewPost (.bool M) w)
  have B0 := Blk.new w 27 #[.slice Ac L.length cc, .int .i64 r, .slice Ag G.length cg]
  have b0 : New w (w.alloc (.cells #[.slice Ac L.length cc, .int .i64 r, .slice Ag G.length cg] 27)) := (Below.refl _ _).alloc (Nat.le_refl _) _
  obtain ⟨x0, x1, x2⟩ := ccells B0
  go_enter Tryz.func22, Tryz.ntmps22
  go_wp2_with fail
  refine (CK.out _ b0).mono ?_
  rintro e w1 ⟨rfl, b1⟩
  have B1 := B0.below b1 B0.lt
  have b01 := New.trans b0 b1
  clear CK B0 b0 b1 x0 x1 x2
  obtain ⟨x0, x1, x2⟩ := ccells B1
  by_cases hk0 : colsCk L = 0
  · have hcok := hck.1 hk0
    have HCO := Lib.hid hcok
    rw [hk0]
    clear hck hk0 hcok
    by_cases hr0 : r < 0
    · have hM := Lib.hid (HN.out (fun e => by have := hbig e; omega))
      clear HY HN hbig
      go_wp2
      go_ret
      exact ⟨by rw [hM.out]; rfl, b01⟩
    by_cases hr1 : 65536 < r
    · have hM := Lib.hid (HN.out (fun e => by have := hbig e; omega))
      clear HY HN hbig
      go_wp2
      go_ret
      exact ⟨by rw [hM.out]; rfl, b01⟩
    clear hbig
    go_wp2_with fail
    clear x0 x1 x2
    go_loopw [4, 5, 6] (fun a s i wr => ∃ (k : Nat) (rows size : Int), k ≤ G.length ∧ i = .int .i64 (k : Int) ∧ a = .int .i64 rows ∧ s = .int .i64 size ∧ Hid (FootTo L GP k rows size) ∧ (0 ≤ rows ∧ rows ≤ 65536) ∧ (0 ≤ size ∧ size ≤ 1073741824)
      ∧ Blk wr w.heap.size 27 #[.slice Ac L.length cc, .int .i64 r, .slice Ag G.length cg] ∧ New w wr) (fun _ _ i _ => G.length - (intOf i).toNat)
    case atStart => exact ⟨0, 0, 0, Nat.zero_le _, rfl, rfl, rfl, HZ, by omega, by omega, B1, b01⟩
    case round =>
      obtain ⟨k, rows, size, hk, rfl, rfl, rfl, H, hrw, hsz, B, b⟩ := hrel
      clear HZ B1 b01
      by_cases hlt : k < G.length
      · obtain ⟨ad, rfl, hb, d0, d1⟩ := (Reads.later HG.out b).gr2 hlt
        have hgm := mem_getDF grZ hlt
        have hch := HCH.out _ hgm
        have hpg := HPG.out _ hgm
        have hpp := HP.out _ hgm
        have hmap := HMap.out k hlt
        have hltP : k < GP.length := by rw [HLen.out]; exact hlt
        generalize G.getD k grZ = g at *
        obtain ⟨gr, Ach, cch, D⟩ := g
        dsimp only at d0 d1 hch hpg hpp
        unfold grP at hmap
        dsimp only at hmap
        have hl2 : (GP.getD k groupZ).2.length = D.length := by rw [hmap]; exact List.length_map ..
        have hg1 : (GP.getD k groupZ).1 = gr := by rw [hmap]
        have HM2 := Lib.hid (fun (c : Nat) (hc : c < D.length) => show (GP.getD k groupZ).2.getD c [] = (D.getD c chZ).2.2 by rw [hmap]; exact getD_mapX (fun x : ChD => x.2.2) D chZ [] hc)
        have NR := Lib.hid (fun hb => HN.out (H.out.no_rowsR (r := r) hltP hb))
        have EN := Lib.hid (fun h1 h2 h3 => H.out.enter h1 h2 h3)
        rw [hl2, hg1] at NR EN
        have HL2 := Lib.hid hl2
        have HG1 := Lib.hid hg1
        have HCHk := Lib.hid hch.1
        have hchl := hch.2
        have HPGk := Lib.hid hpg
        have HPPk := Lib.hid hpp
        have HLTP := Lib.hid hltP
        clear hmap hl2 hg1 hch hpg hpp hgm hb H hltP
        have ha : New wr (wr.alloc (.cells #[.int .i64 gr, .slice Ach D.length cch] 45)) := (Below.refl _ _).alloc (Nat.le_refl _) _
        have BG := Blk.new wr 45 #[.int .i64 gr, .slice Ach D.length cch]
        have B2 := B.below ha B.lt
        have b2 := New.trans b ha
        obtain ⟨x0, x1, x2⟩ := ccells B
        obtain ⟨y0, y1, y2⟩ := ccells B2
        obtain ⟨z0, z1⟩ := cells2 BG
        clear B b ha
        by_cases h1 : gr < 1
        · have hM := Lib.hid (NR.out (.inl h1))
          clear NR EN
          go_wp2
          go_ret
          exact ⟨by rw [hM.out]; rfl, b2⟩
        by_cases h2 : r - rows < gr
        · have hM := Lib.hid (NR.out (.inr (.inl h2)))
          clear NR EN
          go_wp2
          go_ret
          exact ⟨by rw [hM.out]; rfl, b2⟩
        by_cases h3 : D.length = L.length
        · have t3 : ((D.length : Int) != (L.length : Int)) = false := by simp; omega
          have hE := EN.out (by omega) (by omega) h3
          have HE := Lib.hid hE
          have hDL : D.length ≤ L.length := by omega
          have H3 := Lib.hid h3
          clear NR EN hE h3
          go_wp2_with fail
          clear y0 y1 y2 z0 z1 d0 d1 t3 x0 x1 x2
          generalize wr.heap.size = gB at *
          go_loopw [5, 8] (fun s i wr => ∃ (c : Nat) (sz : Int), c ≤ D.length ∧ i = .int .i64 (c : Int) ∧ s = .int .i64 sz ∧ Hid (ChunkTo L GP k c (rows + gr) sz) ∧ (0 ≤ sz ∧ sz ≤ 1073741824)
            ∧ Blk wr w.heap.size 27 #[.slice Ac L.length cc, .int .i64 r, .slice (some ad) G.length cg] ∧ Blk wr gB 45 #[.int .i64 gr, .slice Ach D.length cch] ∧ New w wr) (fun _ i _ => D.length - (intOf i).toNat)
          case atStart => exact ⟨0, size, Nat.zero_le _, rfl, rfl, HE, hsz, B2, BG, b2⟩
          case round =>
            obtain ⟨c, sz, hc, rfl, rfl, H, hsz2, B, BGq, bq⟩ := hrel
            clear HE B2 BG b2
            by_cases hlc : c < D.length
            · have hcL : c < L.length := by omega
              obtain ⟨ac, rfl, hbc, e0⟩ := (Reads.later HCHk.out bq).ch1 hlc
              obtain ⟨al, rfl, hbl, -⟩ := (Reads.later HL.out bq).colT hcL
              have hxm := mem_getDF chZ hlc
              have hpx := HPGk.out _ hxm
              have hsx := HPPk.out _ hxm
              have hm2 := HM2.out c hlc
              have NC := Lib.hid (fun hb => HN.out (H.out.no_chunk (r := r) HLTP.out (by rw [HL2.out]; exact hlc) hb))
              have NX := Lib.hid (fun h1 h2 => H.out.next (by rw [HL2.out]; exact hlc) h1 h2)
              rw [hm2, HG1.out] at NC NX
              have FC := Lib.hid (fun (W : World) (hW : New w W) => show (W.cell? (al.add (c * 3)) = some (.string (bstr (L.getD c colZ).1)) ∧ W.cell? ⟨(al.add (c * 3)).block, (al.add (c * 3)).off + 1, none⟩ = some (.int .i64 (L.getD c colZ).2.1) ∧ W.cell? ⟨(al.add (c * 3)).block, (al.add (c * 3)).off + 2, none⟩ = some (.bool (L.getD c colZ).2.2)) from by
                obtain ⟨al', e, _, f⟩ := (Reads.later HL.out hW).colT hcL
                injection e with e
                subst e
                exact f)
              have FE := Lib.hid (fun (W : World) (hW : New w W) => show W.cell? (ac.add c) = some (.slice (D.getD c chZ).1 (D.getD c chZ).2.2.length (D.getD c chZ).2.1) from by
                obtain ⟨al', e, _, f⟩ := (Reads.later HCHk.out hW).ch1 hlc
                injection e with e
                subst e
                exact f)
              generalize D.getD c chZ = x at *
              obtain ⟨Ax, cx, pl⟩ := x
              dsimp only at e0 hpx hsx NC NX FE
              have CSZ := fun (W : World) (hW : New w W) => rchunk_any (c := L.getD c colZ) (cap := cx) (Reads.later hpx.1 hW) hsx hpx.2
              have hct := chunk_tells (t := (L.getD c colZ).2.1) (nu := (L.getD c colZ).2.2) (l := pl) (gr := gr) (sz := sz) (by omega) (by omega)
              have hbd := rchunkS_bound (t := (L.getD c colZ).2.1) (nu := (L.getD c colZ).2.2) pl 0 0 (by omega) (by omega) (by omega) (by omega)
              generalize L.getD c colZ = col at *
              obtain ⟨nm, t, nu⟩ := col
              dsimp only at hct hbd NC NX CSZ
              unfold RSizePost at CSZ
              generalize rchunkS t nu pl 0 0 = S at *
              obtain ⟨sn, sm⟩ := S
              dsimp only at hct hbd CSZ
              have CSZ : Hid (∀ W, New w W → Calls Tryz.prog 41 #[.agg #[.string (bstr nm), .int .i64 t, .bool nu], .slice Ax pl.length cx] W (fun e w' => e = .returned (.tuple #[.int .i64 sn, .int .i64 sm]) ∧ New W w')) := Lib.hid CSZ
              have HCT := Lib.hid hct
              clear hct hpx hsx hm2 hxm hbc hbl H
              obtain ⟨y0, y1, y2⟩ := ccells B
              obtain ⟨z0, z1⟩ := cells2 BGq
              dsimp only at FC
              go_wp2_with fail
              refine wp_region_up New [(true, 0), (true, 1), (true, 2), (true, 3), (true, 4), (true, 5), (true, 6), (true, 7), (true, 8), (true, 9), (false, 10), (true, 11), (true, 12), (true, 13), (true, 14), (true, 15)]
                New.refl New.trans (by kernel_rfl) (by kernel_rfl) (by kernel_rfl) (by kernel_rfl) ?_
              have F := Lib.hid (fun (W : World) (hW : New wr W) => And.intro (B.below hW B.lt) (BGq.below hW BGq.lt))
              have hU := New.drew wr
              clear y0 y1 y2 z0 z1 e0
              repeat (first
                | (refine up_quiet rfl rfl (v := ?_) (fun W hQ => ?_) ?_; rotate_left; (obtain ⟨f0, f1, f2⟩ := FC.out W (New.trans bq (New.trans hU hQ)); have fe := FE.out W (New.trans bq (New.trans hU hQ)); obtain ⟨F1, F2⟩ := F.out W (New.trans hU hQ); obtain ⟨y0, y1, y2⟩ := ccells F1; obtain ⟨z0, z1⟩ := cells2 F2; clear F1 F2; go_simp <;> with_reducible rfl); simp only [Act.put, List.setIfInBounds_toArray, List.set_cons_zero, List.set_cons_succ]))
              refine up_call rfl rfl (fun K0 hK0 => ?_)
              go_simp
              (with_reducible refine (CSZ.out _ (New.trans bq hU)).mono ?_)
              rintro e u ⟨rfl, bu⟩
              refine hK0 _ _ bu ?_
              replace hU := New.trans hU bu
              clear hK0 bu
              repeat (first
                | (refine up_quiet rfl rfl (v := ?_) (fun W hQ => ?_) ?_; rotate_left; (go_simp <;> with_reducible rfl); simp only [Act.put, List.setIfInBounds_toArray, List.set_cons_zero, List.set_cons_succ]))
              refine up_nil ?_
              obtain ⟨B3, BG3⟩ := F.out _ hU
              have b3 := New.trans bq hU
              clear F FC FE CSZ hU B BGq bq
              obtain ⟨z0, z1⟩ := cells2 BG3
              by_cases hn : sn = gr
              · obtain ⟨hco, hsn⟩ := HCT.out.1 hn
                have t1 : (sn != gr) = false := by simpa using hn
                clear HCT
                by_cases hbig : 1073741824 < sz + sm
                · have hM := Lib.hid (NC.out (.inr (by rw [← hsn]; exact hbig)))
                  clear NC NX hco hsn hn
                  go_wp2
                  go_ret
                  exact ⟨by rw [hM.out]; rfl, b3⟩
                · have hN := Lib.hid (NX.out hco (by rw [← hsn]; omega))
                  have hsm : 0 ≤ sm := by rw [hsn]; exact (chunk_nonneg hco).1
                  rw [← hsn] at hN
                  clear NC NX hco hsn hn
                  go_wp2
                  go_roundw
                  case rel => exact ⟨c + 1, sz + sm, by omega, by go_num, rfl, hN, by omega, B3, BG3, b3⟩
                  case measure => simp [intOf]; omega
              · have hM := Lib.hid (NC.out (HCT.out.2 hn))
                have t1 : (sn != gr) = true := by simpa using hn
                clear NC NX HCT hn
                go_wp2
                go_ret
                exact ⟨by rw [hM.out]; rfl, b3⟩
            · obtain rfl : c = D.length := by omega
              have hLv := Lib.hid (H.out.leave (by rw [HL2.out]) HLTP.out)
              have hrr := H.out.most
              rw [HG1.out] at hrr
              clear H
              obtain ⟨z0, z1⟩ := cells2 BGq
              go_wp2
              go_roundw
              case rel => exact ⟨k + 1, rows + gr, sz, by omega, by go_num, rfl, rfl, hLv, by omega, hsz2, B, bq⟩
              case measure => simp [intOf]; omega
        · have t3 : ((D.length : Int) != (L.length : Int)) = true := by simp; omega
          have hM := Lib.hid (NR.out (.inr (.inr h3)))
          clear NR EN h3
          go_wp2
          go_ret
          exact ⟨by rw [hM.out]; rfl, b2⟩
      · obtain rfl : k = G.length := by omega
        have hY := H.out
        rw [← HLen.out] at hY
        have hY := hY.yes (r := r) HCO.out
        obtain ⟨x0, x1, x2⟩ := ccells B
        by_cases he : rows = r
        · have hM := Lib.hid (HY.out (hY.2 he))
          have t1 : (rows == r) = true := by simpa using he
          clear hY HY HN H he
          go_wp2
          go_ret
          exact ⟨by rw [hM.out]; rfl, b⟩
        · have hM := Lib.hid (HN.out (fun hF => he (hY.1 hF)))
          have t1 : (rows == r) = false := by simpa using he
          clear hY HY HN H he
          go_wp2
          go_ret
          exact ⟨by rw [hM.out]; rfl, b⟩
  · have hM := Lib.hid (HN.out (fun hF => hk0 (hck.2 hF.1)))
    have t1 : (colsCk L != 0) = true := by simpa using hk0
    clear HY HN hck hk0
    generalize colsCk L = ck at *
    go_wp2
    go_ret
    exact ⟨by rw [hM.out]; rfl, b01⟩

end Go.Proofs.YtflaaahcoglflaaGreat
/- The contract of the answer's Decode (layer 19). -/

namespace Go.Proofs.YtflaaahcoglflaaGreat
open Go Go.RowKit Go.Hm
theorem chunksR_take_none {m : Int} : ∀ (k : Nat) (cs : List ColS) (S : St), (chunksR m (cs.take k) S).2 = none → (chunksR m cs S).2 = none
  | 0, cs, S, h => by
    have : S = none := h
    rw [this, chunksR_none]
  | k + 1, [], S, h => h
  | k + 1, c :: cs, S, h => by
    simp only [List.take_succ_cons, chunksR] at h ⊢
    exact chunksR_take_none k cs _ h
theorem foot_in {w : World} {B cc d : Nat} {Ac A : Option Addr} {L : List ColS} {G : List GrD} (oC : w.ownsRow B 39 3 (.slice Ac L.length cc) L.length (recs colV L)) (GO : GrOwn w B A d G) (hf : ∀ x ∈ L, (∀ z ∈ x.1, z < 256) ∧ x.1.length ≤ 140737488351232) (hc : L.length ≤ cc) (hl : L.length ≤ 64) (hg : G.length ≤ 65536)
    (hs : ∀ x ∈ G, x.2.2.2.length ≤ 64 ∧ ∀ y ∈ x.2.2.2, y.2.2.length ≤ 65536) : FootIn w Ac cc L A G :=
  ⟨Reads.of_own oC, hf, hc, by omega, Reads.of_own GO.row, by omega, fun x hx => ⟨Reads.of_own (GO.chunks x hx).row, by have := (hs x hx).1; omega⟩, fun x hx y hy => ⟨Reads.of_own ((GO.chunks x hx).pages y hy), by have := (hs x hx).2 y hy; omega⟩⟩
theorem row_up {w : World} {base b' sz n : Nat} {e : TypeId} {v : Value} {xs : List Value} (h : w.ownsRow base e sz v n xs) (hT : ∀ x ∈ rowT v, b' ≤ x) : w.ownsRow b' e sz v n xs := by
  refine ⟨h.1, ?_⟩
  rcases h.2 with hn | ⟨g, cap, cur, rfl, hbg, rest⟩
  · exact .inl hn
  · exact .inr ⟨g, cap, cur, rfl, hT g (by simp [rowT, Value.ownBlock]), rest⟩
/-- What is known of a group's chunks, however reading went. -/
def ChSane (D : List ChD) : Prop := ∀ y ∈ D, y.2.2.length ≤ 65536 ∧ ∀ p ∈ y.2.2, statData p.2.2
def GrSane (G : List GrD) : Prop := ∀ x ∈ G, x.2.2.2.length ≤ 64 ∧ ChSane x.2.2.2
set_option maxHeartbeats 8000000 in
set_option maxRecDepth 100000 in
theorem rfdecode_any {w : World} {A : Option Addr} {m c : Nat} {b : List Nat} (h : Reads w w.heap.size 1 A m (nums .u8 b)) (h8 : ∀ x ∈ b, x < 256) (hm : m ≤ 140737488351232) (hmc : m ≤ c) (hcx : c ≤ maxLen) :
    Calls Tryz.prog 6 #[.slice A m c] w (OptF (footO (fun _ => 65536) b) w) := by
  obtain rfl : m = b.length := h.len
  have hok0 : St.ok (some b) := St.ok_some h8
  obtain ⟨hf1, hf2⟩ := getC_fine hok0
  have hok1 := getC_ok hok0
  have hsub1 := getC_sub hok0
  have ha : New w (w.alloc (.cells #[.slice none 0 0, .int .i64 0, .slice none 0 0] 27)) := (Below.refl _ _).alloc (Nat.le_refl _) _
  have BZ := Blk.new w 27 #[.slice none 0 0, .int .i64 0, .slice none 0 0]
  have C0 := RCurS.new (Reads.later h ha) hmc hcx h8
  obtain ⟨M, hM⟩ : ∃ M, M = footO (fun _ => 65536) b := ⟨_, rfl⟩
  rw [← hM]
  unfold footO footG footN footC at hM
  have hle2 := lenS_le (m := 65536) (getC (some b)).2 (by omega) hok1
  have hok2 := lenS_ok (m := 65536) hok1
  have hsub2 := lenS_sub (m := 65536) hok1
  have HF1 := Lib.hid hf1
  have HM := Lib.hid hM
  have GC := fun (W : World) (B g : Nat) (hs : RCurS W B g (some b)) => rsget_any hs
  clear h hM hf1 hok0
  generalize getC (some b) = H at *
  obtain ⟨L, SC⟩ := H
  dsimp only at hok1 hsub1 hf2 hle2 hok2 hsub2 HF1 HM GC
  have L1 := fun (W : World) (B g : Nat) (hs : RCurS W B g SC) => rlenS_any (m := 65536) hs (by omega) (by omega)
  generalize lenS 65536 SC = H at *
  obtain ⟨R, SN⟩ := H
  dsimp only at hle2 hok2 hsub2 HM L1
  have hle3 := lenS_le (m := 65536) SN (by omega) hok2
  have hok3 := lenS_ok (m := 65536) hok2
  have hsub3 := lenS_sub (m := 65536) hok2
  have L2 := fun (W : World) (B g : Nat) (hs : RCurS W B g SN) => rlenS_any (m := 65536) hs (by omega) (by omega)
  generalize lenS 65536 SN = H at *
  obtain ⟨N, Sn⟩ := H
  dsimp only at hle3 hok3 hsub3 HM L2
  simp only [Option.getD_some] at hsub1
  have HGC := Lib.hid GC
  have HL1 := Lib.hid L1
  have HL2 := Lib.hid L2
  have ha2 : New w ((w.alloc (.cells #[.slice none 0 0, .int .i64 0, .slice none 0 0] 27)).alloc (.cells #[.slice A b.length c, .bool false] 61)) := New.trans ha ((Below.refl _ _).alloc (Nat.le_refl _) _)
  have BZ1 := BZ.alloc (.cells #[.slice A b.length c, .bool false] 61)
  have P1 := HGC.out _ _ _ C0
  have hgl := C0.lt
  simp only [World.size_alloc] at P1 hgl
  have P1 := Lib.hid P1
  clear GC L1 L2 hok1 hok2 BZ ha C0
  go_enter Tryz.func6, Tryz.ntmps6
  go_wp2_with fail
  refine P1.out.mono ?_
  rintro e w2 ⟨Ac, nc, cc, rfl, hcc, oC, s2, g2⟩
  obtain rfl : nc = L.length := (Reads.of_own oC).lenC
  simp only [World.size_alloc] at oC
  have hz2 := g2.size
  simp only [World.size_alloc] at hz2
  have BZ2 := BZ1.grown g2 (by intro e; injection e with e; omega)
  have b02 := Far.below ha2 g2 (by omega) (Nat.le_refl _)
  generalize hgdef : w.heap.size + 1 = g at *
  have hgw : w.heap.size < g := by omega
  have hq2 : g < w2.heap.size := by omega
  have ha3 : New w2 (w2.alloc (.cells #[.slice Ac L.length cc, .int .i64 0, .slice none 0 0] 27)) := (Below.refl _ _).alloc (Nat.le_refl _) _
  have BQ3 := Blk.new w2 27 #[.slice Ac L.length cc, .int .i64 0, .slice none 0 0]
  have BZ3 := BZ2.below ha3 BZ2.lt
  have s3 := s2.below ha3
  have oC3 := row_later oC ha3
  have b03 := New.trans b02 ha3
  have P2 := Lib.hid (HL1.out _ _ _ s3)
  have hz3 : w2.heap.size < (w2.alloc (.cells #[.slice Ac L.length cc, .int .i64 0, .slice none 0 0] 27)).heap.size := by simp
  have hgq : g < w2.heap.size := hq2
  clear P1 BZ1 BZ2 b02 g2 ha2 oC s2 ha3 hgdef hz2
  go_wp2_with fail
  refine P2.out.mono ?_
  rintro e w5 ⟨rfl, s5, g5⟩
  have hz5 := g5.size
  generalize w2.heap.size = gq at *
  have BQ5 := BQ3.grown g5 (by intro e; injection e with e; omega)
  have BZ5 := BZ3.grown g5 (by intro e; injection e with e; omega)
  have oC5 := row_kept_cur oC3 g5 (by omega)
  have b05 := Far.below b03 g5 (by omega) (Nat.le_refl _)
  clear P2 s3 oC3 BZ3 BQ3 b03 g5
  obtain ⟨x0, x1, x2⟩ := ccells BQ5
  have f1 := BQ5.frozen 1
  have gS : w5.grownBy (w5.setCell ⟨gq, 1, none⟩ (.int .i64 (R : Int))) (some gq) := setCell_gr
  have hzS5 : w5.heap.size ≤ (w5.setCell ⟨gq, 1, none⟩ (.int .i64 (R : Int))).heap.size := gS.size
  have s6 := s5.keep gS (by have := s5.ge; omega) (by omega)
  have oC6 := oC5.kept gS (.inr (row_blk_ne oC5 BQ5 (by decide)))
  have BZ6 := BZ5.grown gS (by intro e; injection e with e; omega)
  have BQ6 := BQ5.set_ 1 (.int .i64 (R : Int))
  simp only [List.setIfInBounds_toArray, List.set_cons_zero, List.set_cons_succ] at BQ6
  have b06 := Far.below b05 gS (by omega) (Nat.le_refl _)
  have P3 := Lib.hid (HL2.out _ _ _ s6)
  clear s5 oC5 BZ5 BQ5 b05 gS
  go_wp2_with fail
  refine P3.out.mono ?_
  rintro e w7 ⟨rfl, s7, g7⟩
  have hz7 := g7.size
  have BQ7 := BQ6.grown g7 (by intro e; injection e with e; omega)
  have BZ7 := BZ6.grown g7 (by intro e; injection e with e; omega)
  have oC7 := row_kept_cur oC6 g7 (by omega)
  have b07 := Far.below b06 g7 (by omega) (Nat.le_refl _)
  clear P3 s6 oC6 BZ6 BQ6 b06 g7 x0 x1 x2 f1
  go_wp2_with fail
  have hq7 : gq < w7.heap.size := by omega
  obtain ⟨X, hX⟩ : ∃ X, X = groupsR (fun _ => 65536) L 65536 N Sn := ⟨_, rfl⟩
  have hHM := HM.out
  rw [← hX] at hHM
  have HM := Lib.hid hHM
  have HX0 : Hid ((Sn = none ∧ X.2 = none) ∨ X = (([] : List GrD).map grP ++ (groupsR (fun _ => 65536) L 65536 (N - 0) Sn).1, (groupsR (fun _ => 65536) L 65536 (N - 0) Sn).2)) := Lib.hid (.inr (by rw [hX]; rfl))
  clear hX hHM hzS5 hz3 hz5 hz7 hgl
  go_loopw [7] (fun i wr => ∃ (k d : Nat) (A : Option Addr) (G : List GrD) (Sj : St), k ≤ N ∧ i = .int .i64 (k : Int) ∧ Hid (G.length = k) ∧ Blk wr gq 27 #[.slice Ac L.length cc, .int .i64 (R : Int), .slice A G.length d] ∧ Blk wr w.heap.size 27 #[.slice none 0 0, .int .i64 0, .slice none 0 0]
    ∧ wr.ownsRow (g + 1) 39 3 (.slice Ac L.length cc) L.length (recs colV L) ∧ GrOwn wr (gq + 1) A d G ∧ RCurS wr g g Sj ∧ (Sj.getD []).length ≤ 140737488351232 ∧ Hid (GrSane G)
    ∧ Hid ((Sj = none ∧ X.2 = none) ∨ X = (G.map grP ++ (groupsR (fun _ => 65536) L 65536 (N - k) Sj).1, (groupsR (fun _ => 65536) L 65536 (N - k) Sj).2)) ∧ New w wr ∧ gq < wr.heap.size) (fun i _ => N - (intOf i).toNat)
  case atStart => exact ⟨0, 0, none, [], Sn, Nat.zero_le _, rfl, Lib.hid rfl, BQ7, BZ7, oC7, ⟨row_nil, by simp⟩, s7, by omega, Lib.hid (by intro x hx; simp at hx), HX0, b07, hq7⟩
  case round =>
    obtain ⟨k, d, A, G, Sj, hk, rfl, hGk, B, BZ, oC, GO, s, hsl, hSane, HXj, bw, hgr⟩ := hrel
    clear HX0 s7 BQ7 BZ7 oC7 b07 hq7 HL1 HL2 HGC hok3 hsub3
    have ys := s.is
    have hfin : (k = N ∨ Sj = none) → Hid ((Sj = none ∧ M = none) ∨ (∃ r, Sj = some r ∧ X = (G.map grP, some r))) := fun hh => Lib.hid (by
      have h1 := HXj.out
      rcases h1 with ⟨h1, h2⟩ | h1
      · exact .inl ⟨h1, by rw [HM.out]; exact if_neg (fun e => by rw [h2] at e; simp at e)⟩
      · cases Sj with
        | none =>
          rw [groupsR_none] at h1
          exact .inl ⟨rfl, by rw [HM.out, h1]; exact if_neg (fun e => by simp at e)⟩
        | some r =>
          rcases hh with rfl | hh
          · refine .inr ⟨r, rfl, ?_⟩
            rw [h1, Nat.sub_self]
            simp [groupsR]
          · simp at hh)
    by_cases hgo : k < N ∧ ∃ bb, Sj = some bb
    · obtain ⟨hlt, bb, rfl⟩ := hgo
      simp only [Option.isNone_some] at ys
      clear hfin
      have hX : X = (G.map grP ++ (groupsR (fun _ => 65536) L 65536 (N - k) (some bb)).1, (groupsR (fun _ => 65536) L 65536 (N - k) (some bb)).2) := by
        rcases HXj.out with ⟨e, _⟩ | e
        · cases e
        · exact e
      obtain ⟨j, hj⟩ : ∃ j, N - k = j + 1 := ⟨N - k - 1, by omega⟩
      have HJ := Lib.hid (show N - (k + 1) = j by omega)
      rw [hj, groupsR_step] at hX
      unfold groupR at hX
      have hokb := s.ok
      have hle4 := lenS_le (m := 65536) (some bb) (by omega) hokb
      have hok4 := lenS_ok (m := 65536) hokb
      have hsub4 := lenS_sub (m := 65536) hokb
      have L4 := Lib.hid (rlenS_any (m := 65536) s (by omega) (by omega))
      generalize lenS 65536 (some bb) = H at *
      obtain ⟨gr, Sg⟩ := H
      dsimp only at hX hle4 hok4 hsub4 L4
      have HX := Lib.hid hX
      have hgB0 : gq < wr.heap.size := hgr
      clear hX hj HXj hokb
      go_wp2_with fail
      refine L4.out.mono ?_
      rintro e w8 ⟨rfl, s8, g8⟩
      have hz8 := g8.size
      have ha8 : New w8 (w8.alloc (.cells #[.int .i64 (gr : Int), .slice none 0 0] 45)) := (Below.refl _ _).alloc (Nat.le_refl _) _
      have BG := Blk.new w8 45 #[.int .i64 (gr : Int), .slice none 0 0]
      have s9 := s8.below ha8
      have G9 : wr.grownBy (w8.alloc (.cells #[.int .i64 (gr : Int), .slice none 0 0] 45)) (some g) := g8.trans (grown_new_any (row := some g) ha8)
      have hgB : wr.heap.size ≤ w8.heap.size := hz8
      clear L4 s s8 g8 ha8 hz8
      go_wp2_with fail
      have hcg0 : w8.heap.size < (w8.alloc (.cells #[.int .i64 (gr : Int), .slice none 0 0] 45)).heap.size := by simp
      generalize w8.heap.size = gB at *
      have HFar := Lib.hid (fun (W : World) (hW : wr.grownBy W (some g)) => And.intro (B.grown hW (by intro e; injection e with e; omega)) (And.intro (row_kept_cur oC hW (by omega)) (And.intro (GO.far hW (by omega)) (BZ.grown hW (by intro e; injection e with e; omega)))))
      have BW := Lib.hid (fun (W : World) (hW : wr.grownBy W (some g)) => Far.below bw hW (by omega) (Nat.le_refl _))
      clear B BZ oC GO bw
      generalize hwq : wr = wq at *
      clear hwq
      go_loopw [9] (fun i wr => ∃ (kk d2 : Nat) (A2 : Option Addr) (D : List ChD), kk ≤ L.length ∧ i = .int .i64 (kk : Int) ∧ Blk wr gB 45 #[.int .i64 (gr : Int), .slice A2 D.length d2] ∧ ChOwn wr (gq + 1) A2 d2 D ∧ Hid (D.map (·.2.2) = (chunksR 65536 (L.take kk) Sg).1) ∧ Hid (D.length = kk) ∧ Hid (ChSane D)
        ∧ (∀ x ∈ rowT (.slice A2 D.length d2), gB < x) ∧ RCurS wr g g (chunksR 65536 (L.take kk) Sg).2 ∧ ((chunksR 65536 (L.take kk) Sg).2.getD []).length ≤ 140737488351232 ∧ wq.grownBy wr (some g) ∧ gB < wr.heap.size) (fun i _ => L.length - (intOf i).toNat)
      case atStart => exact ⟨0, 0, none, [], Nat.zero_le _, rfl, BG, ⟨row_nil, by simp⟩, Lib.hid rfl, Lib.hid rfl, Lib.hid (by intro y hy; simp at hy), by simp [rowT, Value.ownBlock], s9, by simp only [List.take_zero, chunksR]; omega, G9, hcg0⟩
      case round =>
        obtain ⟨kk, d2, A2, D, hkk, rfl, BGq, CO, HD, hDk, HCS, hRT, sq, hslq, Gq, hgBq⟩ := hrel
        clear BG s9 G9 hcg0
        obtain ⟨Bq, oCq, -, -⟩ := HFar.out _ Gq
        have ysq := sq.is
        have hDl : D.length ≤ 64 := by have := hDk.out; omega
        obtain ⟨x0, x1, x2⟩ := ccells Bq
        by_cases hgo2 : kk < L.length ∧ ∃ b2, (chunksR 65536 (L.take kk) Sg).2 = some b2
        · obtain ⟨hlt2, b2, hb2⟩ := hgo2
          rw [hb2] at ysq sq hslq
          simp only [Option.isNone_some] at ysq
          have htk := take_snoc L kk colZ hlt2
          have hsn := chunksR_snoc (m := 65536) (L.take kk) (L.getD kk colZ) Sg
          rw [← htk, hb2, ← HD.out] at hsn
          obtain ⟨al, rfl, hbl, -⟩ := (Reads.of_own oCq).colT hlt2
          have hcs := chunkR_sub (t := (L.getD kk colZ).2.1) (m := 65536) sq.ok
          have hcd := chunkR_data (t := (L.getD kk colZ).2.1) (m := 65536) (S := some b2)
          have hcf := chunkR_few (t := (L.getD kk colZ).2.1) (m := 65536) sq.ok (by omega)
          have PGS := fun (W : World) (hs : RCurS W g g (some b2)) => rpages_any (c := L.getD kk colZ) hs hslq
          have FCC := fun (W : World) (oW : W.ownsRow (g + 1) 39 3 (.slice (some al) L.length cc) L.length (recs colV L)) => show (W.cell? (al.add (kk * 3)) = some (.string (bstr (L.getD kk colZ).1)) ∧ W.cell? ⟨(al.add (kk * 3)).block, (al.add (kk * 3)).off + 1, none⟩ = some (.int .i64 (L.getD kk colZ).2.1) ∧ W.cell? ⟨(al.add (kk * 3)).block, (al.add (kk * 3)).off + 2, none⟩ = some (.bool (L.getD kk colZ).2.2)) from by
            obtain ⟨al', e, _, f⟩ := (Reads.of_own oW).colT hlt2
            injection e with e
            subst e
            exact f
          generalize L.getD kk colZ = col at *
          obtain ⟨nm, t, nu⟩ := col
          dsimp only at hsn hcs hcd hcf PGS FCC
          generalize chunkR t 65536 (some b2) = H at *
          obtain ⟨pl, S5⟩ := H
          dsimp only at hsn hcs hcd hcf PGS
          have PGS : Hid (∀ W, RCurS W g g (some b2) → Calls Tryz.prog 20 #[.pointer (some ⟨g, 0, none⟩), .agg #[.string (bstr nm), .int .i64 t, .bool nu]] W (RPagesPost pl g g S5 W)) := Lib.hid PGS
          have HSN := Lib.hid hsn
          have HCD := Lib.hid hcd
          have FCC := Lib.hid FCC
          have hne1 : gB ∉ (g :: rowT (.slice A2 D.length d2)) := by
            intro hm
            rcases List.mem_cons.1 hm with e | e
            · omega
            · have := hRT _ e; omega
          have hne2 : gq ∉ (g :: rowT (.slice A2 D.length d2)) := by
            intro hm
            rcases List.mem_cons.1 hm with e | e
            · omega
            · have := hRT _ e; omega
          have hne3 : ∀ x ∈ (g :: rowT (.slice A2 D.length d2)), Value.ownBlock (.slice (some al) L.length cc) ≠ some x := by
            intro x hx e
            have h1 := (World.ownsRow.lt oCq _ e).1
            rcases List.mem_cons.1 hx with e2 | e2
            · omega
            · exact row_row oCq CO.row (by decide) x e2 e
          clear htk hsn hcd hb2 x0 x1 x2 hbl
          obtain ⟨x0, x1, x2⟩ := ccells Bq
          obtain ⟨z0, z1⟩ := cells2 BGq
          go_wp2_with fail
          refine wp_region_upT (Turns (g :: rowT (.slice A2 D.length d2))) 12 [(1, 0), (0, 1), (1, 2), (1, 3), (0, 4), (1, 5), (1, 6), (0, 7), (2, 8), (2, 9), (2, 10), (1, 11), (2, 12)]
            (Turns.refl _) Turns.trans (by kernel_rfl) (by kernel_rfl) (by kernel_rfl) (by kernel_rfl) ?_
          have F := Lib.hid (fun (W : World) (hW : Turns (g :: rowT (.slice A2 D.length d2)) wr.drew W) => And.intro (BGq.drew.touch hW hne1) (And.intro (Bq.drew.touch hW hne2) (FCC.out W (Go.Hm.row_touch (row_later oCq (New.drew wr)) hW hne3))))
          have s2 := sq.below (New.drew wr)
          have CO2 := CO.later (New.drew wr)
          have BG2 := BGq.drew
          have G2 := grown_own Gq (grown_new_any (row := none) (New.drew wr)) (by simp)
          have GP2 := Lib.hid (PGS.out _ s2)
          have hgB2 : gB < wr.drew.heap.size := hgBq
          clear x0 x1 x2 z0 z1 Bq oCq BGq CO sq Gq ysq PGS FCC
          obtain ⟨wa, hwa⟩ : ∃ wa, wa = wr.drew := ⟨_, rfl⟩
          rw [← hwa] at F s2 CO2 BG2 G2 GP2 hgB2 ⊢
          clear hwa
          repeat (first
            | (refine upT_quiet rfl rfl (v := ?_) (fun W hW => ?_) ?_; rotate_left; (obtain ⟨F1, F2, f0, f1, f2⟩ := F.out W hW; obtain ⟨y0, y1, y2⟩ := ccells F2; obtain ⟨z0, z1⟩ := cells2 F1; clear F1 F2; go_simp <;> with_reducible rfl); simp only [Act.put, List.setIfInBounds_toArray, List.set_cons_zero, List.set_cons_succ])
            | (refine upT_pure rfl rfl (v := ?_) (fun W => ?_) ?_; rotate_left; (go_simp <;> with_reducible rfl); simp only [Act.put, List.setIfInBounds_toArray, List.set_cons_zero, List.set_cons_succ]))
          refine upT_call rfl rfl (fun K hK => ?_)
          go_simp
          (with_reducible refine GP2.out.mono ?_)
          rintro e w8 ⟨A8, n8, c8, rfl, o8, s8, g8⟩
          refine hK _ _ (.inr (.inr (Turns.of_far g8 (by simp)))) ?_
          clear hK
          obtain rfl : n8 = pl.length := (Reads.of_own o8).lenPage
          have hz8 := g8.size
          have CO8 := CO2.far g8 (by omega)
          have BG8 := BG2.grown g8 (by intro e; injection e with e; omega)
          have G8 := G2.trans g8
          have o8 := row_base o8 (show gB + 1 ≤ wa.heap.size by omega)
          clear F GP2 CO2 BG2 G2 s2 g8
          refine upT_call rfl rfl (fun K hK => ?_)
          go_simp
          refine hK _ _ (.inr (.inr (Turns.of_new ((Below.refl _ _).alloc (Nat.le_refl _) _)))) ?_
          clear hK
          have RL := Reads.litR w8 42 #[.slice A8 pl.length c8] 1 1 [.slice A8 pl.length c8] rfl rfl
          have hb8 : New w8 (w8.alloc (.cells #[.slice A8 pl.length c8] 42)) := (Below.refl _ _).alloc (Nat.le_refl _) _
          have CO9 := CO8.later hb8
          have o9 := row_later o8 hb8
          have s9 := s8.below hb8
          have BG9 := BG8.below hb8 BG8.lt
          have G9 := grown_own G8 (grown_new_any (row := none) hb8) (by simp)
          have hz9 := hb8.size
          clear CO8 o8 s8 BG8 G8 hb8
          obtain ⟨wb, hwb⟩ : ∃ wb, wb = w8.alloc (.cells #[.slice A8 pl.length c8] 42) := ⟨_, rfl⟩
          rw [← hwb] at RL CO9 o9 s9 BG9 G9 hz9 ⊢
          clear hwb
          have coR : wb.ownsRow (gB + 1) 42 1 (.slice A2 D.length d2) D.length (recs chV D) := row_up CO9.row hRT
          refine upT_call rfl rfl (fun K hK => ?_)
          refine wp_appR elCh (.tmp 53) (.tmp 61) rfl (W := wq) (B := 0) (base := gB + 1) coR RL rfl rfl (below_zero G9) (Nat.zero_le _) (by omega) (by simp [Value.oneCell']) (by omega) (by simp only [maxLen]; omega) ?_
          intro A10 c10 w10 _ _ o10 g10 _
          refine hK _ _ (.inr (.inr ((Turns.row g10).more (fun x hx => List.mem_cons_of_mem _ hx)))) ?_
          clear hK
          have hz10 := g10.size
          have BG10 := BG9.touch (Turns.row g10) (rowT_ne CO9.row BG9 (by decide))
          have s10 := rcur_push s9 CO9.row g10 (by omega)
          have G10 := grown_own G9 g10 (fun b e => by have := (World.ownsRow.lt coR b e).1; omega)
          have P10 : ∀ x ∈ D, w10.ownsRow (gq + 1) 41 14 (.slice x.1 x.2.2.length x.2.1) x.2.2.length (recs pageV x.2.2) := fun x hx => (CO9.pages x hx).kept g10 (rows_apart (CO9.pages x hx) CO9.row (by decide))
          have o11 := o9.kept g10 (rows_apart o9 CO9.row (by decide))
          have x0 := BG10.cell 1
          have y0 := BG10.frozen 1
          simp at x0
          have gS : w10.grownBy (w10.setCell ⟨gB, 1, none⟩ (.slice A10 (D.length + 1) c10)) (some gB) := setCell_gr
          clear CO9 o9 s9 BG9 G9 g10 RL
          refine upT_pure rfl rfl (v := ?_) (fun W => ?_) ?_
          rotate_left
          · go_simp <;> with_reducible rfl
          simp only [Act.put, List.setIfInBounds_toArray, List.set_cons_zero, List.set_cons_succ]
          refine upT_call rfl rfl (fun K hK => ?_)
          go_simp
          refine hK _ _ (.inr (.inl rfl)) ?_
          clear hK x0 y0
          refine upT_nil ?_
          have o12 := o10.kept gS (.inr (row_blk_ne o10 BG10 (by decide)))
          have CO12 : ChOwn (w10.setCell ⟨gB, 1, none⟩ (.slice A10 (D.length + 1) c10)) (gq + 1) A10 c10 (D ++ [(A8, c8, pl)]) := by
            constructor
            · rw [recs_chV_snoc, List.length_append]
              exact row_base o12 (by omega)
            · intro x hx
              rcases List.mem_append.1 hx with hx | hx
              · exact (P10 x hx).kept gS (.inr (row_blk_ne (P10 x hx) BG10 (by decide)))
              · rw [List.mem_singleton.1 hx]
                exact row_base (o11.kept gS (.inr (row_blk_ne o11 BG10 (by decide)))) (by omega)
          have RT12 : ∀ x ∈ rowT (.slice A10 (D ++ [(A8, c8, pl)]).length c10), gB < x := by
            rw [List.length_append]
            exact fun x hx => (rowT_ge o12 x hx).1
          have BG12 := BG10.set_ 1 (.slice A10 (D.length + 1) c10)
          simp only [List.setIfInBounds_toArray, List.set_cons_zero, List.set_cons_succ] at BG12
          have s12 := s10.keep gS (by omega) (by omega)
          have G12 := grown_then G10 gS (by omega)
          have HD12 : Hid ((D ++ [(A8, c8, pl)]).map (fun x : ChD => x.2.2) = (chunksR 65536 (L.take (kk + 1)) Sg).1) := Lib.hid (by rw [HSN.out, List.map_append]; rfl)
          have hs12 : (chunksR 65536 (L.take (kk + 1)) Sg).2 = S5 := by rw [HSN.out]
          have HS12 := Lib.hid hs12
          have HL12 : Hid ((D ++ [(A8, c8, pl)]).length = kk + 1) := Lib.hid (by rw [List.length_append, hDk.out]; rfl)
          have HC12 : Hid (ChSane (D ++ [(A8, c8, pl)])) := Lib.hid (by
            intro y hy
            rcases List.mem_append.1 hy with hy | hy
            · exact HCS.out y hy
            · rw [List.mem_singleton.1 hy]
              exact ⟨hcf, HCD.out⟩)
          have BG12 : Blk (w10.setCell ⟨gB, 1, none⟩ (.slice A10 (D.length + 1) c10)) gB 45 #[.int .i64 (gr : Int), .slice A10 (D ++ [(A8, c8, pl)]).length c10] := by rw [List.length_append]; exact BG12
          have hsz12 : gB < (w10.setCell ⟨gB, 1, none⟩ (.slice A10 (D.length + 1) c10)).heap.size := by have := gS.size; omega
          have hsl12 : (S5.getD []).length ≤ 140737488351232 := by omega
          clear gS P10 o10 o11 o12 s10 BG10 G10 hs12 coR HSN HCD hcs hcf
          go_wp2_with fail
          go_roundw
          case rel => exact ⟨kk + 1, c10, A10, D ++ [(A8, c8, pl)], by omega, by go_num, BG12, CO12, HD12, HL12, HC12, RT12, by rw [HS12.out]; exact s12, by rw [HS12.out]; exact hsl12, G12, hsz12⟩
          case measure => simp [intOf]; omega
        · have hfull : (kk = L.length ∧ True) ∨ (chunksR 65536 (L.take kk) Sg).2 = none := by
            rcases Nat.lt_or_ge kk L.length with e | e
            · cases h2 : (chunksR 65536 (L.take kk) Sg).2 with
              | none => exact .inr rfl
              | some b2 => exact absurd ⟨e, b2, h2⟩ hgo2
            · exact .inl ⟨by omega, trivial⟩
          have hnew : Hid (((chunksR 65536 (L.take kk) Sg).2 = none ∧ X.2 = none) ∨ X = ((G ++ [((gr : Int), A2, d2, D)]).map grP ++ (groupsR (fun _ => 65536) L 65536 (N - (k + 1)) (chunksR 65536 (L.take kk) Sg).2).1, (groupsR (fun _ => 65536) L 65536 (N - (k + 1)) (chunksR 65536 (L.take kk) Sg).2).2)) := Lib.hid (by
            rw [HJ.out]
            rcases hfull with ⟨rfl, -⟩ | e
            · refine .inr ?_
              rw [HX.out, List.map_append, List.take_length, show [((((gr : Int), A2, d2, D)) : GrD)].map grP = [((gr : Int), D.map (·.2.2))] from rfl, HD.out, List.take_length, List.append_assoc]
              rfl
            · refine .inl ⟨e, ?_⟩
              rw [HX.out]
              dsimp only
              rw [chunksR_take_none kk L Sg e, groupsR_none])
          have hkn2 : kk < L.length → (chunksR 65536 (L.take kk) Sg).2 = none := fun e => by rcases hfull with ⟨h1, _⟩ | h1; omega; exact h1
          generalize (chunksR 65536 (L.take kk) Sg).2 = Sk at *
          obtain ⟨-, -, GOq, BZq⟩ := HFar.out _ Gq
          have bwq := BW.out _ Gq
          have hGl : G.length ≤ 65536 := by have := hGk.out; omega
          have hzq := Gq.size
          obtain ⟨z0, z1⟩ := cells2 BGq
          have HS2 : Hid (GrSane (G ++ [((gr : Int), A2, d2, D)])) := Lib.hid (by
            intro x hx
            rcases List.mem_append.1 hx with hx | hx
            · exact hSane.out x hx
            · rw [List.mem_singleton.1 hx]
              exact ⟨hDl, HCS.out⟩)
          have hexit : (¬ (kk : Int) < (L.length : Int)) ∨ ((kk : Int) < (L.length : Int) ∧ Sk = none) := by
            rcases Nat.lt_or_ge kk L.length with e | e
            · exact .inr ⟨by omega, hkn2 e⟩
            · exact .inl (by omega)
          clear hfull hkn2 hgo2 HCS HD hDk
          rcases hexit with hx1 | ⟨hx1, rfl⟩
          all_goals
            try simp only [Option.isNone_none] at ysq
            go_wp2_with (refine wpList_pushR elGr rfl (.tmp 65) (.tmp 67) rfl (W := w) (B := w.heap.size) (base := gq + 1) (n := G.length) GOq.row rfl rfl bwq (by omega) (by omega) rfl (by simp [Value.oneCell']) (by omega) (by simp only [maxLen]; omega) ?_
                         intro A10 c10 w10 _ _ o10 g10 bw10 hz10 _
                         have B10 := Bq.grown g10 (fun e => row_blk_ne GOq.row Bq (by decide) e.symm)
                         have BZ10 := BZq.grown g10 (fun e => row_blk_ne GOq.row BZq (by decide) e.symm)
                         have s10 := rcur_push sq GOq.row g10 (by omega)
                         have oC10 := oCq.kept g10 (rows_apart oCq GOq.row (by decide))
                         have P10 : ∀ x ∈ G, ChOwn w10 (gq + 1) x.2.1 x.2.2.1 x.2.2.2 := fun x hx => (GOq.chunks x hx).row_ GOq.row g10 (by decide) (by decide)
                         have CO10 := CO.row_ GOq.row g10 (by decide) (by decide)
                         obtain ⟨v0, v1, v2⟩ := ccells B10
                         have v3 := B10.frozen 2)
            have gS : w10.grownBy (w10.setCell ⟨gq, 2, none⟩ (.slice A10 (G.length + 1) c10)) (some gq) := setCell_gr
            have GO12 : GrOwn (w10.setCell ⟨gq, 2, none⟩ (.slice A10 (G.length + 1) c10)) (gq + 1) A10 c10 (G ++ [((gr : Int), A2, d2, D)]) := by
              constructor
              · rw [recs_grV_snoc, List.length_append]
                exact o10.kept gS (.inr (fun e => by have := (World.ownsRow.lt o10 _ e).1; omega))
              · intro x hx
                rcases List.mem_append.1 hx with hx | hx
                · exact (P10 x hx).far gS (by omega)
                · rw [List.mem_singleton.1 hx]
                  exact CO10.far gS (by omega)
            have B12 := B10.set_ 2 (.slice A10 (G.length + 1) c10)
            simp only [List.setIfInBounds_toArray, List.set_cons_zero, List.set_cons_succ] at B12
            have BZ12 := BZ10.grown gS (by intro e; injection e with e; omega)
            have s12 := s10.keep gS (by omega) (by omega)
            have oC12 := oC10.kept gS (.inr (row_blk_ne oC10 B10 (by decide)))
            have bw12 := Far.below bw10 gS (by omega) (Nat.le_refl _)
            have hg12 : gq < (w10.setCell ⟨gq, 2, none⟩ (.slice A10 (G.length + 1) c10)).heap.size := by have := gS.size; omega
            have HG12 : Hid ((G ++ [((gr : Int), A2, d2, D)]).length = k + 1) := Lib.hid (by rw [List.length_append, hGk.out]; rfl)
            have B12 : Blk (w10.setCell ⟨gq, 2, none⟩ (.slice A10 (G.length + 1) c10)) gq 27 #[.slice Ac L.length cc, .int .i64 (R : Int), .slice A10 (G ++ [((gr : Int), A2, d2, D)]).length c10] := by rw [List.length_append]; exact B12
            go_roundw
            case rel => exact ⟨k + 1, c10, A10, G ++ [((gr : Int), A2, d2, D)], _, by omega, by go_num, HG12, B12, BZ12, oC12, GO12, s12, hslq, HS2, hnew, bw12, hg12⟩
            case measure => simp [intOf]; omega
    · have hh : k = N ∨ Sj = none := by
        cases Sj with
        | none => exact .inr rfl
        | some bb => exact .inl (by rcases Nat.lt_or_ge k N with e | e; exact absurd ⟨e, bb, rfl⟩ hgo; omega)
      have HFN := hfin hh
      have hkn : k < N → Sj = none := fun e => by rcases hh with h1 | h1; omega; exact h1
      have hGl : G.length ≤ 65536 := by have := hGk.out; omega
      have EN := rendS_any s
      have FI := foot_in oC ⟨row_base GO.row (by omega), fun x hx => (GO.chunks x hx).base (by omega)⟩ HF1.out hcc hf2 hGl (fun x hx => ⟨(hSane.out x hx).1, fun y hy => ((hSane.out x hx).2 y hy).1⟩)
      have hdat : ∀ x ∈ G, ∀ y ∈ x.2.2.2, ∀ p ∈ y.2.2, statFine p.2.2 := fun x hx y hy p hp => (((hSane.out x hx).2 y hy).2 p hp).fine
      have RT := rfright_any (cg := d) (r := (R : Int)) FI hdat (by omega)
      have RT : Hid (Calls Tryz.prog 22 #[.agg #[.slice Ac L.length cc, .int .i64 (R : Int), .slice A G.length d]] wr (NewPost (.bool (rightF (footP L (R : Int) G))) wr)) := Lib.hid RT
      have EN := Lib.hid EN
      have hcg : G.length ≤ d := by obtain ⟨_, _, e, kk, _⟩ := row_slice GO.row; injection e with _ _ e; omega
      have HFO := Lib.hid (fun (W : World) (o1 : W.ownsRow (g + 1) 39 3 (.slice Ac L.length cc) L.length (recs colV L)) (o2 : GrOwn W (gq + 1) A d G) => foot_in o1 ⟨row_base o2.row (by omega), fun x hx => (o2.chunks x hx).base (by omega)⟩ HF1.out hcc hf2 hGl (fun x hx => ⟨(hSane.out x hx).1, fun y hy => ((hSane.out x hx).2 y hy).1⟩))
      have hMM := HM.out
      have HMM := Lib.hid hMM
      clear hMM HM HXj hSane FI hdat HF1 hfin hgo
      obtain ⟨x0, x1, x2⟩ := ccells B
      rcases HFN.out with ⟨rfl, hMn⟩ | ⟨r, rfl, hX⟩
      · simp only [Option.isNone_none] at ys
        have hNone := Lib.hid hMn
        have EN : Hid (Calls Tryz.prog 21 #[.pointer (some ⟨g, 0, none⟩)] wr (BadPost false wr)) := EN
        clear hMn HFN HMM HFO hh hkn
        rcases (Classical.em ((k : Int) < (N : Int))) with hk1 | hk1
        all_goals
          go_wp2_with fail
          refine EN.out.mono ?_
          rintro e w8 ⟨rfl, rfl⟩
          go_wp2_with fail
          refine RT.out.mono ?_
          rintro e w9 ⟨rfl, b9⟩
          have BZ9 := BZ.below b9 BZ.lt
          have b09 := New.trans bw b9
          clear B BZ b9 x0 x1 x2 RT EN oC GO ys
          go_wp2_with (refine wpList_storeG rfl 27 (.tmp 2) (.tmp 80) rfl w.heap.size _ rfl rfl BZ9 (by kernel_rfl) rfl (by simp [Value.oneCell']) ?_
                       intro W9 BR G9
                       obtain ⟨r0, r1, r2⟩ := ccells BR)
          rw [hNone.out]
          exact bodyPost_ret (v := .tuple #[.agg #[.slice none 0 0, .int .i64 0, .slice none 0 0], .bool false]) (by simp [results, Tryz.results6, go_sem, r0, r1, r2]) rfl ⟨rfl, Far.below b09 G9 (Nat.le_refl _) (Nat.le_refl _)⟩
      · simp only [Option.isNone_some] at ys
        obtain rfl : k = N := by rcases hh with h1 | h1; exact h1; cases h1
        have hkk : ¬ (k : Int) < (k : Int) := by omega
        cases r with
        | cons z r =>
          have hN : M = none := by rw [HMM.out, hX]; exact if_neg (fun h => by simp at h)
          have hNone := Lib.hid hN
          have EN : Hid (Calls Tryz.prog 21 #[.pointer (some ⟨g, 0, none⟩)] wr (BadPost false wr)) := EN
          clear hN HFN HMM HFO hh hkn hX
          go_wp2_with fail
          refine EN.out.mono ?_
          rintro e w8 ⟨rfl, rfl⟩
          go_wp2_with fail
          refine RT.out.mono ?_
          rintro e w9 ⟨rfl, b9⟩
          have BZ9 := BZ.below b9 BZ.lt
          have b09 := New.trans bw b9
          clear B BZ b9 x0 x1 x2 RT EN oC GO ys
          go_wp2_with (refine wpList_storeG rfl 27 (.tmp 2) (.tmp 80) rfl w.heap.size _ rfl rfl BZ9 (by kernel_rfl) rfl (by simp [Value.oneCell']) ?_
                       intro W9 BR G9
                       obtain ⟨r0, r1, r2⟩ := ccells BR)
          rw [hNone.out]
          exact bodyPost_ret (v := .tuple #[.agg #[.slice none 0 0, .int .i64 0, .slice none 0 0], .bool false]) (by simp [results, Tryz.results6, go_sem, r0, r1, r2]) rfl ⟨rfl, Far.below b09 G9 (Nat.le_refl _) (Nat.le_refl _)⟩
        | nil =>
          have EN : Hid (Calls Tryz.prog 21 #[.pointer (some ⟨g, 0, none⟩)] wr (BadPost true wr)) := EN
          have hMM := HMM.out
          rw [hX] at hMM
          dsimp only at hMM
          by_cases hFo : FootOk (footP L (R : Int) G)
          · rw [rightF_yes hFo] at RT
            rw [if_pos ⟨rfl, hFo⟩] at hMM
            have HMM := Lib.hid hMM
            clear hMM hFo hX HFN hh hkn
            go_wp2_with fail
            refine EN.out.mono ?_
            rintro e w8 ⟨rfl, rfl⟩
            go_wp2_with fail
            refine RT.out.mono ?_
            rintro e w9 ⟨rfl, b9⟩
            have B9 := B.below b9 B.lt
            have BZ9 := BZ.below b9 BZ.lt
            have oC9 := row_later oC b9
            have GO9 := GO.later b9
            have b09 := New.trans bw b9
            clear B BZ b9 x0 x1 x2 RT EN oC GO ys
            obtain ⟨x0, x1, x2⟩ := ccells B9
            go_wp2_with (refine wpList_storeG rfl 27 (.tmp 2) (.tmp 81) rfl w.heap.size _ rfl rfl BZ9 (by kernel_rfl) rfl (by simp [Value.oneCell']) ?_
                         intro W9 BR G9
                         obtain ⟨r0, r1, r2⟩ := ccells BR)
            rw [HMM.out]
            exact bodyPost_ret (v := .tuple #[.agg #[.slice Ac L.length cc, .int .i64 (R : Int), .slice A G.length d], .bool true]) (by simp [results, Tryz.results6, go_sem, r0, r1, r2]) rfl ⟨Ac, cc, L, (R : Int), A, d, G, rfl, rfl, ⟨HFO.out _ (oC9.kept G9 (.inr (fun e => by have := (World.ownsRow.lt oC9 _ e).1; omega))) (GO9.far G9 (by omega)), hcg⟩, Far.below b09 G9 (Nat.le_refl _) (Nat.le_refl _)⟩
          · rw [rightF_no hFo] at RT
            rw [if_neg (fun h => hFo h.2)] at hMM
            have hNone := Lib.hid hMM
            clear hMM hFo HFO hX HFN hh hkn HMM
            go_wp2_with fail
            refine EN.out.mono ?_
            rintro e w8 ⟨rfl, rfl⟩
            go_wp2_with fail
            refine RT.out.mono ?_
            rintro e w9 ⟨rfl, b9⟩
            have BZ9 := BZ.below b9 BZ.lt
            have b09 := New.trans bw b9
            clear B BZ b9 x0 x1 x2 RT EN oC GO ys
            go_wp2_with (refine wpList_storeG rfl 27 (.tmp 2) (.tmp 80) rfl w.heap.size _ rfl rfl BZ9 (by kernel_rfl) rfl (by simp [Value.oneCell']) ?_
                         intro W9 BR G9
                         obtain ⟨r0, r1, r2⟩ := ccells BR)
            rw [hNone.out]
            exact bodyPost_ret (v := .tuple #[.agg #[.slice none 0 0, .int .i64 0, .slice none 0 0], .bool false]) (by simp [results, Tryz.results6, go_sem, r0, r1, r2]) rfl ⟨rfl, Far.below b09 G9 (Nat.le_refl _) (Nat.le_refl _)⟩

end Go.Proofs.YtflaaahcoglflaaGreat
