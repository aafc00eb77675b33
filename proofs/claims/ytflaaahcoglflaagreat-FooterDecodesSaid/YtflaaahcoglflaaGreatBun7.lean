/- Texts merged, for a claim has at most 60 files: FooC, LayM, Lay, FooJ, FooK, FooD, FooE, FooG, UpR. -/
import Derived.Deep.LoopGhost
import Derived.ScopeJumps
import Derived.Test.YtflaaahcoglflaaGreatBun1
import Derived.Test.YtflaaahcoglflaaGreatBun2
import Derived.Test.YtflaaahcoglflaaGreatBun4
import Derived.Test.YtflaaahcoglflaaGreatBun6
import Derived.WalkMore
/- The contract of footer.Right. -/

namespace Go.Hm
open Go Go.RowKit
abbrev grZ : GrD := (0, none, 0, [])
abbrev chZ : ChD := (none, 0, [])
open Classical in
noncomputable def rightF (F : FootS) : Bool := decide (FootOk F)
theorem rightF_yes {F : FootS} (h : FootOk F) : rightF F = true := by unfold rightF; simp [h]
theorem rightF_no {F : FootS} (h : ¬ FootOk F) : rightF F = false := by unfold rightF; simp [h]
theorem getD_mapX {α β : Type} (f : α → β) (l : List α) {k : Nat} (d : α) (e : β) (hk : k < l.length) : (l.map f).getD k e = f (l.getD k d) := by
  rw [List.getD_eq_getElem?_getD, List.getElem?_map, List.getElem?_eq_getElem hk, List.getD_eq_getElem?_getD, List.getElem?_eq_getElem hk]
  rfl

end Go.Hm

namespace Go.Proofs.YtflaaahcoglflaaGreat
open Go.RowKit Go.Hm
set_option maxHeartbeats 4000000 in
set_option maxRecDepth 100000 in
theorem fright_any {w : World} {Ac : Option Addr} {cc : Nat} {L : List ColS} {r : Int} {Ag : Option Addr} {cg : Nat} {G : List GrD} (h : FootIn w Ac cc L Ag G) (hp : ∀ g ∈ G, ∀ x ∈ g.2.2.2, ∀ p ∈ x.2.2, statFine p.2.2) :
    Calls Tryz.prog 11 #[footA Ac cc L r Ag cg G] w (NewPost (.bool (rightF (footP L r G))) w) := by
  have CK := Lib.hid (fun (W : World) (hW : New w W) => cols_any (c := cc) (Reads.later h.cols hW) h.fine h.cap h.few)
  have HG := Lib.hid h.groups
  have HL := Lib.hid h.cols
  have hfew := h.few
  have hfew2 := h.few2
  have HCH := Lib.hid h.chunks
  have HPG := Lib.hid h.pages
  have HP := Lib.hid hp
  have HY := Lib.hid (fun e : FootOk (footP L r G) => rightF_yes e)
  have HN := Lib.hid (fun e : ¬ FootOk (footP L r G) => rightF_no e)
  have hz : FootTo L (G.map grP) 0 0 0 := FootTo.zero _ _
  have HZ := Lib.hid hz
  clear h hp hz
  generalize rightF (footP L r G) = M at *
  unfold footP at HY HN
  have HMap := Lib.hid (fun (k : Nat) (hk : k < G.length) => getD_mapX grP G (k := k) grZ groupZ hk)
  have HLen := Lib.hid (show (G.map grP).length = G.length from List.length_map ..)
  generalize hGP : G.map grP = GP at *
  have hck := colsCk_iff L
  clear hGP
  show Calls Tryz.prog 11 #[.agg #[.slice Ac L.length cc, .int .i64 r, .slice Ag G.length cg]] w (NewPost (.bool M) w)
  have B0 := Blk.new w 27 #[.slice Ac L.length cc, .int .i64 r, .slice Ag G.length cg]
  have b0 : New w (w.alloc (.cells #[.slice Ac L.length cc, .int .i64 r, .slice Ag G.length cg] 27)) := (Below.refl _ _).alloc (Nat.le_refl _) _
  obtain ⟨x0, x1, x2⟩ := ccells B0
  go_enter Tryz.func11, Tryz.ntmps11
  go_wp2_with fail
  refine (CK.out _ b0).mono ?_
  rintro e w1 ⟨rfl, b1⟩
  have B1 := B0.below b1 B0.lt
  have b01 := New.trans b0 b1
  clear CK B0 b0 b1 x0 x1 x2
  obtain ⟨x0, x1, x2⟩ := ccells B1
  by_cases hk0 : colsCk L = 0
  · have hcok := hck.1 hk0
    have HCO := Lib.hid hcok
    rw [hk0]
    clear hck hk0 hcok
    go_wp2_with fail
    clear x0 x1 x2
    go_loopw [3, 4, 18] (fun a s i wr => ∃ (k : Nat) (rows size : Int), k ≤ G.length ∧ i = .int .i64 (k : Int) ∧ a = .int .i64 rows ∧ s = .int .i64 size ∧ Hid (FootTo L GP k rows size) ∧ (0 ≤ rows ∧ rows ≤ 65536) ∧ (0 ≤ size ∧ size ≤ 1073741824)
      ∧ Blk wr w.heap.size 27 #[.slice Ac L.length cc, .int .i64 r, .slice Ag G.length cg] ∧ New w wr) (fun _ _ i _ => G.length - (intOf i).toNat)
    case atStart => exact ⟨0, 0, 0, Nat.zero_le _, rfl, rfl, rfl, HZ, by omega, by omega, B1, b01⟩
    case round =>
      obtain ⟨k, rows, size, hk, rfl, rfl, rfl, H, hrw, hsz, B, b⟩ := hrel
      clear HZ B1 b01
      by_cases hlt : k < G.length
      · obtain ⟨ad, rfl, hb, d0, d1⟩ := (Reads.later HG.out b).gr2 hlt
        have hgm := mem_getDF grZ hlt
        have hch := HCH.out _ hgm
        have hpg := HPG.out _ hgm
        have hpp := HP.out _ hgm
        have hmap := HMap.out k hlt
        have hltP : k < GP.length := by rw [HLen.out]; exact hlt
        generalize G.getD k grZ = g at *
        obtain ⟨gr, Ach, cch, D⟩ := g
        dsimp only at d0 d1 hch hpg hpp
        unfold grP at hmap
        dsimp only at hmap
        have hl2 : (GP.getD k groupZ).2.length = D.length := by rw [hmap]; exact List.length_map ..
        have hg1 : (GP.getD k groupZ).1 = gr := by rw [hmap]
        have HM2 := Lib.hid (fun (c : Nat) (hc : c < D.length) => show (GP.getD k groupZ).2.getD c [] = (D.getD c chZ).2.2 by rw [hmap]; exact getD_mapX (fun x : ChD => x.2.2) D chZ [] hc)
        have NR := Lib.hid (fun hb => HN.out (H.out.no_rows (r := r) hltP hb))
        have EN := Lib.hid (fun h1 h2 h3 => H.out.enter h1 h2 h3)
        rw [hl2, hg1] at NR EN
        have HL2 := Lib.hid hl2
        have HG1 := Lib.hid hg1
        have HCHk := Lib.hid hch.1
        have hchl := hch.2
        have HPGk := Lib.hid hpg
        have HPPk := Lib.hid hpp
        have HLTP := Lib.hid hltP
        clear hmap hl2 hg1 hch hpg hpp hgm hb H hltP
        have ha : New wr (wr.alloc (.cells #[.int .i64 gr, .slice Ach D.length cch] 45)) := (Below.refl _ _).alloc (Nat.le_refl _) _
        have BG := Blk.new wr 45 #[.int .i64 gr, .slice Ach D.length cch]
        have B2 := B.below ha B.lt
        have b2 := New.trans b ha
        obtain ⟨y0, y1, y2⟩ := ccells B2
        obtain ⟨z0, z1⟩ := cells2 BG
        clear B b ha
        by_cases h1 : gr < 1
        · have hM := Lib.hid (NR.out (.inl h1))
          clear NR EN
          go_wp2
          go_ret
          exact ⟨by rw [hM.out]; rfl, b2⟩
        by_cases h2 : 65536 - rows < gr
        · have hM := Lib.hid (NR.out (.inr (.inl h2)))
          clear NR EN
          go_wp2
          go_ret
          exact ⟨by rw [hM.out]; rfl, b2⟩
        by_cases h3 : D.length = L.length
        · have t3 : ((D.length : Int) != (L.length : Int)) = false := by simp; omega
          have hE := EN.out (by omega) (by omega) h3
          have HE := Lib.hid hE
          have hDL : D.length ≤ L.length := by omega
          have H3 := Lib.hid h3
          clear NR EN hE h3
          go_wp2_with fail
          clear y0 y1 y2 z0 z1 d0 d1 t3
          generalize wr.heap.size = gB at *
          go_loopw [4, 48] (fun s i wr => ∃ (c : Nat) (sz : Int), c ≤ D.length ∧ i = .int .i64 (c : Int) ∧ s = .int .i64 sz ∧ Hid (ChunkTo L GP k c (rows + gr) sz) ∧ (0 ≤ sz ∧ sz ≤ 1073741824)
            ∧ Blk wr w.heap.size 27 #[.slice Ac L.length cc, .int .i64 r, .slice (some ad) G.length cg] ∧ Blk wr gB 45 #[.int .i64 gr, .slice Ach D.length cch] ∧ New w wr) (fun _ i _ => D.length - (intOf i).toNat)
          case atStart => exact ⟨0, size, Nat.zero_le _, rfl, rfl, HE, hsz, B2, BG, b2⟩
          case round =>
            obtain ⟨c, sz, hc, rfl, rfl, H, hsz2, B, BGq, bq⟩ := hrel
            clear HE B2 BG b2
            by_cases hlc : c < D.length
            · have hcL : c < L.length := by omega
              obtain ⟨ac, rfl, hbc, e0⟩ := (Reads.later HCHk.out bq).ch1 hlc
              obtain ⟨al, rfl, hbl, -⟩ := (Reads.later HL.out bq).colT hcL
              have hxm := mem_getDF chZ hlc
              have hpx := HPGk.out _ hxm
              have hsx := HPPk.out _ hxm
              have hm2 := HM2.out c hlc
              have NC := Lib.hid (fun hb => HN.out (H.out.no_chunk (r := r) HLTP.out (by rw [HL2.out]; exact hlc) hb))
              have NX := Lib.hid (fun h1 h2 => H.out.next (by rw [HL2.out]; exact hlc) h1 h2)
              rw [hm2, HG1.out] at NC NX
              have FC := Lib.hid (fun (W : World) (hW : New w W) => show (W.cell? (al.add (c * 3)) = some (.string (bstr (L.getD c colZ).1)) ∧ W.cell? ⟨(al.add (c * 3)).block, (al.add (c * 3)).off + 1, none⟩ = some (.int .i64 (L.getD c colZ).2.1) ∧ W.cell? ⟨(al.add (c * 3)).block, (al.add (c * 3)).off + 2, none⟩ = some (.bool (L.getD c colZ).2.2)) from by
                obtain ⟨al', e, _, f⟩ := (Reads.later HL.out hW).colT hcL
                injection e with e
                subst e
                exact f)
              generalize D.getD c chZ = x at *
              obtain ⟨Ax, cx, pl⟩ := x
              dsimp only at e0 hpx hsx NC NX
              have CSZ := fun (W : World) (hW : New w W) => chunkSize_any (c := L.getD c colZ) (cap := cx) (rows := gr) (Reads.later hpx.1 hW) hsx hpx.2 (by omega)
              have hiff := chunkS_iff (t := (L.getD c colZ).2.1) (nu := (L.getD c colZ).2.2) pl gr 0 (by omega)
              have hbd := chunkS_bound (t := (L.getD c colZ).2.1) (nu := (L.getD c colZ).2.2) pl gr 0 (by omega) (by omega)
              generalize L.getD c colZ = col at *
              obtain ⟨nm, t, nu⟩ := col
              dsimp only at hiff hbd NC NX CSZ
              unfold SizePost at CSZ
              generalize chunkS t nu pl gr 0 = S at *
              obtain ⟨sn, so⟩ := S
              dsimp only at hiff hbd CSZ
              have CSZ : Hid (∀ W, New w W → Calls Tryz.prog 29 #[.agg #[.string (bstr nm), .int .i64 t, .bool nu], .slice Ax pl.length cx, .int .i64 gr] W (fun e w' => e = .returned (.tuple #[.int .i64 sn, .bool so]) ∧ New W w')) := Lib.hid CSZ
              have HIF := Lib.hid hiff
              clear hiff hpx hsx hm2 hxm hbc hbl H
              obtain ⟨y0, y1, y2⟩ := ccells B
              obtain ⟨z0, z1⟩ := cells2 BGq
              dsimp only at FC
              go_wp2_with fail
              refine wp_region_up New [(true, 0), (true, 1), (true, 2), (true, 3), (true, 4), (true, 5), (true, 6), (true, 7), (false, 8), (true, 9), (true, 10), (true, 11), (true, 12), (true, 13)]
                New.refl New.trans (by kernel_rfl) (by kernel_rfl) (by kernel_rfl) (by kernel_rfl) ?_
              have F := Lib.hid (fun (W : World) (hW : New wr W) => And.intro (B.below hW B.lt) (BGq.below hW BGq.lt))
              have hU := New.drew wr
              clear y0 y1 y2 z0 z1 e0
              repeat (first
                | (refine up_quiet rfl rfl (v := ?_) (fun W hQ => ?_) ?_; rotate_left; (obtain ⟨f0, f1, f2⟩ := FC.out W (New.trans bq (New.trans hU hQ)); obtain ⟨F1, F2⟩ := F.out W (New.trans hU hQ); obtain ⟨y0, y1, y2⟩ := ccells F1; obtain ⟨z0, z1⟩ := cells2 F2; clear F1 F2; go_simp <;> with_reducible rfl); simp only [Act.put, List.setIfInBounds_toArray, List.set_cons_zero, List.set_cons_succ]))
              refine up_call rfl rfl (fun K0 hK0 => ?_)
              go_simp
              (with_reducible refine (CSZ.out _ (New.trans bq hU)).mono ?_)
              rintro e u ⟨rfl, bu⟩
              refine hK0 _ _ bu ?_
              replace hU := New.trans hU bu
              clear hK0 bu
              repeat (first
                | (refine up_quiet rfl rfl (v := ?_) (fun W hQ => ?_) ?_; rotate_left; (go_simp <;> with_reducible rfl); simp only [Act.put, List.setIfInBounds_toArray, List.set_cons_zero, List.set_cons_succ]))
              refine up_nil ?_
              obtain ⟨B3, BG3⟩ := F.out _ hU
              have b3 := New.trans bq hU
              clear F FC CSZ hU B BGq bq
              cases so with
              | false =>
                have hM := Lib.hid (NC.out (.inl (fun hh => by have := HIF.out.1.2 hh; simp at this)))
                clear NC NX HIF
                go_wp2
                go_ret
                exact ⟨by rw [hM.out]; rfl, b3⟩
              | true =>
                have hco := HIF.out.1.1 (by trivial)
                have hsn := HIF.out.2 hco
                rw [Int.zero_add] at hsn
                by_cases hbig : 1073741824 < sz + sn
                · have hM := Lib.hid (NC.out (.inr (by rw [← hsn]; exact hbig)))
                  clear NC NX HIF hco hsn
                  go_wp2
                  go_ret
                  exact ⟨by rw [hM.out]; rfl, b3⟩
                · have hN := Lib.hid (NX.out hco (by rw [← hsn]; omega))
                  rw [← hsn] at hN
                  clear NC NX HIF hco hsn
                  go_wp2
                  go_roundw
                  case rel => exact ⟨c + 1, sz + sn, by omega, by go_num, rfl, hN, by omega, B3, BG3, b3⟩
                  case measure => simp [intOf]; omega
            · obtain rfl : c = D.length := by omega
              have hLv := Lib.hid (H.out.leave (by rw [HL2.out]) HLTP.out)
              have hrr := H.out.most
              rw [HG1.out] at hrr
              clear H
              go_wp2
              go_roundw
              case rel => exact ⟨k + 1, rows + gr, sz, by omega, by go_num, rfl, rfl, hLv, by omega, hsz2, B, bq⟩
              case measure => simp [intOf]; omega
        · have t3 : ((D.length : Int) != (L.length : Int)) = true := by simp; omega
          have hM := Lib.hid (NR.out (.inr (.inr h3)))
          clear NR EN h3
          go_wp2
          go_ret
          exact ⟨by rw [hM.out]; rfl, b2⟩
      · obtain rfl : k = G.length := by omega
        have hY := H.out
        rw [← HLen.out] at hY
        have hY := hY.yes (r := r) HCO.out
        obtain ⟨x0, x1, x2⟩ := ccells B
        by_cases he : rows = r
        · have hM := Lib.hid (HY.out (hY.2 he))
          have t1 : (rows == r) = true := by simpa using he
          clear hY HY HN H he
          go_wp2
          go_ret
          exact ⟨by rw [hM.out]; rfl, b⟩
        · have hM := Lib.hid (HN.out (fun hF => he (hY.1 hF)))
          have t1 : (rows == r) = false := by simpa using he
          clear hY HY HN H he
          go_wp2
          go_ret
          exact ⟨by rw [hM.out]; rfl, b⟩
  · have hM := Lib.hid (HN.out (fun hF => hk0 (hck.2 hF.1)))
    have t1 : (colsCk L != 0) = true := by simpa using hk0
    clear HY HN hck hk0
    generalize colsCk L = ck at *
    go_wp2
    go_ret
    exact ⟨by rw [hM.out]; rfl, b01⟩

end Go.Proofs.YtflaaahcoglflaaGreat
/- Spans of rows, as plain lists, and what is over rows. No program is named here. -/

namespace Go.Hm

def spanN (f t s : Nat) : Nat := (t - f + s - 1) / s
def spanAt (f t s i : Nat) : Int × Int := (((f + i * s : Nat) : Int), ((min (f + (i + 1) * s) t : Nat) : Int))
def spansN (f t s : Nat) : List (Int × Int) := (List.range (spanN f t s)).map (spanAt f t s)
theorem spanN_lt {f t s : Nat} (hs : 0 < s) (k : Nat) : k < spanN f t s ↔ f + k * s < t := by
  unfold spanN
  rw [← Nat.succ_le_iff, Nat.le_div_iff_mul_le hs, Nat.succ_mul]
  omega
theorem spanN_le {f t s : Nat} (hs : 0 < s) : spanN f t s ≤ t - f := by
  rcases Nat.eq_zero_or_pos (spanN f t s) with h | h
  · omega
  · have := (spanN_lt (f := f) (t := t) hs (spanN f t s - 1)).1 (by omega)
    have : spanN f t s - 1 ≤ (spanN f t s - 1) * s := Nat.le_mul_of_pos_right _ hs
    omega
theorem spansN_len (f t s : Nat) : (spansN f t s).length = spanN f t s := by simp [spansN]
theorem spansN_at {f t s i : Nat} (hi : i < spanN f t s) : (spansN f t s).getD i (0, 0) = spanAt f t s i := by
  simp [spansN, List.getD_eq_getElem?_getD, List.getElem?_map, List.getElem?_range hi]
theorem spansN_take {f t s k : Nat} (hk : k < spanN f t s) : (spansN f t s).take (k + 1) = (spansN f t s).take k ++ [spanAt f t s k] := by
  rw [take_snoc _ k (0, 0) (by rw [spansN_len]; exact hk), spansN_at hk]
/-- How many rows are behind k spans. -/
def atN (f t s k : Nat) : Nat := min (f + k * s) t
theorem atN_next {f t s k : Nat} (hk : f + k * s < t) : atN f t s k = f + k * s ∧ atN f t s (k + 1) = atN f t s k + min s (t - atN f t s k) ∧ spanAt f t s k = ((atN f t s k : Int), (atN f t s (k + 1) : Int)) := by
  have h1 : atN f t s k = f + k * s := by unfold atN; omega
  refine ⟨h1, ?_, ?_⟩
  · rw [h1]; unfold atN; rw [Nat.succ_mul]; omega
  · rw [h1]; rfl

def cutS (f t s : Int) : List (Int × Int) := if f < 0 ∨ t ≤ f ∨ 65536 < t ∨ s < 1 then [] else spansN f.toNat t.toNat s.toNat
theorem cutS_none {f t s : Int} (h : f < 0 ∨ t ≤ f ∨ 65536 < t ∨ s < 1) : cutS f t s = [] := by rw [cutS, if_pos h]
theorem cutS_nat {f t s : Nat} (h1 : f < t) (h2 : t ≤ 65536) (h3 : 0 < s) : cutS f t s = spansN f t s := by
  rw [cutS, if_neg (by omega)]; simp
theorem cutS_len (f t s : Int) : (cutS f t s).length ≤ 65536 := by
  unfold cutS
  split
  · simp
  · rw [spansN_len]
    have := spanN_le (f := f.toNat) (t := t.toNat) (s := s.toNat) (by omega)
    omega

/-- A span has rows from f on, ahead of t. -/
def hasS (x : Int × Int) (f t : Int) : Prop := x.1 < t ∧ f < x.2 ∧ f < t
instance (x : Int × Int) (f t : Int) : Decidable (hasS x f t) := by unfold hasS; exact inferInstance
/-- Just the spans from a on, ahead of b, have rows of these. -/
def IsOver (l : List (Int × Int)) (f t : Int) (a b : Nat) : Prop := a ≤ b ∧ b ≤ l.length ∧ (a < b ∨ a = 0 ∧ b = 0) ∧ ∀ i, i < l.length → ((a ≤ i ∧ i < b) ↔ hasS (l.getD i (0, 0)) f t)
theorem IsOver.one {l : List (Int × Int)} {f t : Int} {a b c d : Nat} (h : IsOver l f t a b) (k : IsOver l f t c d) : a = c ∧ b = d := by
  obtain ⟨h1, h2, h3, h4⟩ := h
  obtain ⟨k1, k2, k3, k4⟩ := k
  have key : ∀ i, i < l.length → ((a ≤ i ∧ i < b) ↔ (c ≤ i ∧ i < d)) := fun i hi => (h4 i hi).trans (k4 i hi).symm
  rcases h3 with h3 | ⟨rfl, rfl⟩
  · have := (key a (by omega)).1 ⟨Nat.le_refl _, h3⟩
    have := (key (b - 1) (by omega)).1 (by omega)
    have := (key c (by omega)).2 (by omega)
    have := (key (d - 1) (by omega)).2 (by omega)
    omega
  · rcases k3 with k3 | ⟨rfl, rfl⟩
    · have := (key c (by omega)).2 (by omega)
      omega
    · exact ⟨rfl, rfl⟩
/-- Both ends of the spans go up, and no span is empty. -/
def UpS (l : List (Int × Int)) : Prop := (∀ i j, i ≤ j → j < l.length → (l.getD i (0, 0)).1 ≤ (l.getD j (0, 0)).1 ∧ (l.getD i (0, 0)).2 ≤ (l.getD j (0, 0)).2) ∧ ∀ i, i < l.length → (l.getD i (0, 0)).1 < (l.getD i (0, 0)).2
theorem spansN_up {f t s : Nat} (hs : 0 < s) : UpS (spansN f t s) := by
  refine ⟨fun i j hij hj => ?_, fun i hi => ?_⟩
  · rw [spansN_len] at hj
    rw [spansN_at hj, spansN_at (by omega)]
    have h1 : i * s ≤ j * s := Nat.mul_le_mul_right _ hij
    have h2 : (i + 1) * s ≤ (j + 1) * s := Nat.mul_le_mul_right _ (by omega)
    unfold spanAt
    simp only
    omega
  · rw [spansN_len] at hi
    rw [spansN_at hi]
    have := (spanN_lt hs i).1 hi
    unfold spanAt
    simp only
    rw [Nat.succ_mul]
    omega
theorem cutS_up (f t s : Int) : UpS (cutS f t s) := by
  unfold cutS
  split
  · exact ⟨fun i j _ h => by simp at h, fun i h => by simp at h⟩
  · exact spansN_up (by omega)
theorem over_of {l : List (Int × Int)} {f t : Int} {x y : Nat} (hft : f < t) (hy : y ≤ l.length) (hxy : x < y)
    (h1 : ∀ i, i < x → (l.getD i (0, 0)).2 ≤ f) (h2 : ∀ i, x ≤ i → i < l.length → f < (l.getD i (0, 0)).2) (h3 : ∀ i, i < y → (l.getD i (0, 0)).1 < t) (h4 : ∀ i, y ≤ i → i < l.length → t ≤ (l.getD i (0, 0)).1) : IsOver l f t x y := by
  refine ⟨by omega, hy, .inl hxy, fun i hi => ?_⟩
  unfold hasS
  have a1 := h1 i
  have a2 := h2 i
  have a3 := h3 i
  have a4 := h4 i
  constructor
  · rintro ⟨b1, b2⟩
    exact ⟨a3 b2, a2 b1 hi, hft⟩
  · rintro ⟨b1, b2, _⟩
    refine ⟨?_, ?_⟩
    · rcases Nat.lt_or_ge i x with h | h
      · have := a1 h; omega
      · exact h
    · rcases Nat.lt_or_ge i y with h | h
      · exact h
      · have := a4 h hi; omega
theorem over_none {l : List (Int × Int)} {f t : Int} (h : ∀ i, i < l.length → ¬ hasS (l.getD i (0, 0)) f t) : IsOver l f t 0 0 :=
  ⟨Nat.le_refl _, by omega, .inr ⟨rfl, rfl⟩, fun i hi => ⟨fun h' => by omega, fun h' => absurd h' (h i hi)⟩⟩
theorem over_far {l : List (Int × Int)} {f t : Int} {x y : Nat} (hxy : y ≤ x) (h1 : ∀ i, i < x → (l.getD i (0, 0)).2 ≤ f) (h4 : ∀ i, y ≤ i → i < l.length → t ≤ (l.getD i (0, 0)).1) : IsOver l f t 0 0 := by
  refine over_none fun i hi hh => ?_
  obtain ⟨b1, b2, _⟩ := hh
  rcases Nat.lt_or_ge i x with h | h
  · have := h1 i h; omega
  · have := h4 i (by omega) hi; omega
/-- What has rows lies side by side. -/
theorem has_between {l : List (Int × Int)} (hu : UpS l) {f t : Int} {i j k : Nat} (hij : i ≤ j) (hjk : j ≤ k) (hk : k < l.length) (hi : hasS (l.getD i (0, 0)) f t) (h : hasS (l.getD k (0, 0)) f t) : hasS (l.getD j (0, 0)) f t := by
  have h1 := hu.1 j k hjk hk
  have h2 := hu.1 i j hij (by omega)
  unfold hasS at *
  omega

end Go.Hm
/- Contracts of package layout's Cut, and of its answer. -/

namespace Go.Proofs.YtflaaahcoglflaaGreat
open Go.RowKit Go.Hm
theorem elP : ElT Tryz.prog 48 51 (.agg #[.int .i64 0, .int .i64 0]) 2 16 := ⟨by kernel_rfl, by kernel_rfl, rfl, by omega⟩
/-- Spans, a row of the call's own. -/
def SpansPost (l : List (Int × Int)) (w : World) (e : Ending) (w' : World) : Prop := ∃ A n c, e = .returned (.slice A n c) ∧ w'.ownsRow w.heap.size 51 2 (.slice A n c) n (pairs l) ∧ New w w'
theorem pairs_snoc (l : List (Int × Int)) (p : Int × Int) : pairs (l ++ [p]) = pairs l ++ [.int .i64 p.1, .int .i64 p.2] := by simp [pairs]



end Go.Proofs.YtflaaahcoglflaaGreat
/- footer.hasChunk and footer.Spans: contracts. -/

namespace Go.Hm
open Go Go.RowKit
/-- Whether a footer of so many columns and groups has chunk c of group g. -/
def inB (nl ng : Nat) (g c : Int) : Bool := decide (0 ≤ g ∧ g < (ng : Int) ∧ 0 ≤ c ∧ c < (nl : Int))
/-- The spans of a chunk's pages, from a row on. -/
def spansL (a : Int) : List PageS → List (Int × Int)
  | [] => []
  | p :: l => (a, a + p.2.1) :: spansL (a + p.2.1) l
theorem spansL_snoc (a : Int) : ∀ (l : List PageS) (p : PageS), spansL a (l ++ [p]) = spansL a l ++ [(a + rowsL l, a + rowsL l + p.2.1)]
  | [], p => by simp [spansL, rowsL]
  | q :: l, p => by
    have e : a + q.2.1 + rowsL l = a + rowsL (q :: l) := by rw [rowsL_cons]; omega
    simp only [List.cons_append, spansL, spansL_snoc (a + q.2.1) l p, e]
theorem spansL_len (a : Int) : ∀ l : List PageS, (spansL a l).length = l.length
  | [] => rfl
  | p :: l => by simp [spansL, spansL_len _ l]
theorem rowsL_snoc (l : List PageS) (p : PageS) : rowsL (l ++ [p]) = rowsL l + p.2.1 := by simp [rowsL]
/-- Rows of the groups ahead of group k. -/
def aheadR (G : List GroupS) (k : Nat) : Int := ((G.take k).map (·.1)).sum
/-- The pages of chunk c of group g. -/
def pagesAt (G : List GroupS) (g c : Nat) : List PageS := (G.getD g groupZ).2.getD c []
noncomputable def spansF (F : FootS) (g c : Int) : List (Int × Int) :=
  if rightF F && inB F.cols.length F.groups.length g c then spansL (aheadR F.groups g.toNat) (pagesAt F.groups g.toNat c.toNat) else []
theorem foot_group {F : FootS} (h : FootOk F) {k : Nat} (hk : k < F.groups.length) : GroupOk F.cols (F.groups.getD k groupZ) := h.2.1 _ (mem_getDF groupZ hk)

end Go.Hm

namespace Go.Proofs.YtflaaahcoglflaaGreat
open Go.RowKit Go.Hm
set_option maxHeartbeats 2000000 in
set_option maxRecDepth 100000 in
theorem hasChunk_any {w : World} {Ac Ag : Option Addr} {nl cc ng cg : Nat} {r g c : Int} :
    Calls Tryz.prog 27 #[.agg #[.slice Ac nl cc, .int .i64 r, .slice Ag ng cg], .int .i64 g, .int .i64 c] w (NewPost (.bool (inB nl ng g c)) w) := by
  have B0 := Blk.new w 27 #[.slice Ac nl cc, .int .i64 r, .slice Ag ng cg]
  have b0 : New w (w.alloc (.cells #[.slice Ac nl cc, .int .i64 r, .slice Ag ng cg] 27)) := (Below.refl _ _).alloc (Nat.le_refl _) _
  obtain ⟨x0, x1, x2⟩ := ccells B0
  obtain ⟨R, hR⟩ : ∃ R, R = inB nl ng g c := ⟨_, rfl⟩
  rw [← hR]
  unfold inB at hR
  by_cases h1 : 0 ≤ g <;> by_cases h2 : g < (ng : Int) <;> by_cases h3 : 0 ≤ c <;> by_cases h4 : c < (nl : Int)
  all_goals
    first
      | (have e : R = true := by rw [hR]; simp; omega)
      | (have e : R = false := by rw [hR]; simp; omega)
    subst e
    clear hR
    go_enter Tryz.func27, Tryz.ntmps27
    go_wp2
    all_goals
      first
        | (exfalso; omega)
        | (go_ret; exact ⟨rfl, b0⟩)
theorem inB_yes {nl ng : Nat} {g c : Int} (h : inB nl ng g c = true) : ∃ gk ck : Nat, g = (gk : Int) ∧ c = (ck : Int) ∧ gk < ng ∧ ck < nl := by
  unfold inB at h
  simp only [decide_eq_true_eq] at h
  exact ⟨g.toNat, c.toNat, by omega, by omega, by omega, by omega⟩
/-- What a right footer's rows are. -/
theorem foot_ahead {F : FootS} (h : FootOk F) {k : Nat} (hk : k < F.groups.length) : 0 ≤ aheadR F.groups k ∧ aheadR F.groups (k + 1) = aheadR F.groups k + (F.groups.getD k groupZ).1 ∧ aheadR F.groups (k + 1) ≤ 65536 ∧ 1 ≤ (F.groups.getD k groupZ).1 := by
  have h1 := sum_take_succ (fun g : GroupS => g.1) F.groups k groupZ hk
  have h2 := foot_rows h hk
  have h3 := sum_nonneg (fun g : GroupS => g.1) (F.groups.take k) (fun g hg => by have := (h.2.1 g (List.mem_of_mem_take hg)).1; omega)
  unfold aheadR
  exact ⟨h3, h1, by omega, (foot_group h hk).1⟩
theorem foot_chunk {F : FootS} (h : FootOk F) {k c : Nat} (hk : k < F.groups.length) (hc : c < F.cols.length) : ChunkOk (F.cols.getD c colZ).2.1 (F.cols.getD c colZ).2.2 (pagesAt F.groups k c) (F.groups.getD k groupZ).1 ∧ (F.groups.getD k groupZ).2.length = F.cols.length := by
  have := foot_group h hk
  exact ⟨this.2.2 c hc, this.2.1⟩
theorem rowsL_take {t : Int} {nu : Bool} {l : List PageS} {r : Int} (h : ChunkOk t nu l r) {k : Nat} (hk : k < l.length) :
    0 ≤ rowsL (l.take k) ∧ rowsL (l.take (k + 1)) = rowsL (l.take k) + (l.getD k pageZ).2.1 ∧ rowsL (l.take (k + 1)) ≤ r := by
  have h1 := sum_take_succ (fun p : PageS => p.2.1) l k pageZ hk
  have h2 := sum_take_le (fun p : PageS => p.2.1) l (k + 1) (fun p hp => by have := (pageB_most.1 (h.1 p hp)).1; omega)
  have h3 := sum_nonneg (fun p : PageS => p.2.1) (l.take k) (fun p hp => by have := (pageB_most.1 (h.1 p (List.mem_of_mem_take hp))).1; omega)
  have h4 := h.2
  unfold rowsL at *
  exact ⟨h3, h1, by omega⟩
set_option maxHeartbeats 4000000 in
set_option maxRecDepth 100000 in
theorem fspans_any {w : World} {Ac : Option Addr} {cc : Nat} {L : List ColS} {r : Int} {Ag : Option Addr} {cg : Nat} {G : List GrD} (h : FootIn w Ac cc L Ag G) (hp : ∀ g ∈ G, ∀ x ∈ g.2.2.2, ∀ p ∈ x.2.2, statFine p.2.2) (hcg : G.length ≤ cg) {g c : Int} :
    Calls Tryz.prog 9 #[footA Ac cc L r Ag cg G, .int .i64 g, .int .i64 c] w (SpansPost (spansF (footP L r G) g c) w) := by
  have HR := fun (W : World) (hW : New w W) => fright_any (r := r) (cc := cc) (cg := cg) (h.later hW) hp
  have HH := Lib.hid (fun (W : World) => hasChunk_any (w := W) (Ac := Ac) (Ag := Ag) (nl := L.length) (cc := cc) (ng := G.length) (cg := cg) (r := r) (g := g) (c := c))
  have hX : spansF (footP L r G) g c = if rightF (footP L r G) && inB L.length G.length g c then spansL (aheadR (G.map grP) g.toNat) (pagesAt (G.map grP) g.toNat c.toNat) else [] := by
    unfold spansF footP
    simp only [List.length_map]
  have hF : rightF (footP L r G) = true → FootOk (footP L r G) := fun e => by unfold rightF at e; simpa using e
  have B0 := Blk.new w 27 #[.slice Ac L.length cc, .int .i64 r, .slice Ag G.length cg]
  have b0 : New w (w.alloc (.cells #[.slice Ac L.length cc, .int .i64 r, .slice Ag G.length cg] 27)) := (Below.refl _ _).alloc (Nat.le_refl _) _
  obtain ⟨x0, x1, x2⟩ := ccells B0
  have HG := Lib.hid h.groups
  have HCH := Lib.hid h.chunks
  have HPG := Lib.hid h.pages
  have hfew2 := h.few2
  have hB := @inB_yes L.length G.length g c
  clear h hp
  generalize inB L.length G.length g c = I at *
  show Calls Tryz.prog 9 #[.agg #[.slice Ac L.length cc, .int .i64 r, .slice Ag G.length cg], .int .i64 g, .int .i64 c] w (SpansPost (spansF (footP L r G) g c) w)
  generalize spansF (footP L r G) g c = X at *
  generalize rightF (footP L r G) = M at *
  have HR : Hid (∀ W, New w W → Calls Tryz.prog 11 #[.agg #[.slice Ac L.length cc, .int .i64 r, .slice Ag G.length cg]] W (NewPost (.bool M) W)) := Lib.hid HR
  cases M with
  | false =>
    obtain rfl : X = [] := by rw [hX]; rfl
    clear hX hF hB
    go_enter Tryz.func9, Tryz.ntmps9
    go_wp2_with fail
    refine (HR.out _ b0).mono ?_
    rintro e w1 ⟨rfl, b1⟩
    have b01 := New.trans b0 b1
    clear b0 b1
    go_wp2
    go_ret
    exact ⟨none, 0, 0, rfl, row_nil, b01⟩
  | true =>
    have hok := hF rfl
    clear hF
    cases I with
    | false =>
      obtain rfl : X = [] := by rw [hX]; rfl
      clear hX hB
      go_enter Tryz.func9, Tryz.ntmps9
      go_wp2_with fail
      refine (HR.out _ b0).mono ?_
      rintro e w1 ⟨rfl, b1⟩
      have B1 := B0.below b1 B0.lt
      have b01 := New.trans b0 b1
      clear b0 b1 B0 x0 x1 x2
      obtain ⟨x0, x1, x2⟩ := ccells B1
      go_wp2_with fail
      refine (HH.out _).mono ?_
      rintro e w2 ⟨rfl, b2⟩
      have b02 := New.trans b01 b2
      clear b01 b2
      go_wp2
      go_ret
      exact ⟨none, 0, 0, rfl, row_nil, b02⟩
    | true =>
      obtain ⟨gk, ck, rfl, rfl, hgk, hck⟩ := hB rfl
      clear hB
      replace hX : X = spansL (aheadR (G.map grP) gk) (pagesAt (G.map grP) gk ck) := hX
      have hAH := fun (k : Nat) (hk : k < G.length) => foot_ahead hok (k := k) (by unfold footP; simpa using hk)
      have hCK := foot_chunk hok (k := gk) (c := ck) (by unfold footP; simpa using hgk) hck
      unfold footP at hAH hCK
      dsimp only at hAH hCK
      have hMap := fun (k : Nat) (hk : k < G.length) => getD_mapX grP G (k := k) grZ groupZ hk
      have HAH := Lib.hid (fun (k : Nat) (hk : k < G.length) => show 0 ≤ aheadR (G.map grP) k ∧ aheadR (G.map grP) (k + 1) = aheadR (G.map grP) k + (G.getD k grZ).1 ∧ aheadR (G.map grP) (k + 1) ≤ 65536 ∧ 1 ≤ (G.getD k grZ).1 by
        have := hAH k hk
        rw [hMap k hk] at this
        exact this)
      have h65 := hAH gk hgk
      rw [hMap gk hgk] at h65
      have hMG := hMap gk hgk
      unfold pagesAt at hX hCK
      rw [hMG] at hX hCK
      have ha0 : aheadR (G.map grP) 0 = 0 := rfl
      have HA0 := Lib.hid ha0
      generalize hAR : aheadR (G.map grP) = AR at *
      clear hAR hAH hMap hMG ha0
      go_enter Tryz.func9, Tryz.ntmps9
      go_wp2_with fail
      refine (HR.out _ b0).mono ?_
      rintro e w1 ⟨rfl, b1⟩
      have B1 := B0.below b1 B0.lt
      have b01 := New.trans b0 b1
      clear b0 b1 B0 x0 x1 x2
      obtain ⟨x0, x1, x2⟩ := ccells B1
      go_wp2_with fail
      refine (HH.out _).mono ?_
      rintro e w2 ⟨rfl, b2⟩
      have B2 := B1.below b2 B1.lt
      have b02 := New.trans b01 b2
      clear b01 b2 B1 x0 x1 x2 HR HH
      obtain ⟨x0, x1, x2⟩ := ccells B2
      have hcg2 : (gk : Int) ≤ (cg : Int) := by omega
      go_wp2_with fail
      clear x0 x1 x2
      go_loopw [7, 28] (fun a i wr => ∃ k : Nat, k ≤ gk ∧ i = .int .i64 (k : Int) ∧ a = .int .i64 (AR k) ∧ Blk wr w.heap.size 27 #[.slice Ac L.length cc, .int .i64 r, .slice Ag G.length cg] ∧ New w wr) (fun _ i _ => gk - (intOf i).toNat)
      case atStart => exact ⟨0, Nat.zero_le _, rfl, by rw [HA0.out], B2, b02⟩
      case round =>
        obtain ⟨k, hk, rfl, rfl, B, b⟩ := hrel
        clear B2 b02
        by_cases hlt : k < gk
        · obtain ⟨ad, rfl, hb, d0, d1⟩ := (Reads.later HG.out b).gr2 (i := k) (by omega)
          obtain ⟨a1, a2, a3, a4⟩ := HAH.out k (by omega)
          have HA2 := Lib.hid a2
          have hq : AR k + (G.getD k grZ).1 ≤ 65536 := by omega
          have hq0 : 0 ≤ AR k + (G.getD k grZ).1 := by omega
          clear a2 a3 a4 hX h65 hCK
          generalize AR k = ak at *
          generalize G.getD k grZ = gg at *
          obtain ⟨gr, Ach, cch, D⟩ := gg
          dsimp only at d0 d1 HA2 hq hq0
          have ha : New wr (wr.alloc (.cells #[.int .i64 gr, .slice Ach D.length cch] 45)) := (Below.refl _ _).alloc (Nat.le_refl _) _
          have BG := Blk.new wr 45 #[.int .i64 gr, .slice Ach D.length cch]
          have B3 := B.below ha B.lt
          have b3 := New.trans b ha
          obtain ⟨z0, z1⟩ := cells2 BG
          clear B b ha BG
          go_wp2_with fail
          go_roundw
          case rel => exact ⟨k + 1, by omega, by go_num, by rw [HA2.out], B3, b3⟩
          case measure => simp [intOf]; omega
        · obtain rfl : k = gk := by omega
          obtain ⟨x0, x1, x2⟩ := ccells B
          obtain ⟨ad, rfl, hb, d0, d1⟩ := (Reads.later HG.out b).gr2 hgk
          have hgm := mem_getDF grZ hgk
          have hch := HCH.out _ hgm
          have hpg := HPG.out _ hgm
          clear hlt HAH hk hb hgm
          generalize G.getD k grZ = gg at *
          obtain ⟨gr, Ach, cch, D⟩ := gg
          unfold grP at hCK hX h65
          dsimp only at d0 d1 hCK hX h65 hch hpg
          have hD : D.length = L.length := by have := hCK.2; simpa using this
          have hckD : ck < D.length := by omega
          rw [getD_mapX (fun x : ChD => x.2.2) D chZ [] hckD] at hCK hX
          obtain ⟨ac, rfl, hbc, e0⟩ := (Reads.later hch.1 b).ch1 hckD
          have hxm := mem_getDF chZ hckD
          have hpx := hpg _ hxm
          clear hpg hch hxm hbc
          have hCK := hCK.1
          generalize D.getD ck chZ = x at *
          obtain ⟨Ax, cx, pl⟩ := x
          dsimp only at e0 hpx hCK hX
          have HPL := Lib.hid hpx.1
          have hpn := hpx.2
          have RT := Lib.hid (fun (q : Nat) (hq : q < pl.length) => rowsL_take hCK hq)
          have h65a : 0 ≤ AR k := h65.1
          have h65b : AR k + gr ≤ 65536 := by omega
          have hplr := (rowsL_pos hCK.1).2
          have hgr := hCK.2
          have HX := Lib.hid hX
          generalize AR k = a0 at *
          have HCK := Lib.hid hCK
          clear hpx h65 hok hCK hX
          have hDi : (ck : Int) < (D.length : Int) := by omega
          go_wp2_with fail
          clear x0 x1 x2 d0 d1 e0
          go_loopw [10, 7, 47] (fun v a i wr => ∃ (q : Nat) (A : Option Addr) (d : Nat), q ≤ pl.length ∧ i = .int .i64 (q : Int) ∧ v = .slice A q d ∧ a = .int .i64 (a0 + rowsL (pl.take q)) ∧ wr.ownsRow w.heap.size 51 2 (.slice A q d) q (pairs (spansL a0 (pl.take q))) ∧ New w wr) (fun _ _ i _ => pl.length - (intOf i).toNat)
          case atStart => exact ⟨0, none, 0, Nat.zero_le _, rfl, rfl, by simp [rowsL], row_nil, b⟩
          case round =>
            obtain ⟨q, A, d, hq, rfl, rfl, rfl, o, b⟩ := hrel
            by_cases hlq : q < pl.length
            · obtain ⟨ap, rfl, hbp, d0, d1, d2, d3, d4, d5, d6, d7, d8, d9, d10, d11, d12, d13⟩ := (Reads.later HPL.out b).page14 hlq
              obtain ⟨r1, r2, r3⟩ := RT.out q hlq
              have htk := take_snoc pl q pageZ hlq
              have hsn := spansL_snoc a0 (pl.take q) (pl.getD q pageZ)
              rw [← htk] at hsn
              have HS := Lib.hid hsn
              have H2 := Lib.hid r2
              have b65 : a0 + (rowsL (pl.take q) + (pl.getD q pageZ).2.1) ≤ 65536 := by omega
              have b0 : 0 ≤ a0 + (rowsL (pl.take q) + (pl.getD q pageZ).2.1) := by have := ((pageB_most.1 (HCK.out.1 _ (mem_getDF pageZ hlq))).1); omega
              clear r2 r3 htk hsn hbp
              generalize rowsL (pl.take q) = rq at *
              generalize pl.getD q pageZ = p at *
              obtain ⟨sz, rw, nn, bb, ⟨p1, p2, p3, p4, p5⟩, ⟨q1, q2, q3, q4, q5⟩⟩ := p
              dsimp only at d0 d1 d2 d3 d4 d5 d6 d7 d8 d9 d10 d11 d12 d13 HS H2 b65 b0
              have ha : New wr (wr.alloc (.cells #[.int .i64 sz, .int .i64 rw, .int .i64 nn, .bool bb, .bool p1, .int .i64 p2, .string (bstr p3), .int .i64 p4, .int .i64 p5, .bool q1, .int .i64 q2, .string (bstr q3), .int .i64 q4, .int .i64 q5] 41)) := (Below.refl _ _).alloc (Nat.le_refl _) _
              have BP := Blk.new wr 41 #[.int .i64 sz, .int .i64 rw, .int .i64 nn, .bool bb, .bool p1, .int .i64 p2, .string (bstr p3), .int .i64 p4, .int .i64 p5, .bool q1, .int .i64 q2, .string (bstr q3), .int .i64 q4, .int .i64 q5]
              have o2 := row_later o ha
              have b2 := New.trans b ha
              have z0 := b2.size
              obtain ⟨e0, e1, e2, e3, e4, e5, e6, e7, e8, e9, e10, e11, e12, e13⟩ := cells14 BP
              have hq6 : q ≤ 65536 := by omega
              clear o b ha
              go_wp2_with (refine wpList_pushR elP rfl (.tmp 51) (.tmp 58) rfl (W := w) (B := w.heap.size) (base := w.heap.size) (n := q) o2 rfl (by simp only [World.size_alloc]; rfl) b2 (Nat.le_refl _) z0 rfl (by simp [Value.oneCell']) (by omega) (by simp only [maxLen]; omega) ?_
                           intro A' c' w' _ _ o' g' b' _ _
                           have BP2 := BP.grown g' (fun e => row_blk_ne o2 BP (by decide) e.symm)
                           obtain ⟨f0, f1, f2, f3, f4, f5, f6, f7, f8, f9, f10, f11, f12, f13⟩ := cells14 BP2)
              go_roundw
              case rel => exact ⟨q + 1, A', c', by omega, by go_num, rfl, by rw [H2.out]; congr 1; omega, by rw [HS.out, pairs_snoc]; exact o', b'⟩
              case measure => simp [intOf]; omega
            · obtain rfl : q = pl.length := by omega
              rw [List.take_length] at o
              have O := Lib.hid o
              clear o
              go_wp2
              go_ret
              exact ⟨A, pl.length, d, rfl, by rw [HX.out]; exact O.out, b⟩

end Go.Proofs.YtflaaahcoglflaaGreat
/- footer.Place: its contract. -/

namespace Go.Proofs.YtflaaahcoglflaaGreat
open Go Go.RowKit Go.Hm
def placeG (G : List GroupS) (k : Nat) : Int := ((G.take k).map groupSize).sum
def placeC (g : GroupS) (j : Nat) : Int := ((g.2.take j).map sizesL).sum
/-- Where page q of chunk j of group k begins. -/
def placeV (G : List GroupS) (k j q : Nat) : Int := placeG G k + placeC (G.getD k groupZ) j + sizesL ((pagesAt G k j).take q)
def endB (ng : Nat) (g c p : Int) : Bool := decide (g = (ng : Int) ∧ c = 0 ∧ p = 0)
def pgB (n : Nat) (p : Int) : Bool := decide (0 ≤ p ∧ p < (n : Int))
noncomputable def placeF (F : FootS) (g c p : Int) : Int :=
  if rightF F && (endB F.groups.length g c p || (inB F.cols.length F.groups.length g c && pgB (pagesAt F.groups g.toNat c.toNat).length p)) then placeV F.groups g.toNat c.toNat p.toNat else -1
theorem placeV_zero (G : List GroupS) : placeV G 0 0 0 = 0 := rfl
theorem placeV_page {F : FootS} (h : FootOk F) {k j q : Nat} (hk : k < F.groups.length) (hj : j < F.cols.length) (hq : q < (pagesAt F.groups k j).length) :
    0 ≤ placeV F.groups k j q ∧ placeV F.groups k j (q + 1) = placeV F.groups k j q + ((pagesAt F.groups k j).getD q pageZ).1 ∧ placeV F.groups k j (q + 1) ≤ 1073741824 ∧ 1 ≤ ((pagesAt F.groups k j).getD q pageZ).1 := by
  obtain ⟨hc, hl⟩ := foot_chunk h hk hj
  have hpos := fun p (hp : p ∈ pagesAt F.groups k j) => (pageB_most.1 (hc.1 p hp)).1.2.2.1
  have h1 := sum_take_succ (fun p : PageS => p.1) (pagesAt F.groups k j) q pageZ hq
  have h2 := sum_take_le (fun p : PageS => p.1) (pagesAt F.groups k j) (q + 1) (fun p hp => by have := hpos p hp; omega)
  have h3 := sum_nonneg (fun p : PageS => p.1) ((pagesAt F.groups k j).take q) (fun p hp => by have := hpos p (List.mem_of_mem_take hp); omega)
  have h4 := foot_size h (c := j + 1) hk
  have h5 := sum_take_succ sizesL (F.groups.getD k groupZ).2 j [] (by omega)
  have h6 := sum_nonneg groupSize (F.groups.take k) (fun g hg => (h.2.1 g (List.mem_of_mem_take hg)).nonneg)
  have h7 := sum_nonneg sizesL ((F.groups.getD k groupZ).2.take j) (fun l hl => (foot_group h hk).sizes l (List.mem_of_mem_take hl))
  have h8 := hpos _ (mem_getDF pageZ hq)
  unfold placeV placeG placeC
  unfold pagesAt at *
  unfold sizesL at *
  refine ⟨by omega, by omega, by omega, h8⟩
theorem placeV_chunk {F : FootS} (h : FootOk F) {k j : Nat} (hk : k < F.groups.length) (hj : j < F.cols.length) : placeV F.groups k j (pagesAt F.groups k j).length = placeV F.groups k (j + 1) 0 := by
  obtain ⟨hc, hl⟩ := foot_chunk h hk hj
  have h5 := sum_take_succ sizesL (F.groups.getD k groupZ).2 j [] (by omega)
  unfold placeV placeC
  rw [List.take_length, h5]
  unfold pagesAt
  simp only [List.take_zero]
  have : sizesL [] = 0 := rfl
  omega
theorem placeV_group {F : FootS} (h : FootOk F) {k : Nat} (hk : k < F.groups.length) : placeV F.groups k F.cols.length 0 = placeV F.groups (k + 1) 0 0 := by
  have hl := (foot_group h hk).2.1
  have h5 := sum_take_succ groupSize F.groups k groupZ hk
  unfold placeV placeG placeC
  rw [h5, ← hl, List.take_length]
  simp only [List.take_zero, List.map_nil, List.sum_nil]
  have : sizesL [] = 0 := rfl
  unfold groupSize
  omega
set_option maxHeartbeats 4000000 in
set_option maxRecDepth 100000 in
theorem place_any {w : World} {Ac : Option Addr} {cc : Nat} {L : List ColS} {r : Int} {Ag : Option Addr} {cg : Nat} {G : List GrD} (h : FootIn w Ac cc L Ag G) (hp : ∀ g ∈ G, ∀ x ∈ g.2.2.2, ∀ p ∈ x.2.2, statFine p.2.2) {g c p : Int} :
    Calls Tryz.prog 10 #[footA Ac cc L r Ag cg G, .int .i64 g, .int .i64 c, .int .i64 p] w (NewPost (.int .i64 (placeF (footP L r G) g c p)) w) := by
  have HR := fun (W : World) (hW : New w W) => fright_any (r := r) (cc := cc) (cg := cg) (h.later hW) hp
  have HH := Lib.hid (fun (W : World) => hasChunk_any (w := W) (Ac := Ac) (Ag := Ag) (nl := L.length) (cc := cc) (ng := G.length) (cg := cg) (r := r) (g := g) (c := c))
  have hX : placeF (footP L r G) g c p = if rightF (footP L r G) && (endB G.length g c p || (inB L.length G.length g c && pgB (pagesAt (G.map grP) g.toNat c.toNat).length p)) then placeV (G.map grP) g.toNat c.toNat p.toNat else -1 := by
    unfold placeF footP
    simp only [List.length_map]
  have hF : rightF (footP L r G) = true → FootOk (footP L r G) := fun e => by unfold rightF at e; simpa using e
  have B0 := Blk.new w 27 #[.slice Ac L.length cc, .int .i64 r, .slice Ag G.length cg]
  have b0 : New w (w.alloc (.cells #[.slice Ac L.length cc, .int .i64 r, .slice Ag G.length cg] 27)) := (Below.refl _ _).alloc (Nat.le_refl _) _
  obtain ⟨x0, x1, x2⟩ := ccells B0
  have HG := Lib.hid h.groups
  have HCH := Lib.hid h.chunks
  have HPG := Lib.hid h.pages
  have hfew2 := h.few2
  have hB := @inB_yes L.length G.length g c
  clear h hp
  have hI : inB L.length G.length g c = decide (0 ≤ g ∧ g < (G.length : Int) ∧ 0 ≤ c ∧ c < (L.length : Int)) := rfl
  generalize inB L.length G.length g c = I at *
  show Calls Tryz.prog 10 #[.agg #[.slice Ac L.length cc, .int .i64 r, .slice Ag G.length cg], .int .i64 g, .int .i64 c, .int .i64 p] w (NewPost (.int .i64 (placeF (footP L r G) g c p)) w)
  generalize placeF (footP L r G) g c p = X at *
  generalize rightF (footP L r G) = M at *
  have HR : Hid (∀ W, New w W → Calls Tryz.prog 11 #[.agg #[.slice Ac L.length cc, .int .i64 r, .slice Ag G.length cg]] W (NewPost (.bool M) W)) := Lib.hid HR
  cases M with
  | false =>
    obtain rfl : X = -1 := by rw [hX]; rfl
    clear hX hF hB hI
    go_enter Tryz.func10, Tryz.ntmps10
    go_wp2_with fail
    go_step3
    go_wp2_with fail
    refine (HR.out _ b0).mono ?_
    rintro e w1 ⟨rfl, b1⟩
    have b01 := New.trans b0 b1
    clear b0 b1
    go_wp2
    try rw [Exit.noGoto_ret]
    go_ret
    exact ⟨rfl, b01⟩
  | true =>
    have hok := hF rfl
    clear hF
    rw [Bool.true_and] at hX
    have hHH : ∀ (W : World) (g' c' : Int), Calls Tryz.prog 27 #[.agg #[.slice Ac L.length cc, .int .i64 r, .slice Ag G.length cg], .int .i64 g', .int .i64 c'] W (NewPost (.bool (inB L.length G.length g' c')) W) := fun W g' c' => hasChunk_any
    have HDL := Lib.hid (fun (k : Nat) (hk : k < G.length) => show (G.getD k grZ).2.2.2.length = L.length by
      have := (foot_group hok (k := k) (by unfold footP; simpa using hk)).2.1
      unfold footP at this
      dsimp only at this
      rw [getD_mapX grP G grZ groupZ hk] at this
      unfold grP at this
      simpa using this)
    have hPA := fun (k : Nat) (hk : k < G.length) (j : Nat) (hj : j < (G.getD k grZ).2.2.2.length) => show pagesAt (G.map grP) k j = ((G.getD k grZ).2.2.2.getD j chZ).2.2 by
      unfold pagesAt
      rw [getD_mapX grP G grZ groupZ hk]
      exact getD_mapX (fun x : ChD => x.2.2) (G.getD k grZ).2.2.2 chZ [] hj
    have VZ := Lib.hid (placeV_zero (G.map grP))
    have VP := Lib.hid (fun (k : Nat) (hk : k < G.length) (j : Nat) (hj : j < (G.getD k grZ).2.2.2.length) (q : Nat) (hq : q < ((G.getD k grZ).2.2.2.getD j chZ).2.2.length) =>
      show 0 ≤ placeV (G.map grP) k j q ∧ placeV (G.map grP) k j (q + 1) = placeV (G.map grP) k j q + (((G.getD k grZ).2.2.2.getD j chZ).2.2.getD q pageZ).1 ∧ placeV (G.map grP) k j (q + 1) ≤ 1073741824 ∧ 1 ≤ (((G.getD k grZ).2.2.2.getD j chZ).2.2.getD q pageZ).1 by
      have e := hPA k hk j hj
      have := placeV_page hok (k := k) (j := j) (q := q) (by unfold footP; simpa using hk) (by unfold footP; dsimp only; rw [← HDL.out k hk]; exact hj) (by unfold footP; dsimp only; rw [e]; exact hq)
      unfold footP at this
      dsimp only at this
      rw [e] at this
      exact this)
    have VC := Lib.hid (fun (k : Nat) (hk : k < G.length) (j : Nat) (hj : j < (G.getD k grZ).2.2.2.length) => show placeV (G.map grP) k j ((G.getD k grZ).2.2.2.getD j chZ).2.2.length = placeV (G.map grP) k (j + 1) 0 by
      have e := hPA k hk j hj
      have := placeV_chunk hok (k := k) (j := j) (by unfold footP; simpa using hk) (by unfold footP; dsimp only; rw [← HDL.out k hk]; exact hj)
      unfold footP at this
      dsimp only at this
      rw [e] at this
      exact this)
    have VG := Lib.hid (fun (k : Nat) (hk : k < G.length) => show placeV (G.map grP) k L.length 0 = placeV (G.map grP) (k + 1) 0 0 from
      placeV_group hok (k := k) (by unfold footP; simpa using hk))
    by_cases hE : g = (G.length : Int) ∧ c = 0 ∧ p = 0
    · obtain ⟨rfl, rfl, rfl⟩ := hE
      have hEB : endB G.length (G.length : Int) 0 0 = true := by unfold endB; simp
      rw [hEB, Bool.true_or, if_pos rfl] at hX
      simp only [Int.toNat_natCast, Int.toNat_zero] at hX
      generalize placeV (G.map grP) = V at *
      subst hX
      clear hB hI hEB hok HH hHH hPA
      go_enter Tryz.func10, Tryz.ntmps10
      go_wp2_with fail
      go_step3
      go_wp2_with fail
      refine (HR.out _ b0).mono ?_
      rintro e w1 ⟨rfl, b1⟩
      have B1 := B0.below b1 B0.lt
      have bE := New.trans b0 b1
      clear b0 b1 B0 x0 x1 x2 HR
      obtain ⟨x0, x1, x2⟩ := ccells B1
      clear B1
      go_wp2_with fail
      go_step3
      go_wp2_with fail
--BEGIN end
      clear x0 x1 x2
      go_loopw [10, 63] (fun a i wr => ∃ k : Nat, k ≤ G.length ∧ i = .int .i64 (k : Int) ∧ a = .int .i64 (V k 0 0) ∧ New w wr) (fun _ i _ => G.length - (intOf i).toNat)
      case atStart => exact ⟨0, Nat.zero_le _, rfl, by rw [VZ.out], bE⟩
      case round =>
        obtain ⟨k, hk, rfl, rfl, b⟩ := hrel
        clear bE VZ
        by_cases hlt : k < G.length
        · obtain ⟨ad, rfl, hb, d0, d1⟩ := (Reads.later HG.out b).gr2 hlt

          have hgm := mem_getDF grZ hlt
          have hch := HCH.out _ hgm
          have hpg := HPG.out _ hgm
          have hDl := HDL.out k hlt
          have VPk := VP.out k hlt
          have VCk := VC.out k hlt
          have VGk := Lib.hid (VG.out k hlt)

          clear hb hgm
          generalize G.getD k grZ = gg at *
          obtain ⟨gr, Ach, cch, D⟩ := gg
          dsimp only at d0 d1 hch hpg hDl VPk VCk

          have VPk := Lib.hid VPk
          have VCk := Lib.hid VCk
          have HDl := Lib.hid hDl
          have HCHk := Lib.hid hch.1
          have hchl := hch.2
          have HPGk := Lib.hid hpg
          have ha : New wr (wr.alloc (.cells #[.int .i64 gr, .slice Ach D.length cch] 45)) := (Below.refl _ _).alloc (Nat.le_refl _) _
          have BG := Blk.new wr 45 #[.int .i64 gr, .slice Ach D.length cch]
          have b2 := New.trans b ha
          obtain ⟨z0, z1⟩ := cells2 BG
          clear b ha BG hch hpg hDl
          go_wp2_with fail
          clear z0 z1 d0 d1
          go_loopw [10, 71] (fun a i wr => ∃ j : Nat, j ≤ D.length ∧ i = .int .i64 (j : Int) ∧ a = .int .i64 (V k j 0) ∧ New w wr) (fun _ i _ => D.length - (intOf i).toNat)
          case atStart => exact ⟨0, Nat.zero_le _, rfl, rfl, b2⟩
          case round =>
            obtain ⟨j, hj, rfl, rfl, b⟩ := hrel
            clear b2
            by_cases hlj : j < D.length
            · obtain ⟨ac, rfl, hbc, e0⟩ := (Reads.later HCHk.out b).ch1 hlj
              have hxm := mem_getDF chZ hlj
              have hpx := HPGk.out _ hxm
              have VPj := VPk.out j hlj
              have VCj := VCk.out j hlj

              clear hbc hxm
              generalize D.getD j chZ = x at *
              obtain ⟨Ax, cx, pl⟩ := x
              dsimp only at e0 hpx VPj VCj

              have VPj := Lib.hid VPj
              have VCj := Lib.hid VCj
              have HPL := Lib.hid hpx.1
              have hpn := hpx.2
              clear hpx
              go_wp2_with fail
              clear e0
              go_loopw [10, 78] (fun a i wr => ∃ q : Nat, q ≤ pl.length ∧ i = .int .i64 (q : Int) ∧ a = .int .i64 (V k j q) ∧ New w wr) (fun _ i _ => pl.length - (intOf i).toNat)
              case atStart => exact ⟨0, Nat.zero_le _, rfl, rfl, b⟩
              case round =>
                clear b
                obtain ⟨q, hq, rfl, rfl, b⟩ := hrel
                by_cases hlq : q < pl.length
                · obtain ⟨ap, rfl, hbp, d0, d1, d2, d3, d4, d5, d6, d7, d8, d9, d10, d11, d12, d13⟩ := (Reads.later HPL.out b).page14 hlq
                  obtain ⟨v1, v2, v3, v4⟩ := VPj.out q hlq
                  have vs : V k j q + (pl.getD q pageZ).1 ≤ 1073741824 := by omega
                  have vs0 : 0 ≤ V k j q + (pl.getD q pageZ).1 := by omega
                  have H2 := Lib.hid v2
                  clear v2 v3 v4 hbp
                  generalize pl.getD q pageZ = p at *
                  obtain ⟨sz, rw, nn, bb, ⟨p1, p2, p3, p4, p5⟩, ⟨q1, q2, q3, q4, q5⟩⟩ := p
                  dsimp only at d0 d1 d2 d3 d4 d5 d6 d7 d8 d9 d10 d11 d12 d13 H2 vs vs0
                  have ha : New wr (wr.alloc (.cells #[.int .i64 sz, .int .i64 rw, .int .i64 nn, .bool bb, .bool p1, .int .i64 p2, .string (bstr p3), .int .i64 p4, .int .i64 p5, .bool q1, .int .i64 q2, .string (bstr q3), .int .i64 q4, .int .i64 q5] 41)) := (Below.refl _ _).alloc (Nat.le_refl _) _
                  have BP := Blk.new wr 41 #[.int .i64 sz, .int .i64 rw, .int .i64 nn, .bool bb, .bool p1, .int .i64 p2, .string (bstr p3), .int .i64 p4, .int .i64 p5, .bool q1, .int .i64 q2, .string (bstr q3), .int .i64 q4, .int .i64 q5]
                  have b2 := New.trans b ha
                  obtain ⟨e0, e1, e2, e3, e4, e5, e6, e7, e8, e9, e10, e11, e12, e13⟩ := cells14 BP
                  clear b ha BP
                  have nk : ¬ k = G.length := by omega
                  have nkz : ¬ (k : Int) = (G.length : Int) := by omega
                  go_wp2_with fail
                  go_roundw
                  case rel => exact ⟨q + 1, by omega, by go_num, by rw [H2.out], b2⟩
                  case measure => simp [intOf]; omega
                · obtain rfl : q = pl.length := by omega
                  have hvc := Lib.hid VCj.out

                  go_wp2
                  go_roundw
                  case rel => exact ⟨j + 1, by omega, by go_num, by rw [hvc.out], b⟩
                  case measure => simp [intOf]; omega
            · obtain rfl : j = D.length := by omega
              have hvg := VGk.out
              rw [← HDl.out] at hvg
              have hvg := Lib.hid hvg
              go_wp2
              go_roundw
              case rel => exact ⟨k + 1, by omega, by go_num, by rw [hvg.out], b⟩
              case measure => simp [intOf]; omega
        · obtain rfl : k = G.length := by omega
          go_wp2
          try rw [Exit.noGoto_ret]
          go_ret
          exact ⟨rfl, b⟩
--END end
    · have hEB : endB G.length g c p = false := by unfold endB; simpa using hE
      rw [hEB, Bool.false_or] at hX
      clear HH
      cases I with
      | false =>
        obtain rfl : X = -1 := by rw [hX]; rfl
        have HE := Lib.hid hE
        have HH := Lib.hid hHH
        have hi : ∀ g' c' : Int, g' = g → c' = c → inB L.length G.length g' c' = false := by rintro _ _ rfl rfl; exact hI.symm
        have HI := Lib.hid hi
        clear hX hB hI hEB hE hok hHH hPA VZ VP VC VG HDL hi
        go_enter Tryz.func10, Tryz.ntmps10
        go_wp2_with fail
        go_step3
        go_wp2_with fail
        refine (HR.out _ b0).mono ?_
        rintro e w1 ⟨rfl, b1⟩
        have B1 := B0.below b1 B0.lt
        have b01 := New.trans b0 b1
        clear b0 b1 B0 x0 x1 x2
        obtain ⟨x0, x1, x2⟩ := ccells B1
        go_wp2_with fail
        all_goals
          first
            | exact absurd ⟨by assumption, by assumption, by assumption⟩ HE.out
            | (refine (HH.out _ _ _).mono ?_
               rw [HI.out _ _ (by omega) (by omega)]
               rintro e w2 ⟨rfl, b2⟩
               have b02 := New.trans b01 b2
               clear b01 b2
               go_wp2
               all_goals
                 first
                   | (try rw [Exit.noGoto_ret]
                      go_ret
                      exact ⟨rfl, b02⟩)
                   | (exfalso; simp_all; done))
      | true =>
        obtain ⟨gk, ck, rfl, rfl, hgk, hck⟩ := hB rfl
        rw [Bool.true_and] at hX
        simp only [Int.toNat_natCast] at hX
        rw [hPA gk hgk ck (by rw [HDL.out gk hgk]; exact hck)] at hX
        have hHH := fun (W : World) => hHH W gk ck
        rw [show inB L.length G.length (gk : Int) (ck : Int) = true from hI.symm] at hHH
        have HH := Lib.hid hHH
        have nE : ¬ gk = G.length := by omega
        have nEz : ¬ (gk : Int) = (G.length : Int) := by omega
        clear hB hI hEB hE hok hHH hPA
        generalize placeV (G.map grP) = V at *
        have HX := Lib.hid hX
        clear hX
        go_enter Tryz.func10, Tryz.ntmps10
        go_wp2_with fail
        go_step3
        go_wp2_with fail
        refine (HR.out _ b0).mono ?_
        rintro e w1 ⟨rfl, b1⟩
        have B1 := B0.below b1 B0.lt
        have b01 := New.trans b0 b1
        clear b0 b1 B0 x0 x1 x2
        obtain ⟨x0, x1, x2⟩ := ccells B1
        go_wp2_with fail
        refine (HH.out _).mono ?_
        rintro e w2 ⟨rfl, b2⟩
        have B2 := B1.below b2 B1.lt
        have bI := New.trans b01 b2
        clear b01 b2 B1 x0 x1 x2 HR HH
        obtain ⟨x0, x1, x2⟩ := ccells B2
        clear B2
        obtain ⟨ad0, rfl, hb0, d0, d1⟩ := (Reads.later HG.out bI).gr2 hgk
        have hgm := mem_getDF grZ hgk
        have hch := HCH.out _ hgm
        have hDl := HDL.out gk hgk
        obtain ⟨gg, hgg⟩ : ∃ gg, G.getD gk grZ = gg := ⟨_, rfl⟩
        rw [hgg] at d0 d1 hch hDl
        have HGG := Lib.hid hgg
        clear hgg hgm hb0
        obtain ⟨gr, Ach, cch, D⟩ := gg
        dsimp only at d0 d1 hch hDl
        have hckD : ck < D.length := by omega
        obtain ⟨ac0, rfl, hbc, e0⟩ := (Reads.later hch.1 bI).ch1 hckD
        obtain ⟨xx, hxx⟩ : ∃ xx, D.getD ck chZ = xx := ⟨_, rfl⟩
        rw [hxx] at e0
        have HXX := Lib.hid hxx
        clear hxx hbc hch
        obtain ⟨Ax, cx, pl⟩ := xx
        dsimp only at e0
        have hX := HX.out
        rw [HGG.out] at hX
        dsimp only at hX
        rw [HXX.out] at hX
        dsimp only at hX
        clear HX
        by_cases hp0 : p < 0
        · obtain rfl : X = -1 := by rw [hX, if_neg]; unfold pgB; simp; omega
          clear hX
          go_wp2
          try rw [Exit.noGoto_ret]
          go_ret
          exact ⟨rfl, bI⟩
        by_cases hp1 : (pl.length : Int) ≤ p
        · obtain rfl : X = -1 := by rw [hX, if_neg]; unfold pgB; simp; omega
          clear hX
          go_wp2
          try rw [Exit.noGoto_ret]
          go_ret
          exact ⟨rfl, bI⟩
        · obtain ⟨pk, rfl⟩ : ∃ pk : Nat, p = (pk : Int) := ⟨p.toNat, by omega⟩
          obtain rfl : X = V gk ck pk := by rw [hX, if_pos (by unfold pgB; simp; omega)]; rfl
          have PKF := Lib.hid (show ∀ k j : Nat, k = gk → j = ck → pk < ((G.getD k grZ).2.2.2.getD j chZ).2.2.length by
            rintro _ _ rfl rfl
            rw [HGG.out]
            dsimp only
            rw [HXX.out]
            dsimp only
            omega)
          clear hX HGG HXX
          go_wp2_with fail
          go_step3
          go_wp2_with fail
          clear d0 d1 e0 hDl hckD hp0 hp1 nE nEz
          try generalize ((gk : Int) == (G.length : Int)) = z1
          try generalize (decide ((pk : Int) < 0)) = z2
          try generalize (decide (pl.length ≤ pk)) = z3
          try generalize (decide ((pl.length : Int) ≤ (pk : Int))) = z4
--BEGIN in
          clear x0 x1 x2
          go_loopw [10, 63] (fun a i wr => ∃ k : Nat, k ≤ gk ∧ i = .int .i64 (k : Int) ∧ a = .int .i64 (V k 0 0) ∧ New w wr) (fun _ i _ => G.length - (intOf i).toNat)
          case atStart => exact ⟨0, Nat.zero_le _, rfl, by rw [VZ.out], bI⟩
          case round =>
            obtain ⟨k, hk, rfl, rfl, b⟩ := hrel
            clear bI VZ
            by_cases hlt : k < G.length
            · obtain ⟨ad, hAe, hb, d0, d1⟩ := (Reads.later HG.out b).gr2 hlt
              obtain rfl := Option.some.inj hAe
              have hgm := mem_getDF grZ hlt
              have hch := HCH.out _ hgm
              have hpg := HPG.out _ hgm
              have hDl := HDL.out k hlt
              have VPk := VP.out k hlt
              have VCk := VC.out k hlt
              have VGk := Lib.hid (VG.out k hlt)
              have PKk := PKF.out k
              clear hb hgm
              generalize G.getD k grZ = gg at *
              obtain ⟨gr, Ach, cch, D⟩ := gg
              dsimp only at d0 d1 hch hpg hDl VPk VCk PKk
              have PKk := Lib.hid PKk
              have VPk := Lib.hid VPk
              have VCk := Lib.hid VCk
              have HDl := Lib.hid hDl
              have HCHk := Lib.hid hch.1
              have hchl := hch.2
              have HPGk := Lib.hid hpg
              have ha : New wr (wr.alloc (.cells #[.int .i64 gr, .slice Ach D.length cch] 45)) := (Below.refl _ _).alloc (Nat.le_refl _) _
              have BG := Blk.new wr 45 #[.int .i64 gr, .slice Ach D.length cch]
              have b2 := New.trans b ha
              obtain ⟨z0, z1⟩ := cells2 BG
              clear b ha BG hch hpg hDl
              go_wp2_with fail
              clear z0 z1 d0 d1
              go_loopw [10, 71] (fun a i wr => ∃ j : Nat, j ≤ D.length ∧ i = .int .i64 (j : Int) ∧ a = .int .i64 (V k j 0) ∧ Hid (k < gk ∨ (k = gk ∧ j ≤ ck)) ∧ New w wr) (fun _ i _ => D.length - (intOf i).toNat)
              case atStart => exact ⟨0, Nat.zero_le _, rfl, rfl, Lib.hid (by omega), b2⟩
              case round =>
                obtain ⟨j, hj, rfl, rfl, HIN2, b⟩ := hrel
                clear b2
                by_cases hlj : j < D.length
                · obtain ⟨ac, rfl, hbc, e0⟩ := (Reads.later HCHk.out b).ch1 hlj
                  have hxm := mem_getDF chZ hlj
                  have hpx := HPGk.out _ hxm
                  have VPj := VPk.out j hlj
                  have VCj := VCk.out j hlj
                  have PKj := PKk.out j
                  clear hbc hxm
                  generalize D.getD j chZ = x at *
                  obtain ⟨Ax, cx, pl⟩ := x
                  dsimp only at e0 hpx VPj VCj PKj
                  have HPK := Lib.hid PKj
                  have VPj := Lib.hid VPj
                  have VCj := Lib.hid VCj
                  have HPL := Lib.hid hpx.1
                  have hpn := hpx.2
                  clear hpx
                  go_wp2_with fail
                  clear e0
                  go_loopw [10, 78] (fun a i wr => ∃ q : Nat, q ≤ pl.length ∧ i = .int .i64 (q : Int) ∧ a = .int .i64 (V k j q) ∧ Hid (k < gk ∨ (k = gk ∧ (j < ck ∨ (j = ck ∧ q ≤ pk)))) ∧ New w wr) (fun _ i _ => pl.length - (intOf i).toNat)
                  case atStart => exact ⟨0, Nat.zero_le _, rfl, rfl, Lib.hid (by have := HIN2.out; omega), b⟩
                  case round =>
                    clear b
                    obtain ⟨q, hq, rfl, rfl, HIN3, b⟩ := hrel
                    by_cases hlq : q < pl.length
                    · obtain ⟨ap, rfl, hbp, d0, d1, d2, d3, d4, d5, d6, d7, d8, d9, d10, d11, d12, d13⟩ := (Reads.later HPL.out b).page14 hlq
                      obtain ⟨v1, v2, v3, v4⟩ := VPj.out q hlq
                      have vs : V k j q + (pl.getD q pageZ).1 ≤ 1073741824 := by omega
                      have vs0 : 0 ≤ V k j q + (pl.getD q pageZ).1 := by omega
                      have H2 := Lib.hid v2
                      clear v2 v3 v4 hbp
                      generalize pl.getD q pageZ = p at *
                      obtain ⟨sz, rw, nn, bb, ⟨p1, p2, p3, p4, p5⟩, ⟨q1, q2, q3, q4, q5⟩⟩ := p
                      dsimp only at d0 d1 d2 d3 d4 d5 d6 d7 d8 d9 d10 d11 d12 d13 H2 vs vs0
                      have ha : New wr (wr.alloc (.cells #[.int .i64 sz, .int .i64 rw, .int .i64 nn, .bool bb, .bool p1, .int .i64 p2, .string (bstr p3), .int .i64 p4, .int .i64 p5, .bool q1, .int .i64 q2, .string (bstr q3), .int .i64 q4, .int .i64 q5] 41)) := (Below.refl _ _).alloc (Nat.le_refl _) _
                      have BP := Blk.new wr 41 #[.int .i64 sz, .int .i64 rw, .int .i64 nn, .bool bb, .bool p1, .int .i64 p2, .string (bstr p3), .int .i64 p4, .int .i64 p5, .bool q1, .int .i64 q2, .string (bstr q3), .int .i64 q4, .int .i64 q5]
                      have b2 := New.trans b ha
                      obtain ⟨e0, e1, e2, e3, e4, e5, e6, e7, e8, e9, e10, e11, e12, e13⟩ := cells14 BP
                      clear b ha BP
                      by_cases hit : k = gk ∧ j = ck ∧ q = pk
                      · obtain ⟨rfl, rfl, rfl⟩ := hit
                        clear VPj VCj VPk VCk VGk VP VC VG HDL H2 PKk HPK PKF
                        generalize V k j q = vv at *
                        go_wp2_with fail
                        try rw [Exit.noGoto_ret]
                        go_ret
                        exact ⟨rfl, b2⟩
                      have HN := Lib.hid (show k < gk ∨ (k = gk ∧ (j < ck ∨ (j = ck ∧ q + 1 ≤ pk))) by have := HIN3.out; omega)
                      by_cases n1 : k = gk
                      · have t1 : ((k : Int) == (gk : Int)) = true := by simp [n1]
                        have N1 := Lib.hid n1
                        by_cases n2 : j = ck
                        · have t2 : ((j : Int) == (ck : Int)) = true := by simp [n2]
                          have N2 := Lib.hid n2
                          have n3 : ¬ q = pk := fun e => hit ⟨n1, n2, e⟩
                          have n3z : ¬ (q : Int) = (pk : Int) := by omega
                          clear n1 n2 hit
                          go_wp2_with fail
                          go_roundw
                          case rel => exact ⟨q + 1, by omega, by go_num, by rw [H2.out], HN, b2⟩
                          case measure => simp [intOf]; omega
                        · have n2z : ¬ (j : Int) = (ck : Int) := by omega
                          clear n1 hit
                          go_wp2_with fail
                          go_roundw
                          case rel => exact ⟨q + 1, by omega, by go_num, by rw [H2.out], HN, b2⟩
                          case measure => simp [intOf]; omega
                      · have n1z : ¬ (k : Int) = (gk : Int) := by omega
                        clear hit
                        go_wp2_with fail
                        go_roundw
                        case rel => exact ⟨q + 1, by omega, by go_num, by rw [H2.out], HN, b2⟩
                        case measure => simp [intOf]; omega
                    · obtain rfl : q = pl.length := by omega
                      have hvc := Lib.hid VCj.out
                      have HN := Lib.hid (show k < gk ∨ (k = gk ∧ j + 1 ≤ ck) by
                        have h1 := HIN3.out
                        have h2 := HPK.out
                        rcases h1 with h1 | ⟨h1, h3 | ⟨h3, h4⟩⟩
                        · omega
                        · omega
                        · have := h2 h1 h3
                          omega)
                      go_wp2
                      go_roundw
                      case rel => exact ⟨j + 1, by omega, by go_num, by rw [hvc.out], HN, b⟩
                      case measure => simp [intOf]; omega
                · obtain rfl : j = D.length := by omega
                  have hvg := VGk.out
                  rw [← HDl.out] at hvg
                  have hvg := Lib.hid hvg
                  go_wp2
                  go_roundw
                  case rel => exact ⟨k + 1, by have := HIN2.out; have := HDl.out; omega, by go_num, by rw [hvg.out], b⟩
                  case measure => simp [intOf]; omega
            · exfalso
              omega
--END in

end Go.Proofs.YtflaaahcoglflaaGreat
/- The contracts of footer.putNumber and footer.putPages. -/

namespace Go.Hm
open Go Go.RowKit
/-- From v to v' no block is turned but v's own, and new ones. -/
def Grows (w w' : World) (v v' : Value) : Prop := w.grownBy w' v.ownBlock ∧ (v'.ownBlock = v.ownBlock ∨ ∃ g, v'.ownBlock = some g ∧ w.heap.size ≤ g)
theorem Grows.trans {a b c : World} {u v x : Value} (h : Grows a b u v) (k : Grows b c v x) : Grows a c u x := by
  obtain ⟨h1, h2⟩ := h
  obtain ⟨k1, k2⟩ := k
  refine ⟨⟨k1.os.trans h1.os, k1.tape.trans h1.tape, k1.output.trans h1.output, Nat.le_trans h1.size k1.size, fun i hi hne => ?_⟩, ?_⟩
  · refine (k1.block i (Nat.lt_of_lt_of_le hi h1.size) fun e => ?_).trans (h1.block i hi hne)
    rcases h2 with h2 | ⟨g, h2, hg⟩
    · rw [h2] at e; exact hne e
    · rw [h2] at e; injection e with e; omega
  · rcases k2 with k2 | ⟨g, k2, hg⟩
    · rw [k2]; exact h2
    · exact .inr ⟨g, k2, Nat.le_trans h1.size hg⟩
theorem grown_new_any {w w' : World} {row : Option Nat} (h : New w w') : w.grownBy w' row := ⟨h.os, h.tape, h.output, h.size, fun k hk _ => h.block k hk⟩
theorem Grows.of_new {w w' : World} {v : Value} (h : New w w') : Grows w w' v v := ⟨grown_new_any h, .inl rfl⟩
theorem Grows.size {w w' : World} {v v' : Value} (h : Grows w w' v v') : w.heap.size ≤ w'.heap.size := h.1.size
theorem Grows.blk {w w' : World} {v v' : Value} {g : Nat} {t e : TypeId} {cs : Array Value} {base : Nat} {xs : List Value} (h : Grows w w' v v') (o : Own w base e v xs) (B : Blk w g t cs) (hne : e ≠ t) : Blk w' g t cs :=
  B.grown h.1 (fun he => o.blk_ne B hne he.symm)
theorem Grows.below {w0 w w' : World} {v v' : Value} {base B : Nat} {e : TypeId} {xs : List Value} (h : Grows w w' v v') (o : Own w base e v xs) (b : Below B w0 w) (hB : B ≤ base) (hBw : B ≤ w.heap.size) : Below B w0 w' := by
  refine b.trans ⟨h.1.os, h.1.tape, h.1.output, h.1.size, fun k hk => h.1.block k (by omega) fun he => ?_⟩
  have := (o.lt k he.symm).1
  omega

end Go.Hm

namespace Go.Proofs.YtflaaahcoglflaaGreat
open Go.RowKit Go.Hm
def AddPost (base : Nat) (v : Value) (l : List Nat) (w : World) (e : Ending) (w' : World) : Prop :=
  ∃ A n c, e = .returned (.slice A n c) ∧ Go.Hm.Own w' base 5 (.slice A n c) (nums .u8 l) ∧ Grows w w' v (.slice A n c)
set_option maxHeartbeats 1000000 in
set_option maxRecDepth 100000 in
theorem putNumber_any {w : World} {base n c N : Nat} {A : Option Addr} {l : List Nat} (o : Go.Hm.Own w base 5 (.slice A n c) (nums .u8 l)) (hb : base ≤ w.heap.size) (hn : n ≤ 100000000000000) (hN : N ≤ 9223372036854775807) :
    Calls Tryz.prog 25 #[.slice A n c, .int .i64 (N : Int)] w (AddPost base (.slice A n c) (l ++ vp N) w) := by
  have P := Lib.hid (put_any none 0 0 [] N w Reads.none_ (by omega) (by omega))
  have V := vp_len10 (n := N) (by omega)
  have hw : IntKind.u64.wrap (N : Int) = (N : Int) := by rw [IntKind.wrap_u64]; omega
  have HO := Lib.hid o
  clear o
  go_enter Tryz.func25, Tryz.ntmps25
  go_wp2_with fail
  refine P.out.mono ?_
  rintro e w1 ⟨A2, n2, c2, rfl, k2, b2⟩
  rw [List.nil_append] at k2
  have hq : n2 ≤ 10 := by have := k2.len; rw [nums_length] at this; omega
  have o1 := HO.out.later b2
  have hz := b2.size
  go_wp2_with (refine wpList_pushesN elB rfl (.tmp 5) (.tmp 8) rfl (W := w) (B := base) o1 k2.reads rfl rfl (Below.mono b2 hb) (Nat.le_refl _) (by omega) (by omega) (by simp only [maxLen]; omega) ?_
               intro A5 c5 w5 _ _ o5 g5 _ d5)
  go_ret
  exact ⟨_, _, _, rfl, o5, (Grows.of_new b2).trans ⟨g5, d5⟩⟩
theorem pageL_len {t : Int} {p : PageS} (h1 : p.1.toNat < 18446744073709551616) (h2 : p.2.1.toNat < 18446744073709551616) : (pageL t p).length ≤ 140020 := by
  have a := vp_len10 (n := p.1.toNat) h1
  have b := vp_len10 (n := p.2.1.toNat) h2
  have c := putS_len (l := []) (t := t) (s := p.2.2)
  unfold pageL
  simp only [List.length_append, List.length_nil] at c ⊢
  omega
theorem flat_pages {t : Int} : ∀ l : List PageS, (∀ p ∈ l, p.1.toNat < 18446744073709551616 ∧ p.2.1.toNat < 18446744073709551616) → (l.flatMap (pageL t)).length ≤ l.length * 140020
  | [], _ => by simp
  | p :: l, h => by
    have a := pageL_len (t := t) (h p (by simp)).1 (h p (by simp)).2
    have b := flat_pages (t := t) l fun q hq => h q (by simp [hq])
    rw [List.flatMap_cons, List.length_append, List.length_cons]
    omega
def PageNum (p : PageS) : Prop := (0 ≤ p.1 ∧ p.1 ≤ 9223372036854775807) ∧ (0 ≤ p.2.1 ∧ p.2.1 ≤ 9223372036854775807) ∧ statData p.2.2
set_option maxHeartbeats 2000000 in
set_option maxRecDepth 100000 in
theorem putPages_any {w : World} {base n c np cp : Nat} {A Ap : Option Addr} {t : Int} {l : List Nat} {ps : List PageS} (o : Go.Hm.Own w base 5 (.slice A n c) (nums .u8 l)) (hb : base ≤ w.heap.size) (h : Reads w base 14 Ap np (recs pageV ps)) (hp : ∀ p ∈ ps, PageNum p)
    (hn : n + 10 + np * 140020 ≤ 100000000000000) :
    Calls Tryz.prog 26 #[.slice A n c, .int .i64 t, .slice Ap np cp] w (AddPost base (.slice A n c) (l ++ chunkL t ps) w) := by
  obtain rfl := h.lenPage
  have hln : l.length = n := by have := o.len; rw [nums_length] at this; exact this.symm
  have V := vp_len10 (n := ps.length) (by omega)
  have PN := Lib.hid (putNumber_any (N := ps.length) o hb (by omega) (by omega))
  have hfl := fun k => flat_pages (t := t) (ps.take k) (fun p hpm => by
    have := hp p (List.mem_of_mem_take hpm)
    have h1 := this.1
    have h2 := this.2.1
    omega)
  have HF := Lib.hid (fun k => by have := hfl k; rw [List.length_take] at this; exact this)
  have HR := Lib.hid h
  have HP := Lib.hid hp
  have HO := Lib.hid o
  have HLN := Lib.hid hln
  clear h hp o hln hfl
  go_enter Tryz.func26, Tryz.ntmps26
  go_wp2_with fail
  refine PN.out.mono ?_
  rintro e w1 ⟨A1, n1, c1, rfl, o1, g1⟩
  have hb1 := g1.size
  have b1 : Below base w w1 := g1.below HO.out (Below.refl _ _) (Nat.le_refl _) hb
  clear PN
  go_wp2_with fail
  go_loopw [0, 15] (fun v i wr => ∃ (k : Nat) (B : Option Addr) (m d : Nat), k ≤ ps.length ∧ i = .int .i64 (k : Int) ∧ v = .slice B m d ∧ Go.Hm.Own wr base 5 (.slice B m d) (nums .u8 (l ++ vp ps.length ++ (ps.take k).flatMap (pageL t))) ∧ Grows w wr (.slice A n c) (.slice B m d) ∧ Below base w wr) (fun _ i _ => ps.length - (intOf i).toNat)
  case atStart => exact ⟨0, A1, n1, c1, Nat.zero_le _, rfl, rfl, by simpa using o1, g1, b1⟩
  case round =>
    obtain ⟨k, B, m, d, hk, rfl, rfl, o, g, b⟩ := hrel
    clear o1 g1 b1 hb1
    have hml : m ≤ n + 10 + k * 140020 := by
      have h1 := o.len
      rw [nums_length, List.length_append, List.length_append] at h1
      have h2 := HF.out k
      have h3 := HLN.out
      omega
    have hsz := g.size
    by_cases hlt : k < ps.length
    · obtain ⟨ad, rfl, hbd, d0, d1, d2, d3, d4, d5, d6, d7, d8, d9, d10, d11, d12, d13⟩ := (HR.out.below b).page14 hlt
      have htk := take_snoc ps k pageZ hlt
      have hpn := HP.out _ (mem_getDF pageZ hlt)
      have hpl : (ps.take (k + 1)).flatMap (pageL t) = (ps.take k).flatMap (pageL t) ++ pageL t (ps.getD k pageZ) := by rw [htk, List.flatMap_append]; simp
      rw [show pageL t (ps.getD k pageZ) = vp (ps.getD k pageZ).1.toNat ++ vp (ps.getD k pageZ).2.1.toNat ++ Go.Hm.putS [] t (ps.getD k pageZ).2.2 from rfl] at hpl
      have HPL := Lib.hid hpl
      clear htk hpl hbd
      generalize ps.getD k pageZ = p at *
      obtain ⟨hp1, hp2, hp3⟩ := hpn
      have SP := fun (W : World) => stput_any (w := W) (c := 0) (t := t) (l := []) (n := 0) (A := none) Reads.none_ (by omega) hp3
      have hspl := putS_len (l := []) (t := t) (s := p.2.2)
      obtain ⟨szI, rwI, nn, bb, ⟨p1, p2, p3, p4, p5⟩, ⟨q1, q2, q3, q4, q5⟩⟩ := p
      dsimp only at hp1 hp2 hp3 SP hspl HPL d0 d1 d2 d3 d4 d5 d6 d7 d8 d9 d10 d11 d12 d13
      obtain ⟨sz, rfl⟩ := Int.eq_ofNat_of_zero_le hp1.1
      obtain ⟨rw, rfl⟩ := Int.eq_ofNat_of_zero_le hp2.1
      simp only [Int.toNat_natCast] at HPL
      generalize Go.Hm.putS [] t (nn, bb, (p1, p2, p3, p4, p5), (q1, q2, q3, q4, q5)) = SB at *
      have SP : Hid (∀ W, Calls Tryz.prog 44 #[.slice none 0 0, .int .i64 t, .agg #[.int .i64 nn, .bool bb, .bool p1, .int .i64 p2, .string (bstr p3), .int .i64 p4, .int .i64 p5, .bool q1, .int .i64 q2, .string (bstr q3), .int .i64 q4, .int .i64 q5]] W (BytesPost SB W)) := Lib.hid SP
      have V1 := vp_len10 (n := sz) (by omega)
      have V2 := vp_len10 (n := rw) (by omega)
      simp only [List.length_nil] at hspl
      have hspl : SB.length ≤ 140000 := by omega
      have ha : New wr (wr.alloc (.cells #[.int .i64 (sz : Int), .int .i64 (rw : Int), .int .i64 nn, .bool bb, .bool p1, .int .i64 p2, .string (bstr p3), .int .i64 p4, .int .i64 p5, .bool q1, .int .i64 q2, .string (bstr q3), .int .i64 q4, .int .i64 q5] 41)) := (Below.refl _ _).alloc (Nat.le_refl _) _
      have BP := Blk.new wr 41 #[.int .i64 (sz : Int), .int .i64 (rw : Int), .int .i64 nn, .bool bb, .bool p1, .int .i64 p2, .string (bstr p3), .int .i64 p4, .int .i64 p5, .bool q1, .int .i64 q2, .string (bstr q3), .int .i64 q4, .int .i64 q5]
      have o2 := o.later ha
      have g2 := g.trans (Grows.of_new ha)
      have hsz2 := g2.size
      have N1 := Lib.hid (putNumber_any (N := sz) o2 (by omega) (by omega) (by omega))
      obtain ⟨e0, e1, e2, e3, e4, e5, e6, e7, e8, e9, e10, e11, e12, e13⟩ := cells14 BP
      have hmq : m + 140020 ≤ 100000000000000 := by omega
      clear o g ha hp3
      go_wp2_with fail
      refine N1.out.mono ?_
      rintro e w3 ⟨A3, n3, c3, rfl, o3, g3⟩
      have BP3 := g3.blk o2 BP (by decide)
      have g03 := g2.trans g3
      have hq3 : n3 ≤ m + 10 := by have h1 := o3.len; have h2 := o2.len; rw [nums_length, List.length_append] at h1; rw [nums_length] at h2; omega
      have hsz3 := g03.size
      have N2 := Lib.hid (putNumber_any (N := rw) o3 (by omega) (by omega) (by omega))
      clear N1 o2 g2 g3 BP e0 e1 e2 e3 e4 e5 e6 e7 e8 e9 e10 e11 e12 e13 d0 d1 d2 d3 d4 d5 d6 d7 d8 d9 d10 d11 d12 d13
      obtain ⟨e0, e1, e2, e3, e4, e5, e6, e7, e8, e9, e10, e11, e12, e13⟩ := cells14 BP3
      go_wp2_with fail
      refine N2.out.mono ?_
      rintro e w4 ⟨A4, n4, c4, rfl, o4, g4⟩
      have BP4 := g4.blk o3 BP3 (by decide)
      have g04 := g03.trans g4
      have hq4 : n4 ≤ m + 20 := by have h1 := o4.len; have h2 := o3.len; rw [nums_length, List.length_append] at h1; rw [nums_length] at h2; omega
      have hsz4 := g04.size
      clear N2 o3 g03 g4 BP3 e0 e1 e2 e3 e4 e5 e6 e7 e8 e9 e10 e11 e12 e13
      obtain ⟨e0, e1, e2, e3, e4, e5, e6, e7, e8, e9, e10, e11, e12, e13⟩ := cells14 BP4
      go_wp2_with fail
      refine (SP.out _).mono ?_
      rintro e w5 ⟨A5, n5, c5, rfl, k5, b5⟩
      have hq5 : n5 ≤ 140000 := by have := k5.len; rw [nums_length] at this; omega
      have o5 := o4.later b5
      have g05 := g04.trans (Grows.of_new b5)
      have hsz5 := g05.size
      have bb5 : Below base w w5 := g05.below HO.out (Below.refl _ _) (Nat.le_refl _) hb
      clear SP o4 g04 BP4 e0 e1 e2 e3 e4 e5 e6 e7 e8 e9 e10 e11 e12 e13 b5
      go_wp2_with (refine wpList_pushesN elB rfl (.tmp 27) (.tmp 31) rfl (W := w) (B := base) o5 k5.reads rfl rfl bb5 (Nat.le_refl _) (by omega) (by omega) (by simp only [maxLen]; omega) ?_
                   intro A6 c6 w6 _ _ o6 g6 b6 d6)
      go_roundw
      case rel => exact ⟨k + 1, A6, _, c6, by omega, by go_num, rfl, by rw [HPL.out]; simpa using o6, g05.trans ⟨g6, d6⟩, b6⟩
      case measure => simp [intOf]; omega
    · obtain rfl : k = ps.length := by omega
      rw [List.take_length] at o
      have HO2 := Lib.hid o
      clear o
      go_wp2_with fail
      go_ret
      refine ⟨_, _, _, rfl, ?_, g⟩
      have := HO2.out
      rw [List.append_assoc] at this
      exact this

end Go.Proofs.YtflaaahcoglflaaGreat
/- The contract of footer.Encode. -/

namespace Go.Hm
open Go Go.RowKit
open Classical in
noncomputable def encF (F : FootS) : Option (List Nat) := if FootOk F then some (footL F) else none
theorem chunksL_snoc : ∀ (c : Nat) (cs : List ColS) (ls : List (List PageS)), c < cs.length → c < ls.length → chunksL (cs.take (c + 1)) (ls.take (c + 1)) = chunksL (cs.take c) (ls.take c) ++ chunkL (cs.getD c colZ).2.1 (ls.getD c [])
  | 0, x :: cs, l :: ls, _, _ => by simp [chunksL]
  | c + 1, x :: cs, l :: ls, h1, h2 => by
    have := chunksL_snoc c cs ls (by simpa using h1) (by simpa using h2)
    simp only [List.take_succ_cons, chunksL, List.getD_cons_succ] at this ⊢
    rw [this, List.append_assoc]
  | _, [], _, h, _ => by simp at h
  | _, _ :: _, [], _, h => by simp at h
theorem sum_rows_nat {cols : List ColS} : ∀ {gs : List GroupS}, (∀ g ∈ gs, GroupOk cols g) → 0 ≤ (gs.map (·.1)).sum
  | [], _ => by simp
  | g :: gs, h => by
    have := sum_rows_nat (gs := gs) fun q hq => h q (by simp [hq])
    have := (h g (by simp)).1
    rw [List.map_cons, List.sum_cons]
    omega

end Go.Hm

namespace Go.Proofs.YtflaaahcoglflaaGreat
open Go.RowKit Go.Hm
theorem PageFine.num {p : PageS} (h : PageFine p) {t : Int} {nu : Bool} {m : Int} (hb : pageB t nu p m = true) : PageNum p := by
  have h1 := (pageB_most.1 hb).1
  exact ⟨by omega, ⟨by omega, h.2.2.2⟩, CellFine.data h.1.1.1, CellFine.data h.1.1.2⟩
theorem catC_few {L : List ColS} (h : ColsOk L) : (putC [] L).length ≤ 8000 := by
  unfold putC
  split
  · have h1 := catC_len L (fun x hx => (h.2.1 x hx).2.1)
    have h2 := vp_len10 (n := L.length) (by have := h.1; omega)
    have := h.1
    simp only [List.length_append, List.length_nil]
    omega
  · simp
set_option maxHeartbeats 4000000 in
set_option maxRecDepth 100000 in
theorem fencode_any {w : World} {Ac : Option Addr} {cc : Nat} {L : List ColS} {r : Int} {Ag : Option Addr} {cg : Nat} {G : List GrD} (h : FootIn w Ac cc L Ag G) (hp : ∀ g ∈ G, ∀ x ∈ g.2.2.2, ∀ p ∈ x.2.2, PageFine p) :
    Calls Tryz.prog 8 #[footA Ac cc L r Ag cg G] w (OptB (encF (footP L r G)) w) := by
  have RT := Lib.hid (fun (W : World) (hW : New w W) => fright_any (cg := cg) (r := r) (h.later hW) (fun g hg x hx p hpm => (hp g hg x hx p hpm).stat))
  have HG := Lib.hid h.groups
  have HL := Lib.hid h.cols
  have hfew := h.few
  have hfew2 := h.few2
  have hfine := h.fine
  have hcap := h.cap
  have HCH := Lib.hid h.chunks
  have HPG := Lib.hid h.pages
  have HP := Lib.hid hp
  clear h hp
  obtain ⟨M, hM⟩ : ∃ M, M = encF (footP L r G) := ⟨_, rfl⟩
  rw [← hM]
  unfold encF at hM
  show Calls Tryz.prog 8 #[.agg #[.slice Ac L.length cc, .int .i64 r, .slice Ag G.length cg]] w (OptB M w)
  have B0 := Blk.new w 27 #[.slice Ac L.length cc, .int .i64 r, .slice Ag G.length cg]
  have b0 : New w (w.alloc (.cells #[.slice Ac L.length cc, .int .i64 r, .slice Ag G.length cg] 27)) := (Below.refl _ _).alloc (Nat.le_refl _) _
  obtain ⟨x0, x1, x2⟩ := ccells B0
  by_cases hok : FootOk (footP L r G)
  · rw [if_pos hok] at hM
    rw [rightF_yes hok] at RT
    have RT : Hid (∀ W, New w W → Calls Tryz.prog 11 #[.agg #[.slice Ac L.length cc, .int .i64 r, .slice Ag G.length cg]] W (NewPost (.bool true) W)) := RT
    have hok2 := hok
    obtain ⟨hcok, hgok, hsum, hr, -⟩ := hok
    unfold footP at hok2 hgok hsum hM
    dsimp only [footP] at hcok hr
    dsimp only at hgok hsum
    have hr0 := sum_rows_nat hgok
    rw [hsum] at hr0
    obtain ⟨rN, rfl⟩ := Int.eq_ofNat_of_zero_le hr0
    unfold footL at hM
    dsimp only at hM
    rw [Int.toNat_natCast, List.length_map] at hM
    have hcl := catC_few hcok
    have SPt := Lib.hid (fun (W : World) (hW : New w W) => sput_any (A := none) (n := 0) (c := 0) (b := []) (c2 := cc) Reads.none_ (by omega) (Reads.later HL.out hW) hfine hcap hfew)
    have HMap := Lib.hid (fun (k : Nat) (hk : k < G.length) => getD_mapX grP G (k := k) grZ groupZ hk)
    have HLen := Lib.hid (show (G.map grP).length = G.length from List.length_map ..)
    have HOK := Lib.hid hok2
    have HL64 : L.length ≤ 64 := hcok.1
    have hGl : G.length ≤ 65536 := by
      have := (rows_sum hgok).1
      rw [List.length_map, hsum] at this
      omega
    have HM := Lib.hid hM
    clear hM hgok hsum hr0 hok2 hcok hfine
    generalize G.map grP = GP at *
    generalize putC [] L = PC at *
    go_enter Tryz.func8, Tryz.ntmps8
    go_wp2_with fail
    refine (RT.out _ b0).mono ?_
    rintro e w1 ⟨rfl, b1⟩
    have B1 := B0.below b1 B0.lt
    have b01 := New.trans b0 b1
    clear B0 b0 b1 x0 x1 x2 RT
    obtain ⟨x0, x1, x2⟩ := ccells B1
    go_wp2_with fail
    refine (SPt.out _ b01).mono ?_
    rintro e w2 ⟨A2, n2, c2, rfl, o2, b2⟩
    have hq2 : n2 ≤ 8000 := by have := o2.len; rw [nums_length] at this; omega
    have hbase : w.heap.size ≤ w1.heap.size := b01.size
    have B2 := B1.below b2 B1.lt
    have hB1 : w.heap.size < w1.heap.size := B1.lt
    have hz2 := b2.size
    have N1 := Lib.hid (putNumber_any (N := rN) o2 hz2 (by omega) (by omega))
    have VR := vp_len10 (n := rN) (by omega)
    have VG := vp_len10 (n := G.length) (by omega)
    clear SPt B1 x0 x1 x2
    obtain ⟨x0, x1, x2⟩ := ccells B2
    go_wp2_with fail
    refine N1.out.mono ?_
    rintro e w3 ⟨A3, n3, c3, rfl, o3, g3⟩
    have hq3 : n3 ≤ 8010 := by have h1 := o3.len; have h2 := o2.len; rw [nums_length, List.length_append] at h1; rw [nums_length] at h2; omega
    have bb3 := g3.below o2 b2 (Nat.le_refl _) hz2
    have hz3 := g3.size
    have N2 := Lib.hid (putNumber_any (N := G.length) o3 (by omega) (by omega) (by omega))
    have B3 := g3.blk o2 B2 (by decide)
    clear N1 o2 g3 B2 x0 x1 x2 b2
    obtain ⟨x0, x1, x2⟩ := ccells B3
    go_wp2_with fail
    refine N2.out.mono ?_
    rintro e w4 ⟨A4, n4, c4, rfl, o4, g4⟩
    have hq4 : n4 ≤ 8020 := by have h1 := o4.len; have h2 := o3.len; rw [nums_length, List.length_append] at h1; rw [nums_length] at h2; omega
    have bb4 := g4.below o3 bb3 (Nat.le_refl _) (by omega)
    have hz4 := g4.size
    have B4 := g4.blk o3 B3 (by decide)
    have hz14 : w1.heap.size ≤ w4.heap.size := by omega
    clear N2 o3 g4 B3 x0 x1 x2 bb3
    obtain ⟨x0, x1, x2⟩ := ccells B4
    go_wp2_with fail
    clear x0 x1 x2
    go_loopw [4, 27] (fun v i wr => ∃ (k : Nat) (B : Option Addr) (m d R : Nat), k ≤ G.length ∧ i = .int .i64 (k : Int) ∧ v = .slice B m d ∧ Go.Hm.Own wr w1.heap.size 5 (.slice B m d) (nums .u8 (PC ++ vp rN ++ vp G.length ++ (GP.take k).flatMap (groupL L)))
      ∧ (R : Int) = ((GP.take k).map (·.1)).sum ∧ m ≤ 9000 + 700 * k + 8961280 * R ∧ Blk wr w.heap.size 27 #[.slice Ac L.length cc, .int .i64 (rN : Int), .slice Ag G.length cg] ∧ Below w1.heap.size w1 wr ∧ w1.heap.size ≤ wr.heap.size) (fun _ i _ => G.length - (intOf i).toNat)
    case atStart => exact ⟨0, A4, n4, c4, 0, Nat.zero_le _, rfl, rfl, by simpa using o4, by simp, by omega, B4, bb4, hz14⟩
    case round =>
      obtain ⟨k, Bv, m, d, R, hk, rfl, rfl, o, hR, hml, B, bb, hzw⟩ := hrel
      clear o4 B4 bb4 hq4
      have bw : New w wr := New.trans b01 bb
      by_cases hlt : k < G.length
      · obtain ⟨ad, rfl, hb, d0, d1⟩ := (Reads.later HG.out bw).gr2 hlt
        have hgm := mem_getDF grZ hlt
        have hch := HCH.out _ hgm
        have hpg := HPG.out _ hgm
        have hpp := HP.out _ hgm
        have hmap := HMap.out k hlt
        have hltP : k < GP.length := by rw [HLen.out]; exact hlt
        have hgok := HOK.out.2.1 (GP.getD k groupZ) (mem_getDF groupZ hltP)
        have hrows := foot_rows HOK.out hltP
        have hts := sum_take_succ (fun g : GroupS => g.1) GP k groupZ hltP
        have hfm : (GP.take (k + 1)).flatMap (groupL L) = (GP.take k).flatMap (groupL L) ++ groupL L (GP.getD k groupZ) := by rw [take_snoc GP k groupZ hltP, List.flatMap_append]; simp
        dsimp only at hgok hrows hts
        rw [hmap] at hgok hrows hts hfm
        generalize G.getD k grZ = g at *
        obtain ⟨gI, Ach, cch, D⟩ := g
        unfold grP at hgok hrows hts hfm
        dsimp only at d0 d1 hch hpg hpp hgok hrows hts hfm
        obtain ⟨hg1, hg2, hg3⟩ := hgok
        dsimp only at hg1 hg2 hg3
        obtain ⟨gr, rfl⟩ := Int.eq_ofNat_of_zero_le (show 0 ≤ gI by omega)
        rw [List.length_map] at hg2
        rw [show groupL L ((gr : Int), D.map fun x : ChD => x.2.2) = vp gr ++ chunksL L (D.map fun x : ChD => x.2.2) from rfl] at hfm
        have hgr : gr + R ≤ 65536 := by omega
        have hRR : ((R + gr : Nat) : Int) = ((GP.take (k + 1)).map (·.1)).sum := by rw [hts, ← hR]; simp
        have HRR := Lib.hid hRR
        have HFM := Lib.hid hfm
        have HG3 := Lib.hid hg3
        have HCHk := Lib.hid hch.1
        have HPGk := Lib.hid hpg
        have HPPk := Lib.hid hpp
        have hDL : D.length ≤ L.length := by omega
        have HG2 := Lib.hid hg2
        clear hmap hltP hgm hb hch hpg hpp hts hrows hR hRR hfm hg3 hg2
        have ha : New wr (wr.alloc (.cells #[.int .i64 (gr : Int), .slice Ach D.length cch] 45)) := (Below.refl _ _).alloc (Nat.le_refl _) _
        have BG := Blk.new wr 45 #[.int .i64 (gr : Int), .slice Ach D.length cch]
        have B5 := B.below ha B.lt
        have o5 := o.later ha
        have bb5 : Below w1.heap.size w1 (wr.alloc (.cells #[.int .i64 (gr : Int), .slice Ach D.length cch] 45)) := bb.trans (Below.mono ha hzw)
        obtain ⟨z0, z1⟩ := cells2 BG
        have N1 := Lib.hid (putNumber_any (N := gr) o5 (by simp; omega) (by omega) (by omega))
        have VGr := vp_len10 (n := gr) (by omega)
        have HML := Lib.hid hml
        have hmq : m ≤ 700000000000 := by omega
        clear B o bb ha
        go_wp2_with fail
        refine N1.out.mono ?_
        rintro e w6 ⟨A6, n6, c6, rfl, o6, g6⟩
        have hq6 : n6 ≤ m + 10 := by have h1 := o6.len; have h2 := o5.len; rw [nums_length, List.length_append] at h1; rw [nums_length] at h2; omega
        have bb6 := g6.below o5 bb5 (Nat.le_refl _) (by simp; omega)
        have hz6 := g6.size
        simp only [World.size_alloc] at hz6
        have B6 := g6.blk o5 B5 (by decide)
        have BG6 := g6.blk o5 BG (by decide)
        have hz16 : w1.heap.size ≤ w6.heap.size := by omega
        clear N1 o5 g6 B5 BG z0 z1 bb5
        obtain ⟨z0, z1⟩ := cells2 BG6
        have hY : ∃ Y, Y = 10 + gr * 140020 := ⟨_, rfl⟩
        obtain ⟨Y, hY⟩ := hY
        have HYY := Lib.hid hY
        clear d0 d1 hY
        go_wp2_with fail
        clear z0 z1 BG6
        go_loopw [4, 38] (fun v i wr => ∃ (c : Nat) (Bq : Option Addr) (m2 d2 : Nat), c ≤ D.length ∧ i = .int .i64 (c : Int) ∧ v = .slice Bq m2 d2
          ∧ Go.Hm.Own wr w1.heap.size 5 (.slice Bq m2 d2) (nums .u8 (PC ++ vp rN ++ vp G.length ++ (GP.take k).flatMap (groupL L) ++ vp gr ++ chunksL (L.take c) ((D.map (fun x : ChD => x.2.2)).take c)))
          ∧ m2 ≤ m + 10 + c * Y ∧ Blk wr w.heap.size 27 #[.slice Ac L.length cc, .int .i64 (rN : Int), .slice (some ad) G.length cg] ∧ Below w1.heap.size w1 wr ∧ w1.heap.size ≤ wr.heap.size) (fun _ i _ => D.length - (intOf i).toNat)
        case atStart => exact ⟨0, A6, n6, c6, Nat.zero_le _, rfl, rfl, by simpa [chunksL] using o6, by omega, B6, bb6, hz16⟩
        case round =>
          obtain ⟨c, Bq, m2, d2, hc, rfl, rfl, oq, hmc, Bx, bbq, hzq⟩ := hrel
          clear o6 hq6 B6 bb6 hz16 hz6
          have bq : New w wr := New.trans b01 bbq
          have hcY : c * Y ≤ 64 * Y := Nat.mul_le_mul_right _ (by omega)
          have hYv := HYY.out
          have hm2q : m2 ≤ 90000000000000 := by omega
          by_cases hlc : c < D.length
          · have hcL : c < L.length := by omega
            obtain ⟨ac, rfl, hbc, e0⟩ := (Reads.later HCHk.out bq).ch1 hlc
            obtain ⟨al, rfl, hbl, f0, f1, f2⟩ := (Reads.later HL.out bq).colT hcL
            have hxm := mem_getDF chZ hlc
            have hpx := HPGk.out _ hxm
            have hsx := HPPk.out _ hxm
            have hco := HG3.out c hcL
            have hsn := chunksL_snoc c L (D.map fun x : ChD => x.2.2) hcL (by rw [List.length_map]; exact hlc)
            rw [getD_mapX (fun x : ChD => x.2.2) D chZ [] hlc] at hco hsn
            generalize D.getD c chZ = x at *
            obtain ⟨Ax, cx, pl⟩ := x
            dsimp only at e0 hpx hsx hco hsn
            have hpn : ∀ p ∈ pl, PageNum p := fun p hpm => (hsx p hpm).num (hco.1 p hpm)
            have hpl := rowsL_pos hco.1
            have hcr := hco.2
            have hnp : pl.length ≤ gr := by omega
            have rP : Reads wr w1.heap.size 14 Ax pl.length (recs pageV pl) := (hpx.1.below bq).more hbase
            generalize L.getD c colZ = col at *
            obtain ⟨nm, t, nu⟩ := col
            dsimp only at f0 f1 f2 hsn
            have hnp2 : pl.length ≤ 65536 := by omega
            have hnn : m2 + 10 + pl.length * 140020 ≤ 100000000000000 := by clear hcY hmc; omega
            have PPG := Lib.hid (putPages_any (t := t) (cp := cx) oq hzq rP hpn hnn)
            have hlch : (chunkL t pl).length ≤ 10 + pl.length * 140020 := by
              have h1 := flat_pages (t := t) pl (fun p hpm => by
                have := hpn p hpm
                have h1 := this.1
                have h2 := this.2.1
                omega)
              have h2 := vp_len10 (n := pl.length) (by omega)
              unfold chunkL
              rw [List.length_append]
              omega
            have hchY : (chunkL t pl).length ≤ Y := by omega
            have HSN := Lib.hid hsn
            obtain ⟨x0, x1, x2⟩ := ccells Bx
            clear hsn hco hcr hpl hpn hpx hsx hxm hbc hbl rP hlch hYv
            go_wp2_with fail
            refine PPG.out.mono ?_
            rintro e w7 ⟨A7, n7, c7, rfl, o7, g7⟩
            have hq7 : n7 ≤ m2 + Y := by have h1 := o7.len; have h2 := oq.len; rw [nums_length, List.length_append] at h1; rw [nums_length] at h2; omega
            have bb7 := g7.below oq bbq (Nat.le_refl _) hzq
            have hz7 := g7.size
            have B7 := g7.blk oq Bx (by decide)
            have hsm : (c + 1) * Y = c * Y + Y := Nat.succ_mul c Y
            have o7 : Go.Hm.Own w7 w1.heap.size 5 (.slice A7 n7 c7) (nums .u8 (PC ++ vp rN ++ vp G.length ++ (GP.take k).flatMap (groupL L) ++ vp gr ++ chunksL (L.take (c + 1)) ((D.map (fun x : ChD => x.2.2)).take (c + 1)))) := by
              rw [HSN.out]
              simpa using o7
            have hq8 : n7 ≤ m + 10 + (c + 1) * Y := by omega
            have hz8 : w1.heap.size ≤ w7.heap.size := by omega
            clear PPG oq g7 Bx x0 x1 x2 hsm hq7 hmc
            go_wp2_with fail
            go_roundw
            case rel => exact ⟨c + 1, A7, n7, c7, by omega, by go_num, rfl, o7, hq8, B7, bb7, hz8⟩
            case measure => simp [intOf]; omega
          · obtain rfl : c = D.length := by omega
            have hfin : PC ++ vp rN ++ vp G.length ++ (GP.take k).flatMap (groupL L) ++ vp gr ++ chunksL (L.take D.length) ((D.map (fun x : ChD => x.2.2)).take D.length) = PC ++ vp rN ++ vp G.length ++ (GP.take (k + 1)).flatMap (groupL L) := by
              rw [HFM.out, HG2.out, List.take_length, show (D.map fun x : ChD => x.2.2).take L.length = D.map fun x : ChD => x.2.2 from List.take_of_length_le (by rw [List.length_map, HG2.out]; exact Nat.le_refl _)]
              simp
            rw [hfin] at oq
            have hml2 : m2 ≤ 9000 + 700 * (k + 1) + 8961280 * (R + gr) := by have := HML.out; omega
            clear hfin hmc
            go_wp2_with fail
            go_roundw
            case rel => exact ⟨k + 1, Bq, m2, d2, R + gr, by omega, by go_num, rfl, oq, HRR.out, hml2, Bx, bbq, hzq⟩
            case measure => simp [intOf]; omega
      · obtain rfl : k = G.length := by omega
        have HO2 := Lib.hid o
        clear o hR
        go_wp2_with fail
        go_ret2
        rw [HM.out]
        have := HO2.out
        rw [← HLen.out, List.take_length, HLen.out] at this
        exact ⟨_, _, _, rfl, this.base_le hbase, bw⟩
  · rw [if_neg hok] at hM
    rw [rightF_no hok] at RT
    have RT : Hid (∀ W, New w W → Calls Tryz.prog 11 #[.agg #[.slice Ac L.length cc, .int .i64 r, .slice Ag G.length cg]] W (NewPost (.bool false) W)) := RT
    have HM := Lib.hid hM
    clear hM hok
    go_enter Tryz.func8, Tryz.ntmps8
    go_wp2_with fail
    refine (RT.out _ b0).mono ?_
    rintro e w1 ⟨rfl, b1⟩
    go_wp2_with fail
    go_ret2
    rw [HM.out]
    exact ⟨rfl, New.trans b0 b1⟩

end Go.Proofs.YtflaaahcoglflaaGreat
/- The contract of footer.getPages. -/

namespace Go.Hm
open Go Go.RowKit
/-- Twelve cells are stored into a block, from a place on; no other is turned. -/
theorem wpList_store12G {P : Program} {ops : Array Oper} {rest : List Oper} {op : Oper} {a : Act} {w : World} {Q : Exit → Act → World → Prop} (hgd : op.guard = none) (ty : TypeId) (x y : Operand) (ho : op.op = .store ty x y)
    (g o : Nat) {v0 v1 v2 v3 v4 v5 v6 v7 v8 v9 v10 v11 : Value} (hx : a.eval x = .pointer (some ⟨g, o, none⟩)) (hy : a.eval y = .agg #[v0, v1, v2, v3, v4, v5, v6, v7, v8, v9, v10, v11]) {t : TypeId} {cs : Array Value} (hB : Blk w g t cs) (hsz : o + 12 ≤ cs.size)
    (hi : (P.info? ty).map (·.size) = some 12) (h1 : (#[v0, v1, v2, v3, v4, v5, v6, v7, v8, v9, v10, v11] : Array Value).all (·.oneCell') = true)
    (h : ∀ W, Blk W g t ((((((((((((cs.setIfInBounds (o) v0).setIfInBounds (o + 1) v1).setIfInBounds (o + 1 + 1) v2).setIfInBounds (o + 1 + 1 + 1) v3).setIfInBounds (o + 1 + 1 + 1 + 1) v4).setIfInBounds (o + 1 + 1 + 1 + 1 + 1) v5).setIfInBounds (o + 1 + 1 + 1 + 1 + 1 + 1) v6).setIfInBounds (o + 1 + 1 + 1 + 1 + 1 + 1 + 1) v7).setIfInBounds (o + 1 + 1 + 1 + 1 + 1 + 1 + 1 + 1) v8).setIfInBounds (o + 1 + 1 + 1 + 1 + 1 + 1 + 1 + 1 + 1) v9).setIfInBounds (o + 1 + 1 + 1 + 1 + 1 + 1 + 1 + 1 + 1 + 1) v10).setIfInBounds (o + 1 + 1 + 1 + 1 + 1 + 1 + 1 + 1 + 1 + 1 + 1) v11) → w.grownBy W (some g) → wpList P ops Q rest (a.put op.dst undef) W) : wpList P ops Q (op :: rest) a w := by
  have ht : w.there g o (#[v0, v1, v2, v3, v4, v5, v6, v7, v8, v9, v10, v11] : Array Value).size := by
    intro j hj
    have hj : j < 12 := hj
    refine ⟨?_, hB.frozen _⟩
    rw [hB.cell, Array.getElem?_eq_getElem (by omega)]
    rfl
  refine wpList_store_mid hgd ty x y ho g o #[v0, v1, v2, v3, v4, v5, v6, v7, v8, v9, v10, v11] hx hy ht hi h1 ?_
  exact h _ ((((((((((((hB.set_ (o) v0).set_ (o + 1) v1).set_ (o + 1 + 1) v2).set_ (o + 1 + 1 + 1) v3).set_ (o + 1 + 1 + 1 + 1) v4).set_ (o + 1 + 1 + 1 + 1 + 1) v5).set_ (o + 1 + 1 + 1 + 1 + 1 + 1) v6).set_ (o + 1 + 1 + 1 + 1 + 1 + 1 + 1) v7).set_ (o + 1 + 1 + 1 + 1 + 1 + 1 + 1 + 1) v8).set_ (o + 1 + 1 + 1 + 1 + 1 + 1 + 1 + 1 + 1) v9).set_ (o + 1 + 1 + 1 + 1 + 1 + 1 + 1 + 1 + 1 + 1) v10).set_ (o + 1 + 1 + 1 + 1 + 1 + 1 + 1 + 1 + 1 + 1 + 1) v11) ((((((((((((setCell_gr (w := w) (g := g) (i := o) (x := v0)).trans setCell_gr).trans setCell_gr).trans setCell_gr).trans setCell_gr).trans setCell_gr).trans setCell_gr).trans setCell_gr).trans setCell_gr).trans setCell_gr).trans setCell_gr).trans setCell_gr)
theorem below_zero {w w' : World} {row : Option Nat} (h : w.grownBy w' row) : Below 0 w w' := ⟨h.os, h.tape, h.output, h.size, fun k hk => by omega⟩
theorem grown_own {w w3 W : World} {g : Nat} {row : Option Nat} (G : w.grownBy w3 (some g)) (k : w3.grownBy W row) (hb : ∀ b, row = some b → w.heap.size ≤ b) : w.grownBy W (some g) :=
  ⟨k.os.trans G.os, k.tape.trans G.tape, k.output.trans G.output, Nat.le_trans G.size k.size, fun i hi hne => (k.block i (Nat.lt_of_lt_of_le hi G.size) (fun e => by have := hb i e.symm; omega)).trans (G.block i hi hne)⟩

end Go.Hm

namespace Go.Proofs.YtflaaahcoglflaaGreat
open Go.RowKit Go.Hm
theorem getA_sub {t : Int} {S : St} (hS : S.ok) : ((getA t S).2.getD []).length ≤ (S.getD []).length := by
  cases h : (getA t S).2 with
  | none => simp
  | some r =>
    have := (getA_some hS (show getA t S = ((getA t S).1, some r) by rw [← h])).1
    rw [this]
    simp
def PagesPost (l : List PageS) (g : Nat) (S : St) (w : World) (e : Ending) (w' : World) : Prop := ∃ A n c, e = .returned (.slice A n c) ∧ w'.ownsRow w.heap.size 41 14 (.slice A n c) n (recs pageV l) ∧ CurS w' g S ∧ w.grownBy w' (some g)
theorem elPg : ElT Tryz.prog 42 41 (.agg #[.int .i64 0, .int .i64 0, .int .i64 0, .bool false, .bool false, .int .i64 0, .string ⟨#[]⟩, .int .i64 0, .int .i64 0, .bool false, .int .i64 0, .string ⟨#[]⟩, .int .i64 0, .int .i64 0]) 14 128 := ⟨by kernel_rfl, by kernel_rfl, rfl, by omega⟩
theorem pagesR_step {t m : Int} {j : Nat} {b : List Nat} : pagesR t m (j + 1) (some b) = ((pageR t m (some b)).1 :: (pagesR t m j (pageR t m (some b)).2).1, (pagesR t m j (pageR t m (some b)).2).2) := rfl
set_option maxHeartbeats 4000000 in
set_option maxRecDepth 100000 in
theorem getPages_any {w : World} {g : Nat} {S : St} {t m : Int} (h : CurS w g S) (hl : (S.getD []).length ≤ 140737488351232) (hm : 0 ≤ m ∧ m ≤ 65536) :
    Calls Tryz.prog 34 #[.pointer (some ⟨g, 0, none⟩), .int .i64 t, .int .i64 m] w (PagesPost (chunkR t m S).1 g (chunkR t m S).2 w) := by
  obtain ⟨X, hX⟩ : ∃ X, X = chunkR t m S := ⟨_, rfl⟩
  rw [← hX]
  unfold chunkR at hX
  have hle := lenS_le (m := m) S hm.1 h.ok
  have hok := lenS_ok (m := m) h.ok
  have hsub := lenS_sub (m := m) h.ok
  have hgw := h.lt
  have L1 := Lib.hid (lenS_any (m := m) h (by omega) (by omega))
  generalize lenS m S = H at *
  obtain ⟨N, S1⟩ := H
  dsimp only at *
  have HX := Lib.hid (show X = ([] ++ (pagesR t m N S1).1, (pagesR t m N S1).2) from hX)
  clear hX h
  go_enter Tryz.func34, Tryz.ntmps34
  go_wp2_with fail
  refine L1.out.mono ?_
  rintro e w1 ⟨rfl, s1, g1⟩
  clear L1
  go_wp2_with fail
  go_loopw [7, 8] (fun v i wr => ∃ (j q c : Nat) (A : Option Addr) (pre : List PageS) (Sj : St), i = .int .i64 (j : Int) ∧ v = .slice A q c ∧ wr.ownsRow w.heap.size 41 14 (.slice A q c) q (recs pageV pre) ∧ q + j = N ∧ CurS wr g Sj ∧ (Sj.getD []).length ≤ 140737488351232
    ∧ w.grownBy wr (some g) ∧ Hid (X = (pre ++ (pagesR t m j Sj).1, (pagesR t m j Sj).2))) (fun _ i _ => (intOf i).toNat)
  case atStart => exact ⟨N, 0, 0, none, [], S1, rfl, rfl, row_nil, by omega, s1, by omega, g1, HX⟩
  case round =>
    obtain ⟨j, q, c, A, pre, Sj, rfl, rfl, o, hqj, s, hsl, G, HXj⟩ := hrel
    clear HX s1 g1 hok hsub
    have BD := Lib.hid (badS s)
    have hgr := G.size
    by_cases hj : 0 < j
    · cases Sj with
      | none =>
        simp only [Option.isNone_none] at BD
        have hX := HXj.out
        rw [pagesR_none, List.append_nil] at hX
        have HX := Lib.hid hX
        clear hX HXj
        go_wp2_with fail
        refine BD.out.mono ?_
        rintro e w2 ⟨rfl, rfl⟩
        go_wp2_with fail
        go_ret
        rw [HX.out]
        exact ⟨_, _, _, rfl, o, s, G⟩
      | some b =>
        simp only [Option.isNone_some] at BD
        obtain ⟨j, rfl⟩ : ∃ k, j = k + 1 := ⟨j - 1, by omega⟩
        have hX := HXj.out
        rw [pagesR_step] at hX
        have hokb := s.ok
        have hokp := pageR_ok (t := t) (m := m) hokb
        unfold pageR at hX hokp
        have b1 := lenS_sub (m := 268435456) hokb
        have b2 := lenS_ok (m := 268435456) hokb
        have b3 := lenS_le (m := 268435456) (some b) (by omega) hokb
        have hap := fun b e => (World.ownsRow.lt o b e).2
        have ha : New wr (wr.alloc (.cells #[.int .i64 0, .int .i64 0, .int .i64 0, .bool false, .bool false, .int .i64 0, .string ⟨#[]⟩, .int .i64 0, .int .i64 0, .bool false, .int .i64 0, .string ⟨#[]⟩, .int .i64 0, .int .i64 0] 41)) := (Below.refl _ _).alloc (Nat.le_refl _) _
        have BP := Blk.new wr 41 #[.int .i64 0, .int .i64 0, .int .i64 0, .bool false, .bool false, .int .i64 0, .string ⟨#[]⟩, .int .i64 0, .int .i64 0, .bool false, .int .i64 0, .string ⟨#[]⟩, .int .i64 0, .int .i64 0]
        have s2 := s.below ha
        have o2 := row_later o ha
        have G2 := grown_own G (grown_new_any (row := none) ha) (by simp)
        have hgl := s.lt
        have L2 := Lib.hid (lenS_any (m := 268435456) s2 (by omega) (by omega))
        generalize lenS 268435456 (some b) = H2 at *
        obtain ⟨sz, S2⟩ := H2
        dsimp only at hX hokp b1 b2 b3 L2
        have b4 := lenS_sub (m := m) b2
        have b5 := lenS_ok (m := m) b2
        have b6 := lenS_le (m := m) S2 hm.1 b2
        clear HXj o G s
        go_wp2_with fail
        refine BD.out.mono ?_
        rintro e w2 ⟨rfl, rfl⟩
        go_wp2_with fail
        refine L2.out.mono ?_
        rintro e w3 ⟨rfl, s3, g3⟩
        have hz3 := g3.size
        simp only [World.size_alloc] at hz3
        have BP3 := BP.grown g3 (by intro e; injection e with e; omega)
        have o3 := o2.kept g3 (.inr (fun e => by have := (World.ownsRow.lt o2 _ e).1; omega))
        have G3 := G2.trans g3
        obtain ⟨x0, x1, x2, x3, x4, x5, x6, x7, x8, x9, x10, x11, x12, x13⟩ := cells14 BP3
        have f0 := BP3.frozen 0
        have gS : w3.grownBy (w3.setCell ⟨wr.heap.size, 0, none⟩ (.int .i64 (sz : Int))) (some wr.heap.size) := setCell_gr
        have hzS : w3.heap.size ≤ (w3.setCell ⟨wr.heap.size, 0, none⟩ (.int .i64 (sz : Int))).heap.size := gS.size
        have s4 := s3.keep gS BP3 (by omega) (by decide)
        have o4 := o3.kept gS (.inr (fun e => by have := hap _ e; omega))
        have BP4 := BP3.set_ 0 (.int .i64 (sz : Int))
        simp only [List.setIfInBounds_toArray, List.set_cons_zero] at BP4
        have G4 := grown_then G3 gS (by omega)
        have L4 := Lib.hid (lenS_any (m := m) s4 (by omega) (by omega))
        generalize lenS m S2 = H4 at *
        obtain ⟨rw, S4⟩ := H4
        dsimp only at hX hokp b4 b5 b6 L4
        clear L2 o2 G2 g3 BP s2 s3 o3 G3 BP3 gS BD
        go_wp2_with fail
        refine L4.out.mono ?_
        rintro e w5 ⟨rfl, s5, g5⟩
        have hz5 := g5.size
        have BP5 := BP4.grown g5 (by intro e; injection e with e; omega)
        have o5 := o4.kept g5 (.inr (fun e => by have := (World.ownsRow.lt o4 _ e).1; omega))
        have G5 := G4.trans g5
        clear x0 x1 x2 x3 x4 x5 x6 x7 x8 x9 x10 x11 x12 x13 f0 L4 o4 G4 g5 BP4 s4
        obtain ⟨x0, x1, x2, x3, x4, x5, x6, x7, x8, x9, x10, x11, x12, x13⟩ := cells14 BP5
        have f1 := BP5.frozen 1
        have gS : w5.grownBy (w5.setCell ⟨wr.heap.size, 1, none⟩ (.int .i64 (rw : Int))) (some wr.heap.size) := setCell_gr
        have hzS5 : w5.heap.size ≤ (w5.setCell ⟨wr.heap.size, 1, none⟩ (.int .i64 (rw : Int))).heap.size := gS.size
        have s6 := s5.keep gS BP5 (by omega) (by decide)
        have o6 := o5.kept gS (.inr (fun e => by have := hap _ e; omega))
        have BP6 := BP5.set_ 1 (.int .i64 (rw : Int))
        simp only [List.setIfInBounds_toArray, List.set_cons_zero, List.set_cons_succ] at BP6
        have G6 := grown_then G5 gS (by omega)
        have L6 := Lib.hid (stget_any (t := t) s6 (by simp only [Option.getD_some] at hsl b1; omega))
        have hsA := getA_sub (t := t) b5
        generalize getA t S4 = H6 at *
        obtain ⟨⟨nn, bb, ⟨p1, p2, p3, p4, p5⟩, ⟨q1, q2, q3, q4, q5⟩⟩, S6⟩ := H6
        dsimp only at hX hokp L6 hsA
        have HX := Lib.hid hX
        clear s5 o5 gS BP5 G5 hX
        go_wp2_with fail
        refine L6.out.mono ?_
        rintro e w7 ⟨rfl, s7, g7⟩
        rw [show statA (nn, bb, (p1, p2, p3, p4, p5), (q1, q2, q3, q4, q5)) = .agg #[.int .i64 nn, .bool bb, .bool p1, .int .i64 p2, .string (bstr p3), .int .i64 p4, .int .i64 p5, .bool q1, .int .i64 q2, .string (bstr q3), .int .i64 q4, .int .i64 q5] from rfl]
        have hz7 := g7.size
        have BP7 := BP6.grown g7 (by intro e; injection e with e; omega)
        have o7 := o6.kept g7 (.inr (fun e => by have := (World.ownsRow.lt o6 _ e).1; omega))
        have G7 := G6.trans g7
        clear x0 x1 x2 x3 x4 x5 x6 x7 x8 x9 x10 x11 x12 x13 f1 L6 o6 G6 g7 BP6 s6
        go_wp2_with (first
          | (refine wpList_store12G rfl 37 (.tmp 32) (.tmp 31) rfl wr.heap.size 2 rfl rfl BP7 (by simp) (by kernel_rfl) (by simp [Value.oneCell']) ?_
             intro w8 BP8 g8
             simp only [List.setIfInBounds_toArray, List.set_cons_zero, List.set_cons_succ] at BP8
             have s8 := s7.keep g8 BP7 (by omega) (by decide)
             have o8 := o7.kept g8 (.inr (fun e => by have := hap _ e; omega))
             have hz8 := g8.size
             have G8 := grown_then G7 g8 (by omega)
             obtain ⟨x0, x1, x2, x3, x4, x5, x6, x7, x8, x9, x10, x11, x12, x13⟩ := cells14 BP8
             clear BP7 s7 o7 G7 g8)
          | (refine wpList_pushR elPg rfl (.tmp 33) (.tmp 35) rfl (W := w) (B := 0) (base := w.heap.size) (n := q) o8 rfl rfl (below_zero G8) (Nat.zero_le _) (by omega) rfl (by simp [Value.oneCell']) (by omega) (by simp only [maxLen]; omega) ?_
             intro A9 c9 w9 hc9 _ o9 g9 _ hz9 _
             have s9 := s8.pushRow o8 g9 (by decide) (by decide)
             have G9 := grown_own G8 g9 (fun b e => (World.ownsRow.lt o8 b e).1)
             have o9 : w9.ownsRow w.heap.size 41 14 (.slice A9 (q + 1) c9) (q + 1) (recs pageV (pre ++ [((sz : Int), (rw : Int), (nn, bb, (p1, p2, p3, p4, p5), (q1, q2, q3, q4, q5)))])) := by
               rw [recs_append]
               exact o9
             have HX2 : Hid (X = ((pre ++ [((sz : Int), (rw : Int), (nn, bb, (p1, p2, p3, p4, p5), (q1, q2, q3, q4, q5)))]) ++ (pagesR t m j S6).1, (pagesR t m j S6).2)) := Lib.hid (by rw [HX.out]; simp)
             clear o8 s8 G8 g9 HX BP8))
        go_roundw
        case rel => exact ⟨j, q + 1, c9, A9, _, S6, by go_num, rfl, o9, by omega, s9, by simp only [Option.getD_some] at hsl b1; omega, G9, HX2⟩
        case measure => simp [intOf]
    · obtain rfl : j = 0 := by omega
      have hX := HXj.out
      have e0 : pagesR t m 0 Sj = ([], Sj) := rfl
      rw [e0, List.append_nil] at hX
      have HX := Lib.hid hX
      clear hX HXj e0
      go_wp2_with fail
      go_ret
      rw [HX.out]
      exact ⟨_, _, _, rfl, o, s, G⟩

end Go.Proofs.YtflaaahcoglflaaGreat
/- append of records, at one operation. No program is named here. -/

namespace Go.Hm
open Go Go.RowKit

section
variable {P : Program} {o : Oper} {a : Act} {Q : Exit → Act → World → Prop} {K : Act → World → Prop}
/-- append(s, xs...) of records onto a row of the call's own. -/
theorem wp_appR {w : World} {t e : TypeId} {z : Value} {sz bytes : Nat} (E : ElT P t e z sz bytes) (s x : Operand)
    (ho : o.op = .call { callee := .builtin .append, args := #[s, x], argTypes := #[t, t] })
    {W : World} {B base n m c : Nat} {v : Value} {xs news : List Value} {A : Option Addr} (hown : w.ownsRow base e sz v n xs) (hr : Reads w w.heap.size sz A m news) (hs : a.eval s = v) (hx : a.eval x = .slice A m c)
    (hb : Below B W w) (hbB : B ≤ base) (hbase : base ≤ w.heap.size) (h1 : ∀ u ∈ news, u.oneCell' = true)
    (hn : (n + m) * bytes ≤ 140737488355328) (hm : n + m ≤ maxLen)
    (h : ∀ A' c' w', n + m ≤ c' → c' ≤ maxLen → w'.ownsRow base e sz (.slice A' (n + m) c') (n + m) (xs ++ news) → w.grownBy w' v.ownBlock → Below B W w' → K (a.put o.dst (.slice A' (n + m) c')) w') :
    Oper.wp P o a w K Q := by
  obtain ⟨i, hi, hz0, hz1, hz2⟩ := info_parts E.hi
  rcases A with _ | ad
  · have hm0 : m = 0 := by
      rcases Nat.eq_zero_or_pos m with h0 | h0
      · exact h0
      · obtain ⟨ad, h', _⟩ := hr.2 h0
        cases h'
    subst hm0
    have hn0 : news = [] := List.eq_nil_of_length_eq_zero (by have := hr.1; omega)
    subst hn0
    have hrun : ∀ ty, (Builtin.append_ #[t, t] ty #[v, .slice none 0 c]).run P w = .ok v w := by
      intro ty
      rcases hown.2 with ⟨rfl, hx0⟩ | ⟨g, cap, cur, rfl, _, _, hnc, _⟩
      · simp [Builtin.append_, run_underlying E.ht, sizeOf, typeInfo, hi, Builtin.lenOf, Builtin.firstCells]
      · simp [Builtin.append_, run_underlying E.ht, sizeOf, typeInfo, hi, Builtin.lenOf, Builtin.firstCells, hnc, storeCells]
    obtain ⟨A', c', rfl, hc1, hc2⟩ := row_slice hown
    unfold Oper.wp execOp
    simp only [ho, resolve, invoke, builtin, Sem.run_bind, Sem.run_pure, Result.andThen_ok, List.map_toArray, List.map_cons, List.map_nil, hs, hx, hrun]
    exact h A' c' w hc1 hc2 (by simpa using hown) (World.grownBy.refl w _) hb
  · have hl : news.length = m * sz := hr.1
    have hcells : ∀ j u, news[j]? = some u → w.cell? (ad.add j) = some u := by
      intro j u hu
      rcases Nat.eq_zero_or_pos m with h0 | h0
      · subst h0
        have hn : news = [] := List.eq_nil_of_length_eq_zero (by omega)
        subst hn
        simp at hu
      · obtain ⟨ad', h', _, hc⟩ := hr.2 h0
        injection h' with h'
        subst h'
        exact hc j u hu
    obtain ⟨v', w', hr', hown', hg, _, _⟩ := run_append_own_at (P := P) w base t o.type e i z sz bytes E.ht hi hz0 hz1 hz2 E.hz E.hs v n xs hown ad m c news hl hcells h1 hm hn hbase
    obtain ⟨A', c', rfl, hc1, hc2⟩ := row_slice hown'
    unfold Oper.wp execOp
    simp only [ho, resolve, invoke, builtin, Sem.run_bind, Sem.run_pure, Result.andThen_ok, List.map_toArray, List.map_cons, List.map_nil, hs, hx, hr']
    exact h A' c' w' hc1 hc2 hown' hg (hb.grown hg (Nat.le_trans hbB hbase) (fun k hk => by have := (World.ownsRow.lt hown k hk).1; omega))
end
/-- The blocks that a row may turn. -/
def rowT (v : Value) : List Nat := match v.ownBlock with | some g => [g] | none => []
theorem Turns.row {w w' : World} {v : Value} (h : w.grownBy w' v.ownBlock) : Turns (rowT v) w w' := by
  unfold rowT
  cases e : v.ownBlock with
  | none => rw [e] at h; exact Turns.of_none h
  | some g => rw [e] at h; exact Turns.of_far h (by simp)
theorem rowT_ge {w : World} {base sz n : Nat} {e : TypeId} {v : Value} {xs : List Value} (h : w.ownsRow base e sz v n xs) : ∀ x ∈ rowT v, base ≤ x ∧ x < w.heap.size := by
  intro x hx
  unfold rowT at hx
  cases e : v.ownBlock with
  | none => rw [e] at hx; simp at hx
  | some g => rw [e] at hx; simp at hx; subst hx; exact World.ownsRow.lt h _ e
theorem rowT_ne {w : World} {base sz n : Nat} {e t : TypeId} {v : Value} {xs : List Value} {g : Nat} {cs : Array Value} (h : w.ownsRow base e sz v n xs) (hg : Blk w g t cs) (hne : e ≠ t) : g ∉ rowT v := by
  intro hx
  unfold rowT at hx
  cases e' : v.ownBlock with
  | none => rw [e'] at hx; simp at hx
  | some g' => rw [e'] at hx; simp at hx; subst hx; exact row_blk_ne h hg hne e'
theorem row_touch {w w' : World} {base sz n : Nat} {e : TypeId} {v : Value} {xs : List Value} {T : List Nat} (h : w.ownsRow base e sz v n xs) (k : Turns T w w') (hT : ∀ x ∈ T, v.ownBlock ≠ some x) : w'.ownsRow base e sz v n xs := by
  refine ⟨h.1, ?_⟩
  rcases h.2 with hn | ⟨g, cap, cur, rfl, hbg, hgg, rest⟩
  · exact .inl hn
  · refine .inr ⟨g, cap, cur, rfl, hbg, ?_, rest⟩
    rw [k.block g (Array.getElem?_eq_some_iff.1 hgg).1 (fun hm => hT g hm rfl)]
    exact hgg
/-- A row of another element type is not the one that is turned. -/
theorem row_row {w : World} {base base2 sz sz2 n n2 : Nat} {e e2 : TypeId} {v v2 : Value} {xs xs2 : List Value} (h : w.ownsRow base e sz v n xs) (h2 : w.ownsRow base2 e2 sz2 v2 n2 xs2) (hne : e ≠ e2) : ∀ x ∈ rowT v2, v.ownBlock ≠ some x := by
  intro x hx
  unfold rowT at hx
  cases e' : v2.ownBlock with
  | none => rw [e'] at hx; simp at hx
  | some g =>
    rw [e'] at hx
    simp at hx
    subst hx
    rcases h2.2 with ⟨rfl, _⟩ | ⟨g', cap, cur, rfl, _, hh, _⟩
    · simp [Value.ownBlock] at e'
    · have : g' = x := by simpa [Value.ownBlock] using e'
      subst this
      exact row_blk_ne h hh hne

end Go.Hm
