/- Contract on ref07.Project. -/
import Derived.Test.YtcnaameebbcmhaaCellJ
import Derived.Test.YtcnaameebbcmhaaCellF
import Derived.Test.YtcnaameebbcmhaaCellCr
import Derived.Test.YtcnaameebbcmhaaOpenTb
import Derived.Test.YtcnaameebbcmhaaUpR

namespace Go.Proofs.Ytcnaameebbcmhaa
open Go.RowKit Go.Hm
theorem grown_setCell {w : World} {g i : Nat} {u : Value} : w.grownBy (w.setCell ⟨g, i, none⟩ u) (some g) :=
  ⟨rfl, rfl, rfl, by simp [World.setCell], fun k _ hk => Below.heap_setCell _ _ _ _ (by simpa using hk)⟩
theorem RowsIn.touch {w w' : World} {B base sz n : Nat} {e : TypeId} {v : Value} {xs : List Value} {D : List ColD} (h : RowsIn w B D) (h2 : w.ownsRow base e sz v n xs) (hne : 25 ≠ e) (k : Turns (rowT v) w w') : RowsIn w' B D := fun d hd => row_touch (h d hd) k (row_row (h d hd) h2 hne)
theorem projEr_fits {L : List ColS} {r : Int} {D : List ColD} {l : List Int} {fr to_ : Int} (h : tabCk L r D = 0) : projEr L r D l fr to_ = if fitsB l fr to_ L.length r then 0 else 7 := by
  rw [projEr, if_neg (by simpa using h), fitsB]
  cases placesB l L.length <;> by_cases g1 : 0 ≤ fr <;> by_cases g2 : fr ≤ to_ <;> by_cases g3 : to_ ≤ r <;> simp_all <;> omega
set_option maxHeartbeats 4000000 in
set_option maxRecDepth 100000 in
theorem rproject_any {w : World} {Ac : Option Addr} {cc : Nat} {L : List ColS} {r : Int} {Ad : Option Addr} {cd : Nat} {D : List ColD} {Al : Option Addr} {nl cl : Nat} {l : List Int} {fr to_ : Int}
    (h : TabIn w Ac cc L Ad D) (hl : Reads w w.heap.size 1 Al nl (ints .i64 l)) (hnl : nl ≤ 100000) :
    Calls Try.prog 20 #[.agg #[.slice Ac L.length cc, .int .i64 r, .slice Ad D.length cd], .slice Al nl cl, .int .i64 fr, .int .i64 to_] w (ProjPost (projEr L r D l fr to_) L D l fr to_ w) := by
  obtain rfl := hl.lenI
  have K1 := Lib.hid (fun (hh : tabCk L r D ≠ 0) => show projEr L r D l fr to_ = tabCk L r D by rw [projEr, if_pos hh])
  have K2 := Lib.hid (fun (hh : tabCk L r D = 0) => projEr_fits (l := l) (fr := fr) (to_ := to_) hh)
  have TS := Lib.hid (fun (hh : tabCk L r D = 0) => tab_shape hh)
  have TP := Lib.hid (fun (hh : fitsB l fr to_ L.length r = true) => show (∀ k, k < l.length → 0 ≤ l.getD k 0 ∧ l.getD k 0 < (L.length : Int)) ∧ 0 ≤ fr ∧ fr ≤ to_ ∧ to_ ≤ r by
    unfold fitsB at hh
    simp only [Bool.and_eq_true, decide_eq_true_eq] at hh
    exact ⟨fun k hk => ⟨(places_at hh.1 hk).1, (places_at hh.1 hk).2.1⟩, hh.2.1.1, hh.2.1.2, hh.2.2⟩)
  generalize projEr L r D l fr to_ = O at *
  obtain ⟨W0, hW0⟩ : ∃ W, W = w.alloc (.cells #[.slice Ac L.length cc, .int .i64 r, .slice Ad D.length cd] 35) := ⟨_, rfl⟩
  have b0 : New w W0 := by rw [hW0]; exact (Below.refl _ _).alloc (Nat.le_refl _) _
  have B0 : Blk W0 w.heap.size 35 #[.slice Ac L.length cc, .int .i64 r, .slice Ad D.length cd] := by rw [hW0]; exact Blk.new _ _ _
  obtain ⟨W1, hW1⟩ : ∃ W, W = W0.alloc (.cells #[.slice none 0 0, .int .i64 0, .slice none 0 0] 35) := ⟨_, rfl⟩
  have b1 : New W0 W1 := by rw [hW1]; exact (Below.refl _ _).alloc (Nat.le_refl _) _
  have B1 : Blk W1 W0.heap.size 35 #[.slice none 0 0, .int .i64 0, .slice none 0 0] := by rw [hW1]; exact Blk.new _ _ _
  have b01 := New.trans b0 b1
  have T := Lib.hid (fun (W : World) (hW : New W1 W) => h.later (New.trans b01 hW))
  have rl := Lib.hid (fun (W : World) (hW : New W1 W) => Reads.later hl (New.trans b01 hW))
  have s1 := h.few
  have s2 := h.few2
  obtain ⟨t1, t2, t3, t4, t5, t6, t7⟩ := T.out W1 (New.refl _)
  have P1 := Lib.hid (rcheck_any (cc := cc) (cd := cd) (r := r) t1 t2 t4 t5 t6 t7)
  have P2 := Lib.hid (fun (W : World) (hW : New W1 W) => fits_any (c := cl) (m := L.length) (fr := fr) (to_ := to_) (r := r) (rl.out W hW) (by omega))
  obtain ⟨x0, x1, x2⟩ := ccells (B0.below b1 B0.lt)
  rw [hW1] at x0 x1 x2
  rw [hW0] at x0 x1 x2
  clear h hl t1 t2 t3 t4 t5 t6 t7
  generalize tabCk L r D = q1 at *
  generalize fitsB l fr to_ L.length r = pb at *
  go_enter Try.func20, Try.ntmps20
  go_wp2_with fail
  rw [← hW0, ← hW1]
  refine (P1.out).mono ?_
  rintro e W2 ⟨rfl, b2⟩
  clear x0 x1 x2 P1
  have b12 := New.trans b1 b2
  have hsz : W0.heap.size = w.heap.size + 1 := by rw [hW0]; simp
  rw [hsz] at B1
  clear hW0 hW1
  have B2 := B1.below b2 B1.lt
  have b02 := New.trans b01 b2
  by_cases hq : q1 = 0
  · have J2 := Lib.hid (K2.out hq)
    have TS2 := Lib.hid (TS.out hq)
    clear K1 K2 TS
    subst hq
    obtain ⟨x0, x1, x2⟩ := ccells (B0.below b12 B0.lt)
    have P3 := Lib.hid (P2.out _ b2)
    clear P2
    go_wp2_with fail
    refine (P3.out).mono ?_
    rintro e w' ⟨rfl, q, rfl⟩
    have b2q : New W2 (W2.drewN q) := new_drewN _ _
    have b12 := New.trans b12 b2q
    have b02 := New.trans b02 b2q
    have B2 := B2.below b2q B2.lt
    have b2 := New.trans b2 b2q
    clear x0 x1 x2 P3
    generalize W2.drewN q = W3 at *
    cases pb with
    | false =>
      have O1 := Lib.hid (J2.out)
      simp only [Bool.false_eq_true, if_false] at O1
      obtain ⟨v0, v1, v2⟩ := ccells B2
      have z0 := B2.frozen 0
      have z1 := B2.frozen 1
      have z2 := B2.frozen 2
      clear J2 TP TS2
      go_wp2
      obtain ⟨W4, hW4, R4, b4⟩ := store3n B2 (a := .slice none 0 0) (b := .int .i64 0) (c := .slice none 0 0) b02 (Nat.le_succ _)
      rw [← hW4]
      have s0 := R4.cell 0
      have s1 := R4.cell 1
      have s2 := R4.cell 2
      simp at s0 s1 s2
      exact bodyPost_ret (v := .tuple #[.agg #[.slice none 0 0, .int .i64 0, .slice none 0 0], .int .i64 7]) (by simp [results, Try.results20, go_sem, s0, s1, s2]) rfl (.inl ⟨by rw [O1.out]; decide, by rw [O1.out], b4⟩)
    | true =>
      have O1 := Lib.hid (J2.out)
      simp only [if_true] at O1
      obtain ⟨TP1, hf0, hf1, hf2⟩ := TP.out rfl
      have TP2 := Lib.hid TP1
      have hr6 : r ≤ 65536 := TS2.out.2.2.1
      have hw : IntKind.i64.wrap (to_ - fr) = to_ - fr := by rw [IntKind.wrap_i64]; omega
      clear TP TP1 J2
      go_wp2_with fail
      obtain ⟨W4, hW4⟩ : ∃ W, W = W3.alloc (.cells #[.slice none 0 0, .int .i64 (to_ - fr), .slice none 0 0] 35) := ⟨_, rfl⟩
      have B4 : Blk W4 W3.heap.size 35 #[.slice none 0 0, .int .i64 (to_ - fr), .slice none 0 0] := by rw [hW4]; exact Blk.new _ _ _
      have b34 : New W3 W4 := by rw [hW4]; exact (Below.refl _ _).alloc (Nat.le_refl _) _
      rw [← hW4]
      clear hW4
      have hz13 : W1.heap.size ≤ W3.heap.size := b2.size
      obtain ⟨gt, hgt⟩ : ∃ g, g = W3.heap.size := ⟨_, rfl⟩
      rw [← hgt] at B4 ⊢
      have HGT := Lib.hid hgt
      clear hgt
      go_loopw [13] (fun i wr => ∃ (k : Nat) (Ar Dr : Option Addr) (ar dr : Nat) (D' : List ColD), i = .int .i64 (k : Int) ∧ k ≤ l.length ∧ D'.length = k ∧
          Blk wr gt 35 #[.slice Ar k ar, .int .i64 (to_ - fr), .slice Dr k dr] ∧
          wr.ownsRow W3.heap.size 27 3 (.slice Ar k ar) k (recs colV ((l.take k).map (fun c => L.getD c.toNat ([], 0, false)))) ∧
          wr.ownsRow W3.heap.size 44 1 (.slice Dr k dr) k (recs dataV D') ∧
          RowsIn wr W3.heap.size D' ∧ Hid (D'.map (·.2.2) = (l.take k).map (cutC D fr to_)) ∧ New W3 wr) (fun i _ => l.length - (intOf i).toNat)
      case atStart => exact ⟨0, none, none, 0, 0, [], rfl, by omega, rfl, B4, row_nil, row_nil, fun _ hd => absurd hd (by simp), Lib.hid (by simp), b34⟩
      case round =>
        clear B4 b34
        obtain ⟨k, Ar, Dr, ar, dr, D', rfl, hk, hD', T1, U1, U2, RI, HC, b3⟩ := hrel
        have b13 := New.trans b2 b3
        have b03 := New.trans b1 b13
        by_cases hlt : k < l.length
        · obtain ⟨adl, ea, hbl, cl0⟩ := (rl.out _ b13).int hlt
          subst ea
          obtain ⟨p1, p2⟩ := TP2.out k hlt
          have hcd' := fun (c : Nat) (h : (c : Int) < (L.length : Int)) => show c < D.length by have := TS2.out; omega
          obtain ⟨c, hcc⟩ := Int.eq_ofNat_of_zero_le p1
          have hcl2 : c < L.length := by omega
          have hcd := hcd' c (by omega)
          have HLC := Lib.hid hcc
          rw [hcc] at cl0
          clear hcc p1 p2 hcd'
          obtain ⟨adc, ec, hbc, d0, d1, d2⟩ := (T.out W1 (New.refl _)).cols.colT hcl2
          subst ec
          have HCX := Lib.hid (show L.getD c ([], 0, false) = ((L.getD c ([], 0, false)).1, (L.getD c ([], 0, false)).2.1, (L.getD c ([], 0, false)).2.2) from rfl)
          generalize hcn : (L.getD c ([], 0, false)).1 = cn at *
          generalize hct : (L.getD c ([], 0, false)).2.1 = ct at *
          generalize hcu : (L.getD c ([], 0, false)).2.2 = cu at *
          clear hcn hct hcu
          obtain ⟨adl', el, hbl', cl1⟩ := (rl.out W1 (New.refl _)).int hlt
          obtain rfl := Option.some.inj el
          have hl0 : l.getD k 0 = (c : Int) := HLC.out
          rw [hl0] at cl1
          clear hl0 cl0 hbl el
          have hw1 : w.heap.size < W1.heap.size := by have := B0.lt; have := b1.size; omega
          have N1 := rowT_ne U1 T1 (by decide)
          have G1 := rowT_ge U1
          -- what is read holds whatever of the rows of the call's own is turned
          have FX := fun (T : List Nat) (hT : ∀ x ∈ T, W3.heap.size ≤ x) (w5 : World) (h5 : New W1 w5) (W : World) (hW : Turns T w5 W) => show W.cell? (adl.add k) = some (.int .i64 (c : Int)) ∧ Blk W w.heap.size 35 #[.slice (some adc) L.length cc, .int .i64 r, .slice Ad D.length cd] ∧ W.cell? (adc.add (c * 3)) = some (.string (bstr cn)) ∧ W.cell? ⟨(adc.add (c * 3)).block, (adc.add (c * 3)).off + 1, none⟩ = some (.int .i64 ct) ∧ W.cell? ⟨(adc.add (c * 3)).block, (adc.add (c * 3)).off + 2, none⟩ = some (.bool cu) by
            have hkeep : ∀ (p : Addr) (u : Value), p.block < W1.heap.size → W1.cell? p = some u → W.cell? p = some u := fun p u hp hc => by
              rw [World.cell?_of_block (hW.block p.block (by have := h5.size; omega) (fun hm => by have := hT _ hm; omega)), Below.cell h5 hp, hc]
            refine ⟨hkeep _ _ (by rw [block_of_add]; exact hbl') cl1, (B0.below (New.trans b1 h5) B0.lt).touch hW (fun hm => by have := hT _ hm; omega), hkeep _ _ (by rw [block_of_add]; exact hbc) d0, hkeep _ _ ?_ d1, hkeep _ _ ?_ d2⟩
            · show (adc.add (c * 3)).block < _
              rw [block_of_add]; exact hbc
            · show (adc.add (c * 3)).block < _
              rw [block_of_add]; exact hbc
          have F := Lib.hid (fun (W : World) (hW : Turns (rowT (.slice Ar k ar)) wr.drew W) => And.intro (T1.touch (Turns.trans (Turns.drew _ wr) hW) N1) (FX _ (fun x hx => (G1 x hx).1) wr.drew (New.trans b13 (New.drew wr)) W hW))
          have FX := Lib.hid FX
          clear N1 G1 d0 d1 d2 cl1
          have i1 : (k : Int) < (l.length : Int) := by omega
          have i2 : (c : Int) < (L.length : Int) := by omega
          obtain ⟨v0, v1, v2⟩ := ccells T1
          go_wp2
          clear v0 v1 v2
          refine wp_region_upT (Turns (rowT (.slice Ar k ar))) 13 [(1, 0), (0, 1), (1, 2), (0, 3), (1, 4), (1, 5), (1, 6), (0, 7), (1, 8), (0, 9), (2, 10), (2, 11), (1, 12), (2, 13)]
            (Turns.refl _) Turns.trans (by kernel_rfl) (by kernel_rfl) (by kernel_rfl) (by kernel_rfl) ?_
          repeat (first
            | (refine upT_quiet rfl rfl (v := ?_) (fun W hW => ?_) ?_; rotate_left; (obtain ⟨y1, q0, y2, q1, q2, q3⟩ := F.out W hW; obtain ⟨v0, v1, v2⟩ := ccells y1; obtain ⟨x0, x1, x2⟩ := ccells y2; go_simp <;> with_reducible rfl); simp only [Act.put, List.setIfInBounds_toArray, List.set_cons_zero, List.set_cons_succ])
            | (refine upT_pure rfl rfl (v := ?_) (fun W => ?_) ?_; rotate_left; (go_simp <;> with_reducible rfl); simp only [Act.put, List.setIfInBounds_toArray, List.set_cons_zero, List.set_cons_succ]))
          refine upT_call rfl rfl (fun K hK => ?_)
          go_simp
          refine hK _ _ (.inr (.inr (Turns.of_new ((Below.refl _ _).alloc (Nat.le_refl _) _)))) ?_
          clear hK
          obtain ⟨W6, hW6⟩ : ∃ W, W = (wr.alloc (.cells #[.string (bstr cn), .int .i64 ct, .bool cu] 27)).drew := ⟨_, rfl⟩
          have b56 : New wr W6 := by rw [hW6]; exact New.trans ((Below.refl _ _).alloc (Nat.le_refl _) _) (New.drew _)
          have R6 : Reads W6 W6.heap.size 3 (some ⟨wr.heap.size, 0, none⟩) 1 (recs colV [(cn, ct, cu)]) := by rw [hW6]; exact Reads.litR wr _ _ 1 3 _ rfl rfl
          rw [← hW6]
          clear hW6
          have U16 := row_later U1 b56
          have U26 := row_later U2 b56
          have T6 := T1.below b56 T1.lt
          have RI6 := RI.later b56
          have b36 := New.trans b3 b56
          refine upT_call rfl rfl (fun K hK => ?_)
          refine wp_appR elCol7 (.tmp 43) (.tmp 52) rfl (W := W3) (B := W3.heap.size) U16 R6 rfl rfl b36 (Nat.le_refl _) b36.size (recs_one (by intro x u hu; simp [colV] at hu; rcases hu with rfl | rfl | rfl <;> rfl) _) (by omega) (by simp only [maxLen]; omega) ?_
          intro A7 c7 w7 _ _ U17 g7 b37
          refine hK _ _ (.inr (.inr (Turns.row g7))) ?_
          clear hK F
          have T7 := T6.touch (Turns.row g7) (rowT_ne U16 T6 (by decide))
          have U27 := row_touch U26 (Turns.row g7) (row_row U26 U16 (by decide))
          have RI7 := RI6.touch U16 (by decide) (Turns.row g7)
          have x0 := T7.cell 0
          have y0 := T7.frozen 0
          simp at x0
          have HT7 := Lib.hid T7
          have HU17 := Lib.hid U17
          have HU27 := Lib.hid U27
          clear T7 U17 U27 U16 U26 T6 RI6 R6 g7 b56 b36 T1 U1 U2 RI
          refine upT_pure rfl rfl (v := ?_) (fun W => ?_) ?_
          rotate_left
          · go_simp <;> with_reducible rfl
          simp only [Act.put, List.setIfInBounds_toArray, List.set_cons_zero, List.set_cons_succ]
          refine upT_call rfl rfl (fun K hK => ?_)
          go_simp
          refine hK _ _ (.inr (.inl rfl)) ?_
          clear hK x0 y0
          refine upT_nil ?_
          obtain ⟨W8, hW8⟩ : ∃ W, W = w7.setCell ⟨gt, 0, none⟩ (.slice A7 (k + 1) c7) := ⟨_, rfl⟩
          have T8 : Blk W8 gt 35 #[.slice A7 (k + 1) c7, .int .i64 (to_ - fr), .slice Dr k dr] := by rw [hW8]; simpa using HT7.out.set_ 0 (.slice A7 (k + 1) c7)
          have U18 : W8.ownsRow W3.heap.size 27 3 (.slice A7 (k + 1) c7) (k + 1) (recs colV ((l.take (k + 1)).map (fun c => L.getD c.toNat ([], 0, false)))) := by
            rw [take_snoc l k 0 hlt, List.map_append, recs_append, List.map_singleton, HLC.out, Int.toNat_natCast, HCX.out, hW8]
            exact World.ownsRow.kept HU17.out grown_setCell (.inr (row_blk_ne HU17.out HT7.out (by decide)))
          have U28 : W8.ownsRow W3.heap.size 44 1 (.slice Dr k dr) k (recs dataV D') := by
            rw [hW8]
            exact World.ownsRow.kept HU27.out grown_setCell (.inr (row_blk_ne HU27.out HT7.out (by decide)))
          have RI8 : RowsIn W8 W3.heap.size D' := by rw [hW8]; exact RI7.keepT HT7.out (by decide) grown_setCell
          have b38 : New W3 W8 := by rw [hW8]; exact b37.grown grown_setCell b37.size (fun k hk => by injection hk with hk; have := HGT.out; omega)
          rw [← hW8]
          clear hW8 HT7 HU17 HU27 RI7 b37
          have b18 := New.trans b2 b38
          obtain ⟨add, ed, hbd, dd0⟩ := (T.out W1 (New.refl _)).data.colD hcd
          subst ed
          obtain ⟨E1, E2, E3, E4, E5⟩ := (T.out W8 b18).within _ (mem_getDJ (none, 0, []) hcd)
          have hlr : (((D.getD c (none, 0, [])).2.2.length : Nat) : Int) = r := TS2.out.2.2.2.2 _ (mem_getDJ (none, 0, []) hcd)
          obtain ⟨f, rfl⟩ := Int.eq_ofNat_of_zero_le hf0
          obtain ⟨t, rfl⟩ := Int.eq_ofNat_of_zero_le (Int.le_trans hf0 hf1)
          have E6 := (E1.cut (k := f) (cap := (D.getD c (none, 0, [])).2.1) (by omega) E3).take (k := t - f) (by omega)
          have HCT := Lib.hid (show ((D.getD c (none, 0, [])).2.2.drop f).take (t - f) = cutC D (f : Int) (t : Int) (c : Int) by rw [cutC, Int.toNat_natCast, Int.toNat_natCast, show ((t : Int) - (f : Int)).toNat = t - f by omega])
          rw [recs_drop (f := cellV) (sz := 5) (fun _ => rfl) _ _ (by omega), recs_take (f := cellV) (sz := 5) (fun _ => rfl) _ _ (by rw [List.length_drop]; omega), HCT.out] at E6
          generalize (D.getD c (none, 0, [])).1 = aA at *
          generalize (D.getD c (none, 0, [])).2.2.length = lA at *
          generalize (D.getD c (none, 0, [])).2.1 = cA at *
          have i3 : (c : Int) < (D.length : Int) := by omega
          have i4 : (f : Int) ≤ (t : Int) := by omega
          have i5 : (t : Int) ≤ (cA : Int) := by omega
          have N2 := rowT_ne U28 T8 (by decide)
          have G2 := rowT_ge U28
          have hgt8 : gt ≠ W8.heap.size := by have := T8.lt; omega
          have F2 := Lib.hid (fun (W : World) (hW : Turns (W8.heap.size :: rowT (.slice Dr k dr)) W8.drew W) => show Blk W gt 35 #[.slice A7 (k + 1) c7, .int .i64 ((t : Int) - (f : Int)), .slice Dr k dr] ∧ W.cell? (adl.add k) = some (.int .i64 (c : Int)) ∧ Blk W w.heap.size 35 #[.slice (some adc) L.length cc, .int .i64 r, .slice (some add) D.length cd] ∧ W.cell? (add.add c) = some (.slice aA lA cA) by
            have hT : ∀ x ∈ (W8.heap.size :: rowT (.slice Dr k dr)), W3.heap.size ≤ x := by
              intro x hx
              rcases List.mem_cons.1 hx with rfl | hx
              · exact b38.size
              · exact (G2 x hx).1
            obtain ⟨q1, q2, _⟩ := FX.out _ hT W8.drew (New.trans b18 (New.drew W8)) W hW
            refine ⟨T8.touch (Turns.trans (Turns.drew _ W8) hW) (fun hx => ?_), q1, q2, ?_⟩
            · rcases List.mem_cons.1 hx with hx | hx
              · exact hgt8 hx
              · exact N2 hx
            · have h5 := New.trans b18 (New.drew W8)
              rw [World.cell?_of_block (hW.block _ (by rw [block_of_add]; have := h5.size; omega) (fun hm => by rw [block_of_add] at hm; have := hT _ hm; omega)), Below.cell h5 (by rw [block_of_add]; exact hbd), dd0])
          have HE6 := Lib.hid E6
          have hln := E6.lenCell
          have HLN := Lib.hid hln
          have hz8 : W3.heap.size ≤ W8.heap.size := b38.size
          clear FX dd0 E1 E2 E4 E5 E6 N2 G2 hgt8 hln
          go_wp2_with fail
          refine wp_region_upT (Turns (W8.heap.size :: rowT (.slice Dr k dr))) 18 [(1, 0), (0, 1), (1, 3), (0, 4), (1, 5), (1, 6), (1, 7), (0, 8), (1, 9), (0, 10), (1, 11), (1, 12), (1, 13), (2, 2), (2, 14), (2, 15), (2, 16), (1, 17), (2, 18)]
            (Turns.refl _) Turns.trans (by kernel_rfl) (by kernel_rfl) (by kernel_rfl) (by kernel_rfl) ?_
          repeat (first
            | (refine upT_quiet rfl rfl (v := ?_) (fun W hW => ?_) ?_; rotate_left; (obtain ⟨y1, q0, y2, q1⟩ := F2.out W hW; obtain ⟨v0, v1, v2⟩ := ccells y1; obtain ⟨x0, x1, x2⟩ := ccells y2; go_simp <;> with_reducible rfl); simp only [Act.put, List.setIfInBounds_toArray, List.set_cons_zero, List.set_cons_succ])
            | (refine upT_pure rfl rfl (v := ?_) (fun W => ?_) ?_; rotate_left; (go_simp <;> with_reducible rfl); simp only [Act.put, List.setIfInBounds_toArray, List.set_cons_zero, List.set_cons_succ]))
          refine upT_call rfl rfl (fun K hK => ?_)
          go_simp
          have t1 := Lib.hid (show Turns (W8.heap.size :: rowT (.slice Dr k dr)) W8.drew (W8.alloc (.cells #[] 25)).drew from Turns.of_new (show New W8.drew (W8.drew.alloc (.cells #[] 25)) from (Below.refl _ _).alloc (Nat.le_refl _) _))
          refine hK _ _ (.inr (.inr t1.out)) ?_
          clear hK
          obtain ⟨W9, hW9⟩ : ∃ W, W = (W8.alloc (.cells #[] 25)).drew := ⟨_, rfl⟩
          have b89 : New W8 W9 := by rw [hW9]; exact New.trans ((Below.refl _ _).alloc (Nat.le_refl _) _) (New.drew _)
          have M9 : W9.ownsRow W8.heap.size 25 5 (.slice (some ⟨W8.heap.size, 0, none⟩) 0 0) 0 [] := by rw [hW9]; exact made0 W8 _
          rw [← hW9]
          clear hW9 t1
          have R9 := Reads.later HE6.out b89
          have U19 := row_later U18 b89
          have U29 := row_later U28 b89
          have T9 := T8.below b89 T8.lt
          have RI9 := RI8.later b89
          have b39 := New.trans b38 b89
          have hz9 : W8.heap.size < W9.heap.size := (World.ownsRow.lt M9 _ rfl).2
          refine upT_call rfl rfl (fun K hK => ?_)
          refine wp_appR elCell (.tmp 57) (.tmp 68) rfl (W := W3) (B := W3.heap.size) M9 R9 rfl rfl b39 hz8 b89.size (recs_one cellV_one _) (by omega) (by simp only [maxLen]; omega) ?_
          intro A10 c10 w10 _ _ M10 g10 b310
          rw [Nat.zero_add] at M10
          rw [List.nil_append] at M10
          refine hK _ _ (.inr (.inr (Turns.of_far g10 (by simp)))) ?_
          clear hK
          have hk18 : W8.heap.size < W9.heap.size := hz9
          have n1 : ∀ {e sz v n} {xs : List Value} {base : Nat}, W8.ownsRow base e sz v n xs → v.ownBlock ≠ some W8.heap.size := fun h hh => by have := (World.ownsRow.lt h _ hh).2; omega
          have U110 := World.ownsRow.kept U19 g10 (.inr (n1 U18))
          have U210 := World.ownsRow.kept U29 g10 (.inr (n1 U28))
          have T10 := T9.grown g10 (by have := T8.lt; simp [Value.ownBlock]; omega)
          have RI10 : RowsIn w10 W3.heap.size D' := fun d hd => World.ownsRow.kept (RI9 d hd) g10 (.inr (n1 (RI8 d hd)))
          rw [HLN.out] at M10
          have M10 := row_base M10 hz8
          refine upT_call rfl rfl (fun K hK => ?_)
          go_simp
          refine hK _ _ (.inr (.inr (Turns.of_new ((Below.refl _ _).alloc (Nat.le_refl _) _)))) ?_
          clear hK
          rw [HLN.out]
          obtain ⟨W11, hW11⟩ : ∃ W, W = w10.alloc (.cells #[.slice A10 (cutC D (f : Int) (t : Int) (c : Int)).length c10] 44) := ⟨_, rfl⟩
          have b1011 : New w10 W11 := by rw [hW11]; exact (Below.refl _ _).alloc (Nat.le_refl _) _
          have R11 : Reads W11 W11.heap.size 1 (some ⟨w10.heap.size, 0, none⟩) 1 (recs dataV [(A10, c10, cutC D (f : Int) (t : Int) (c : Int))]) := by rw [hW11]; exact Reads.litR w10 _ _ 1 1 _ rfl rfl
          rw [← hW11]
          clear hW11
          have U111 := row_later U110 b1011
          have U211 := row_later U210 b1011
          have T11 := T10.below b1011 T10.lt
          have RI11 := (RI10.snoc (d := (A10, c10, cutC D (f : Int) (t : Int) (c : Int))) M10).later b1011
          have b311 := New.trans b310 b1011
          refine upT_call rfl rfl (fun K hK => ?_)
          refine wp_appR elData (.tmp 56) (.tmp 70) rfl (W := W3) (B := W3.heap.size) U211 R11 rfl rfl b311 (Nat.le_refl _) b311.size (recs_one (by intro x u hu; simp [dataV] at hu; subst hu; rfl) _) (by omega) (by simp only [maxLen]; omega) ?_
          intro A12 c12 w12 _ _ U212 g12 b312
          rw [← recs_append] at U212
          refine hK _ _ (.inr (.inr ((Turns.row g12).more (fun x hx => List.mem_cons_of_mem _ hx)))) ?_
          clear hK
          have U112 := row_touch U111 (Turns.row g12) (row_row U111 U211 (by decide))
          have T12 := T11.touch (Turns.row g12) (rowT_ne U211 T11 (by decide))
          have RI12 := RI11.touch U211 (by decide) (Turns.row g12)
          refine upT_pure rfl rfl (v := ?_) (fun W => ?_) ?_
          rotate_left
          · go_simp <;> with_reducible rfl
          simp only [Act.put, List.setIfInBounds_toArray, List.set_cons_zero, List.set_cons_succ]
          have x0 := T12.cell 2
          have y0 := T12.frozen 2
          simp at x0
          have HT12 := Lib.hid T12
          have HU1 := Lib.hid U112
          have HU2 := Lib.hid U212
          clear T12 U112 U212 U18 U28 RI8 T8 M9 R9 U19 U29 T9 RI9 b39 M10 g10 b310 U110 U210 T10 RI10 R11 U111 U211 T11 RI11 b311 g12 F2 HE6 n1 b89 b1011
          refine upT_call rfl rfl (fun K hK => ?_)
          go_simp
          refine hK _ _ (.inr (.inl rfl)) ?_
          clear hK x0 y0
          refine upT_nil ?_
          obtain ⟨W13, hW13⟩ : ∃ W, W = w12.setCell ⟨gt, 2, none⟩ (.slice A12 (k + 1) c12) := ⟨_, rfl⟩
          have T13 : Blk W13 gt 35 #[.slice A7 (k + 1) c7, .int .i64 ((t : Int) - (f : Int)), .slice A12 (k + 1) c12] := by rw [hW13]; simpa using HT12.out.set_ 2 (.slice A12 (k + 1) c12)
          have U113 : W13.ownsRow W3.heap.size 27 3 (.slice A7 (k + 1) c7) (k + 1) (recs colV ((l.take (k + 1)).map (fun c => L.getD c.toNat ([], 0, false)))) := by rw [hW13]; exact World.ownsRow.kept HU1.out grown_setCell (.inr (row_blk_ne HU1.out HT12.out (by decide)))
          have U213 : W13.ownsRow W3.heap.size 44 1 (.slice A12 (k + 1) c12) (k + 1) (recs dataV (D' ++ [(A10, c10, cutC D (f : Int) (t : Int) (c : Int))])) := by rw [hW13]; exact World.ownsRow.kept HU2.out grown_setCell (.inr (row_blk_ne HU2.out HT12.out (by decide)))
          have RI13 : RowsIn W13 W3.heap.size (D' ++ [(A10, c10, cutC D (f : Int) (t : Int) (c : Int))]) := by rw [hW13]; exact RI12.keepT HT12.out (by decide) grown_setCell
          have b313 : New W3 W13 := by rw [hW13]; exact b312.grown grown_setCell b312.size (fun k hk => by injection hk with hk; have := HGT.out; omega)
          have HC13 := Lib.hid (show (D' ++ [((A10, c10, cutC D (f : Int) (t : Int) (c : Int)) : ColD)]).map (·.2.2) = (l.take (k + 1)).map (cutC D (f : Int) (t : Int)) by
            rw [take_snoc l k 0 hlt, List.map_append, List.map_append, HC.out, HLC.out]; rfl)
          rw [← hW13]
          clear hW13 HT12 HU1 HU2 RI12 b312 HC HLC HCX HCT HLN
          go_wp2
          go_roundw
          case rel => exact ⟨k + 1, _, _, _, _, _, by go_num, by omega, by simp [hD'], T13, U113, U213, RI13, HC13, b313⟩
          case measure => simp [intOf]; omega
        · obtain rfl : k = l.length := by omega
          rw [List.take_length] at U1
          have HC2 := HC.out
          rw [List.take_length] at HC2
          have B2 := B2.below b3 B2.lt
          obtain ⟨v0, v1, v2⟩ := ccells B2
          obtain ⟨x0, x1, x2⟩ := ccells T1
          have z0 := B2.frozen 0
          have z1 := B2.frozen 1
          have z2 := B2.frozen 2
          have b02 := New.trans b02 b3
          have H2 := Lib.hid HC2
          have HU1 := Lib.hid U1
          have HU2 := Lib.hid U2
          clear HC HC2 U1 U2
          have hge : w.heap.size ≤ w.heap.size + 1 := Nat.le_succ _
          go_wp2
          obtain ⟨W5, hW5, R5, b5w, g5⟩ := store3b B2 (a := .slice Ar l.length ar) (b := .int .i64 (to_ - fr)) (c := .slice Dr l.length dr) b02 hge
          rw [← hW5]
          have s0 := R5.cell 0
          have s1 := R5.cell 1
          have s2 := R5.cell 2
          simp at s0 s1 s2
          have hwz : w.heap.size ≤ W3.heap.size := by have := b01.size; have := b2.size; omega
          have U13 := row_base (World.ownsRow.kept HU1.out g5 (.inr (row_blk_ne HU1.out B2 (by decide)))) hwz
          have U23 := row_base (World.ownsRow.kept HU2.out g5 (.inr (row_blk_ne HU2.out B2 (by decide)))) hwz
          have R13 := (RI.keepT B2 (by decide) g5).base hwz
          refine bodyPost_ret (v := .tuple #[.agg #[.slice Ar l.length ar, .int .i64 (to_ - fr), .slice Dr l.length dr], .int .i64 0]) (by simp [results, Try.results20, go_sem, s0, s1, s2]) rfl (.inr ⟨O1.out, Ar, Dr, ar, dr, D', ?_, ?_, ?_, R13, H2.out, b5w⟩)
          · rw [List.length_map, hD']
          · rw [List.length_map]; exact U13
          · rw [hD']; exact U23
  · have O1 := Lib.hid (K1.out hq)
    clear K1 K2 P2
    obtain ⟨v0, v1, v2⟩ := ccells B2
    have z0 := B2.frozen 0
    have z1 := B2.frozen 1
    have z2 := B2.frozen 2
    have e1 : (q1 != 0) = true := by simpa using hq
    go_wp2
    obtain ⟨W3, hW3, R3, b3⟩ := store3n B2 (a := .slice none 0 0) (b := .int .i64 0) (c := .slice none 0 0) b02 (Nat.le_succ _)
    rw [← hW3]
    have s0 := R3.cell 0
    have s1 := R3.cell 1
    have s2 := R3.cell 2
    simp at s0 s1 s2
    exact bodyPost_ret (v := .tuple #[.agg #[.slice none 0 0, .int .i64 0, .slice none 0 0], .int .i64 q1]) (by simp [results, Try.results20, go_sem, s0, s1, s2]) rfl (.inl ⟨by rw [O1.out]; exact hq, by rw [O1.out], b3⟩)

end Go.Proofs.Ytcnaameebbcmhaa
