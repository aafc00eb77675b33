/- Contract on ref07.Check. -/
import Derived.Test.YtcnaameebbcmhaaCellC
import Derived.Test.YtcnaameebbcmhaaCellRr
import Derived.Test.YtcnaameebbcmhaaColsR

namespace Go.Hm
open Go Go.RowKit
theorem tab1 {L : List ColS} {r : Int} {D : List ColD} (h : colsCk L ≠ 0) : tabCk L r D = colsCk L := by rw [tabCk, if_pos h]
theorem tab0 {L : List ColS} {r : Int} {D : List ColD} (h : colsCk L = 0) (h2 : shapeCk L.length r D ≠ 0) : tabCk L r D = shapeCk L.length r D := by rw [tabCk, if_neg (by simpa using h), if_pos h2]
theorem tab2 {L : List ColS} {r : Int} {D : List ColD} (h : colsCk L = 0) (h1 : 65536 < r) : tabCk L r D = 4 := by
  have e : shapeCk L.length r D = 4 := by rw [shapeCk, if_pos h1]
  rw [tab0 h (by rw [e]; decide), e]
theorem tab3 {L : List ColS} {r : Int} {D : List ColD} (h : colsCk L = 0) (h1 : ¬ 65536 < r) (h2 : r < 0 ∨ D.length ≠ L.length) : tabCk L r D = 2 := by
  have e : shapeCk L.length r D = 2 := by rw [shapeCk, if_neg h1, if_pos h2]
  rw [tab0 h (by rw [e]; decide), e]
theorem tab4 {L : List ColS} {r : Int} {D : List ColD} (h : colsCk L = 0) (h1 : ¬ 65536 < r) (h2 : ¬ (r < 0 ∨ D.length ≠ L.length)) (d : ColD) (hd : d ∈ D) (h3 : ((d.2.2.length : Nat) : Int) ≠ r) : tabCk L r D = 2 := by
  have e : shapeCk L.length r D = 2 := by rw [shapeCk, if_neg h1, if_neg h2, if_pos ⟨d, hd, h3⟩]
  rw [tab0 h (by rw [e]; decide), e]
theorem tab5 {L : List ColS} {r : Int} {D : List ColD} (h : colsCk L = 0) (h1 : ¬ 65536 < r) (h2 : ¬ (r < 0 ∨ D.length ≠ L.length)) (h3 : ∀ d ∈ D, ((d.2.2.length : Nat) : Int) = r) : tabCk L r D = if allRight D L then 0 else 3 := by
  have e : shapeCk L.length r D = 0 := by rw [shapeCk, if_neg h1, if_neg h2, if_neg (fun ⟨d, hd, h4⟩ => h4 (h3 d hd))]
  rw [tabCk, if_neg (by simpa using h), if_neg (by simpa using e)]

end Go.Hm

namespace Go.Proofs.Ytcnaameebbcmhaa
open Go.RowKit Go.Hm
set_option maxHeartbeats 4000000 in
set_option maxRecDepth 100000 in
theorem rcheck_any {w : World} {Ac : Option Addr} {nc cc : Nat} {L : List ColS} {r : Int} {Ad : Option Addr} {nd cd : Nat} {D : List ColD}
    (h1 : Reads w w.heap.size 3 Ac nc (recs colV L)) (hL : ∀ x ∈ L, (∀ z ∈ x.1, z < 256) ∧ x.1.length ≤ 140737488351232) (hn : nc ≤ 4611686018427387903)
    (h : Reads w w.heap.size 1 Ad nd (recs dataV D)) (hnd : nd ≤ 4611686018427387903) (hD : DataIn w w.heap.size D) :
    Calls Try.prog 16 #[.agg #[.slice Ac nc cc, .int .i64 r, .slice Ad nd cd]] w (NewPost (.int .i64 (tabCk L r D)) w) := by
  obtain rfl := h1.lenC
  obtain rfl := h.lenD
  have K1 := Lib.hid (fun (hh : colsCk L ≠ 0) => tab1 (r := r) (D := D) hh)
  have K2 := Lib.hid (fun (hh : colsCk L = 0) (h2 : 65536 < r) => tab2 (D := D) hh h2)
  have K3 := Lib.hid (fun (hh : colsCk L = 0) (h2 : ¬ 65536 < r) (h3 : r < 0 ∨ D.length ≠ L.length) => tab3 hh h2 h3)
  have K4 := Lib.hid (fun (hh : colsCk L = 0) (h2 : ¬ 65536 < r) (h3 : ¬ (r < 0 ∨ D.length ≠ L.length)) (d : ColD) (hd : d ∈ D) (h4 : ((d.2.2.length : Nat) : Int) ≠ r) => tab4 hh h2 h3 d hd h4)
  have K5 := Lib.hid (fun (hh : colsCk L = 0) (h2 : ¬ 65536 < r) (h3 : ¬ (r < 0 ∨ D.length ≠ L.length)) (h4 : ∀ d ∈ D, ((d.2.2.length : Nat) : Int) = r) => tab5 hh h2 h3 h4)
  generalize tabCk L r D = O at *
  obtain ⟨W0, hW0⟩ : ∃ W, W = w.alloc (.cells #[.slice Ac L.length cc, .int .i64 r, .slice Ad D.length cd] 35) := ⟨_, rfl⟩
  have b0 : New w W0 := by rw [hW0]; exact (Below.refl _ _).alloc (Nat.le_refl _) _
  have B0 : Blk W0 w.heap.size 35 #[.slice Ac L.length cc, .int .i64 r, .slice Ad D.length cd] := by rw [hW0]; exact Blk.new _ _ _
  obtain ⟨x0, x1, x2⟩ := ccells B0
  have P1 := Lib.hid (rcols_any (c := cc) (Reads.later h1 b0) hL hn)
  rw [hW0] at x0 x1 x2
  have r1 := Lib.hid (fun (W : World) (hW : New W0 W) => Reads.later h1 (New.trans b0 hW))
  have r0 := Lib.hid (fun (W : World) (hW : New W0 W) => Reads.later h (New.trans b0 hW))
  have rD := Lib.hid (fun (W : World) (hW : New W0 W) => hD.later (New.trans b0 hW))
  clear h h1 hD
  generalize colsCk L = q1 at *
  go_enter Try.func16, Try.ntmps16
  go_wp2_with fail
  rw [← hW0]
  refine (P1.out).mono ?_
  rintro e W1 ⟨rfl, b1⟩
  clear x0 x1 x2 hW0 P1
  by_cases hq : q1 = 0
  · have J2 := Lib.hid (K2.out hq)
    have J3 := Lib.hid (K3.out hq)
    have J4 := Lib.hid (K4.out hq)
    have J5 := Lib.hid (K5.out hq)
    clear K1 K2 K3 K4 K5
    subst hq
    obtain ⟨x0, x1, x2⟩ := ccells (B0.below b1 B0.lt)
    by_cases hr : 65536 < r
    · have O1 := Lib.hid (J2.out hr)
      clear J2 J3 J4 J5
      go_wp2
      go_ret
      exact ⟨by rw [O1.out]; rfl, New.trans b0 b1⟩
    · by_cases hs : r < 0 ∨ D.length ≠ L.length
      · have O1 := Lib.hid (J3.out (by omega) hs)
        clear J2 J3 J4 J5
        by_cases hs2 : r < 0
        · go_wp2
          go_ret
          exact ⟨by rw [O1.out]; rfl, New.trans b0 b1⟩
        · have e1 : ((D.length : Int) != (L.length : Int)) = true := by simp; omega
          clear hs
          go_wp2
          go_ret
          exact ⟨by rw [O1.out]; rfl, New.trans b0 b1⟩
      · have I4 := Lib.hid (J4.out (by omega) hs)
        have I5 := Lib.hid (J5.out (by omega) hs)
        have HDL := Lib.hid (show D.length = L.length by omega)
        have e1 : ((D.length : Int) != (L.length : Int)) = false := by simp; omega
        have hs2 : ¬ r < 0 := by omega
        clear J2 J3 J4 J5 hs
        go_wp2
        clear x0 x1 x2 e1
        go_loopw [4] (fun i wr => ∃ k : Nat, i = .int .i64 (k : Int) ∧ k ≤ D.length ∧ New W0 wr ∧ Hid (∀ d ∈ D.take k, ((d.2.2.length : Nat) : Int) = r)) (fun i _ => D.length - (intOf i).toNat)
        case atStart => exact ⟨0, rfl, by omega, b1, Lib.hid (by simp)⟩
        case round =>
          obtain ⟨k, rfl, hk, hb, H⟩ := hrel
          obtain ⟨x0, x1, x2⟩ := ccells (B0.below hb B0.lt)
          by_cases hlt : k < D.length
          · obtain ⟨ad, rfl, hbk, c0⟩ := (r0.out _ hb).colD hlt
            have hx : (D.getD k (none, 0, [])) ∈ D := by rw [List.getD_eq_getElem?_getD, List.getElem?_eq_getElem hlt]; exact List.getElem_mem hlt
            have M1 := Lib.hid (fun hh => I4.out _ hx hh)
            have M2 := Lib.hid (fun (hh : ((((D.getD k (none, 0, [])).2.2.length : Nat) : Int) = r)) => show ∀ d ∈ D.take (k + 1), ((d.2.2.length : Nat) : Int) = r by
              intro d hd
              rw [take_snoc D k (none, 0, []) hlt, List.mem_append] at hd
              rcases hd with hd | hd
              · exact H.out d hd
              · obtain rfl := List.mem_singleton.1 hd
                exact hh)
            clear hx
            generalize (D.getD k (none, 0, [])).1 = aA at *
            generalize (D.getD k (none, 0, [])).2.2.length = m at *
            generalize (D.getD k (none, 0, [])).2.1 = cA at *
            have hiz : (k : Int) < (D.length : Int) := by omega
            by_cases he : (m : Int) = r
            · have M3 := Lib.hid (M2.out he)
              have e1 : ((m : Int) != r) = false := by simpa using he
              clear M1 M2 he
              go_wp2
              go_quiet (fail)
              have hb5 := fun q => New.trans hb (new_drewN wr q)
              go_wp2
              go_roundw
              case rel => exact ⟨k + 1, by go_num, by omega, hb5 _, M3⟩
              case measure => simp [intOf]; omega
            · have M3 := Lib.hid (M1.out he)
              have e1 : ((m : Int) != r) = true := by simpa using he
              clear M1 M2 he
              go_wp2
              go_quiet (fail)
              have hb5 := fun q => New.trans hb (new_drewN wr q)
              go_wp2
              go_ret
              exact ⟨by rw [M3.out]; rfl, New.trans b0 (hb5 _)⟩
          · obtain rfl : k = D.length := by omega
            have H2 := H.out
            rw [List.take_length] at H2
            have O5 := Lib.hid (I5.out H2)
            have HR := Lib.hid H2
            have hr0 : 0 ≤ r := by omega
            clear H H2 I4 I5
            have K6 := Lib.hid (fun (hh : ∀ k, k < D.length → colRight (D.getD k (none, 0, [])).2.2 (L.getD k ([], 0, false)) = true) => show O = 0 by rw [O5.out, if_pos (allRight_of HDL.out hh)])
            have K7 := Lib.hid (fun (k : Nat) (hk : k < D.length) (hh : ¬ colRight (D.getD k (none, 0, [])).2.2 (L.getD k ([], 0, false)) = true) => show O = 3 by rw [O5.out, if_neg (fun e => hh (allRight_at HDL.out e hk))])
            clear O5
            go_wp2
            clear x0 x1 x2
            go_loopw [5] (fun i wr => ∃ k : Nat, i = .int .i64 (k : Int) ∧ k ≤ D.length ∧ New W0 wr ∧ Hid (∀ j, j < k → colRight (D.getD j (none, 0, [])).2.2 (L.getD j ([], 0, false)) = true)) (fun i _ => D.length - (intOf i).toNat)
            case atStart => exact ⟨0, rfl, by omega, hb, Lib.hid (by intro j hj; omega)⟩
            case round =>
              obtain ⟨k, rfl, hk, hb, H⟩ := hrel
              obtain ⟨x0, x1, x2⟩ := ccells (B0.below hb B0.lt)
              by_cases hlt : k < D.length
              · have hmem : (D.getD k (none, 0, [])) ∈ D := by rw [List.getD_eq_getElem?_getD, List.getElem?_eq_getElem hlt]; exact List.getElem_mem hlt
                have hkL : k < L.length := by rw [← HDL.out]; exact hlt
                have C := Lib.hid (fun (W : World) (hW : New W0 W) => (r1.out W hW).colT hkL)
                have C0 := Lib.hid (fun (W : World) (hW : New W0 W) => (r0.out W hW).colD hlt)
                have E := Lib.hid (fun (W : World) (hW : New W0 W) => rD.out W hW _ hmem)
                have hlr := HR.out _ hmem
                have M0 := Lib.hid (fun (hh : ∀ i, i < (D.getD k (none, 0, [])).2.2.length → rightB ((D.getD k (none, 0, [])).2.2.getD i (false, 0, [], 0, 0)) (L.getD k ([], 0, false)).2.1 (L.getD k ([], 0, false)).2.2 = true) => show ∀ j, j < k + 1 → colRight (D.getD j (none, 0, [])).2.2 (L.getD j ([], 0, false)) = true by
                  intro j hj
                  rcases Nat.lt_succ_iff_lt_or_eq.1 hj with hj | rfl
                  · exact H.out j hj
                  · exact colRight_of hh)
                have M1 := Lib.hid (fun (i : Nat) (hi : i < (D.getD k (none, 0, [])).2.2.length) (hh : ¬ rightB ((D.getD k (none, 0, [])).2.2.getD i (false, 0, [], 0, 0)) (L.getD k ([], 0, false)).2.1 (L.getD k ([], 0, false)).2.2 = true) => K7.out k hlt (fun e => hh (colRight_at e hi)))
                clear hmem H
                generalize (D.getD k (none, 0, [])).1 = aA at *
                generalize (D.getD k (none, 0, [])).2.2 = l at *
                generalize (D.getD k (none, 0, [])).2.1 = cA at *
                generalize (L.getD k ([], 0, false)).1 = cn at *
                generalize (L.getD k ([], 0, false)).2.1 = t at *
                generalize (L.getD k ([], 0, false)).2.2 = nu at *
                have hiz : (k : Int) < (D.length : Int) := by omega
                have hiz2 : (k : Int) < (L.length : Int) := by omega
                have HLR := Lib.hid hlr
                clear hlr
                go_wp2
                clear x0 x1 x2
                go_loopw [6] (fun i wr => ∃ j : Nat, i = .int .i64 (j : Int) ∧ j ≤ l.length ∧ New W0 wr ∧ Hid (∀ i, i < j → rightB (l.getD i (false, 0, [], 0, 0)) t nu = true)) (fun i _ => l.length - (intOf i).toNat)
                case atStart => exact ⟨0, rfl, by omega, hb, Lib.hid (by intro j hj; omega)⟩
                case round =>
                  obtain ⟨j, rfl, hj, hb2, H2⟩ := hrel
                  obtain ⟨x0, x1, x2⟩ := ccells (B0.below hb2 B0.lt)
                  by_cases hl2 : j < l.length
                  · have hjr : (j : Int) < r := by rw [← HLR.out]; omega
                    obtain ⟨E1, E2, E3, E4, _⟩ := E.out _ hb2
                    obtain ⟨ad2, e2, hbk2, d0, d1, d2, d3, d4⟩ := E1.cell5 hl2
                    have hxm : (l.getD j (false, 0, [], 0, 0)) ∈ l := by rw [List.getD_eq_getElem?_getD, List.getElem?_eq_getElem hl2]; exact List.getElem_mem hl2
                    have hsz := (E2 _ hxm).1
                    obtain ⟨ad3, e3, hbk3, f0, f1, f2⟩ := C.out _ hb2
                    obtain ⟨ad, e4, hbk, c0⟩ := C0.out _ hb2
                    have P := Lib.hid (fun (W : World) => rcright_any (w := W) (b := (l.getD j (false, 0, [], 0, 0)).1) (n := (l.getD j (false, 0, [], 0, 0)).2.1) (s := (l.getD j (false, 0, [], 0, 0)).2.2.1) (x := (l.getD j (false, 0, [], 0, 0)).2.2.2.1) (y := (l.getD j (false, 0, [], 0, 0)).2.2.2.2) (cn := cn) (t := t) (nu := nu) hsz)
                    have N1 := Lib.hid (fun (hh : ¬ rightB ((l.getD j (false, 0, [], 0, 0)).1, (l.getD j (false, 0, [], 0, 0)).2.1, (l.getD j (false, 0, [], 0, 0)).2.2.1, (l.getD j (false, 0, [], 0, 0)).2.2.2.1, (l.getD j (false, 0, [], 0, 0)).2.2.2.2) t nu = true) => M1.out j hl2 hh)
                    have N0 := Lib.hid (fun (hh : rightB ((l.getD j (false, 0, [], 0, 0)).1, (l.getD j (false, 0, [], 0, 0)).2.1, (l.getD j (false, 0, [], 0, 0)).2.2.1, (l.getD j (false, 0, [], 0, 0)).2.2.2.1, (l.getD j (false, 0, [], 0, 0)).2.2.2.2) t nu = true) => show ∀ i, i < j + 1 → rightB (l.getD i (false, 0, [], 0, 0)) t nu = true by
                      intro i hi
                      rcases Nat.lt_succ_iff_lt_or_eq.1 hi with hi | rfl
                      · exact H2.out i hi
                      · exact hh)
                    clear hxm hsz H2 E1 E2
                    generalize (l.getD j (false, 0, [], 0, 0)).1 = b at *
                    generalize (l.getD j (false, 0, [], 0, 0)).2.1 = n at *
                    generalize (l.getD j (false, 0, [], 0, 0)).2.2.1 = s at *
                    generalize (l.getD j (false, 0, [], 0, 0)).2.2.2.1 = px at *
                    generalize (l.getD j (false, 0, [], 0, 0)).2.2.2.2 = py at *
                    generalize rightB (b, n, s, px, py) t nu = R at *
                    have hiz3 : (j : Int) < (l.length : Int) := by omega
                    have hb3 : (ad3.add (k * 3)).block < wr.heap.size := by rw [block_of_add]; exact hbk3
                    have hb2' : (ad2.add (j * 5)).block < wr.heap.size := by rw [block_of_add]; exact hbk2
                    have hb1' : (ad.add k).block < wr.heap.size := by rw [block_of_add]; exact hbk
                    have F1 := Lib.hid (fun (W : World) (hW : New wr W) => (And.intro ((Below.cell (p := (ad2.add (j * 5))) hW hb2').trans d0) (And.intro ((Below.cell (p := ⟨(ad2.add (j * 5)).block, _, none⟩) hW hb2').trans d1) (And.intro ((Below.cell (p := ⟨(ad2.add (j * 5)).block, _, none⟩) hW hb2').trans d2) (And.intro ((Below.cell (p := ⟨(ad2.add (j * 5)).block, _, none⟩) hW hb2').trans d3) ((Below.cell (p := ⟨(ad2.add (j * 5)).block, _, none⟩) hW hb2').trans d4))))))
                    have F2 := Lib.hid (fun (W : World) (hW : New wr W) => ccells (B0.below (New.trans hb2 hW) B0.lt))
                    have F3 := Lib.hid (fun (W : World) (hW : New wr W) => (And.intro ((Below.cell (p := (ad3.add (k * 3))) hW hb3).trans f0) (And.intro ((Below.cell (p := ⟨(ad3.add (k * 3)).block, _, none⟩) hW hb3).trans f1) ((Below.cell (p := ⟨(ad3.add (k * 3)).block, _, none⟩) hW hb3).trans f2))))
                    have F4 := Lib.hid (fun (W : World) (hW : New wr W) => (Below.cell (p := (ad.add k)) hW hb1').trans c0)
                    subst e2 e3 e4
                    go_wp2
                    refine wp_region_up New [(true, 0), (true, 1), (true, 2), (true, 3), (true, 4), (true, 5), (true, 6), (true, 7), (true, 8), (true, 9), (true, 10), (true, 11), (true, 12), (false, 13), (true, 14)]
                      New.refl New.trans (by kernel_rfl) (by kernel_rfl) (by kernel_rfl) (by kernel_rfl) ?_
                    have hU := New.drew wr
                    have hV := New.refl wr.drew
                    clear x0 x1 x2 d0 d1 d2 d3 d4 f0 f1 f2 c0
                    repeat (first
                      | (refine up_call rfl rfl (fun K hK => ?_); go_simp
                         (with_reducible refine (P.out _).mono ?_)
                         rintro e w9 ⟨rfl, b9⟩
                         refine hK _ _ b9 ?_
                         clear hK
                         replace hU := New.trans hU b9
                         replace hV := New.trans hV b9)
                      | (refine up_quiet rfl rfl (v := ?_) (fun W hW => ?_) ?_; rotate_left; (obtain ⟨p0, p1, p2, p3, p4⟩ := F1.out W (New.trans (New.drew wr) (New.trans hV hW)); obtain ⟨y0, y1, y2⟩ := F2.out W (New.trans (New.drew wr) (New.trans hV hW)); obtain ⟨z0, z1, z2⟩ := F3.out W (New.trans (New.drew wr) (New.trans hV hW)); have o0 := F4.out W (New.trans (New.drew wr) (New.trans hV hW)); go_simp <;> with_reducible rfl); simp only [Act.put, List.setIfInBounds_toArray, List.set_cons_zero, List.set_cons_succ]))
                    refine up_nil ?_
                    clear F1 F2 F3 F4 P
                    have hb4 := New.trans hb2 hU
                    cases R with
                    | true =>
                      have N3 := Lib.hid (N0.out rfl)
                      go_wp2
                      go_roundw
                      case rel => exact ⟨j + 1, by go_num, by omega, hb4, N3⟩
                      case measure => simp [intOf]; omega
                    | false =>
                      have N3 := Lib.hid (N1.out (by simp))
                      go_wp2
                      go_ret
                      exact ⟨by rw [N3.out]; rfl, New.trans b0 hb4⟩
                  · obtain rfl : j = l.length := by omega
                    have hjr : ¬ (l.length : Int) < r := by rw [← HLR.out]; omega
                    have M3 := Lib.hid (M0.out H2.out)
                    go_wp2
                    go_roundw
                    case rel => exact ⟨k + 1, by go_num, by omega, hb2, M3⟩
                    case measure => simp [intOf]; omega
              · obtain rfl : k = D.length := by omega
                have O1 := Lib.hid (K6.out H.out)
                go_wp2
                go_ret
                exact ⟨by rw [O1.out]; rfl, New.trans b0 hb⟩
  · have O1 := Lib.hid (K1.out hq)
    have e1 : (q1 != 0) = true := by simpa using hq
    clear K1 K2 K3 K4 K5 hq
    go_wp2
    go_ret
    exact ⟨by rw [O1.out]; rfl, New.trans b0 b1⟩

end Go.Proofs.Ytcnaameebbcmhaa
