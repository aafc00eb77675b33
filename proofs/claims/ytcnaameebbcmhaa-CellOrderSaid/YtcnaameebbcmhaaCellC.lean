/- Contract on cell.Check. -/
import Derived.Test.YtcnaameebbcmhaaCellK
import Derived.Test.YtcnaameebbcmhaaCols

namespace Go.Hm
open Go Go.RowKit
abbrev ty (l : List ColS) (i : Nat) : Int := (l.getD i ([], 0, false)).2.1
/-- Do all cells of a column stand right in it? -/
def colRight (l : List CellS) (c : ColS) : Bool := l.all fun x => rightB x c.2.1 c.2.2
/-- Do all columns from k on? -/
def allRight (D : List ColD) (L : List ColS) : Bool := (List.zip D L).all fun p => colRight p.1.2.2 p.2
/-- What is wrong with a table. -/
def tabCk (L : List ColS) (r : Int) (D : List ColD) : Int :=
  if colsCk L ≠ 0 then colsCk L else if shapeCk L.length r D ≠ 0 then shapeCk L.length r D else if allRight D L then 0 else 3
theorem shape_len {m : Nat} {r : Int} {D : List ColD} (h : shapeCk m r D = 0) : D.length = m ∧ 0 ≤ r ∧ r ≤ 65536 ∧ ∀ d ∈ D, ((d.2.2.length : Nat) : Int) = r := by
  unfold shapeCk at h
  split at h
  · cases h
  split at h
  · cases h
  split at h
  · cases h
  rename_i h1 h2 h3
  refine ⟨by omega, by omega, by omega, fun d hd => ?_⟩
  by_cases e : ((d.2.2.length : Nat) : Int) = r
  · exact e
  · exact absurd ⟨d, hd, e⟩ h3
theorem colRight_at {l : List CellS} {c : ColS} (h : colRight l c = true) {k : Nat} (hk : k < l.length) : rightB (l.getD k (false, 0, [], 0, 0)) c.2.1 c.2.2 = true := by
  rw [List.getD_eq_getElem?_getD, List.getElem?_eq_getElem hk]
  exact (List.all_eq_true.1 h) _ (List.getElem_mem hk)
theorem colRight_of {l : List CellS} {c : ColS} (h : ∀ k, k < l.length → rightB (l.getD k (false, 0, [], 0, 0)) c.2.1 c.2.2 = true) : colRight l c = true := by
  refine List.all_eq_true.2 fun x hx => ?_
  obtain ⟨k, hk, rfl⟩ := List.getElem_of_mem hx
  have := h k hk
  rwa [List.getD_eq_getElem?_getD, List.getElem?_eq_getElem hk] at this
theorem allRight_of {D : List ColD} {L : List ColS} (hl : D.length = L.length) (h : ∀ k, k < D.length → colRight (D.getD k (none, 0, [])).2.2 (L.getD k ([], 0, false)) = true) : allRight D L = true := by
  refine List.all_eq_true.2 fun x hx => ?_
  obtain ⟨k, hk, rfl⟩ := List.getElem_of_mem hx
  rw [List.length_zip] at hk
  have := h k (by omega)
  rw [List.getD_eq_getElem?_getD, List.getElem?_eq_getElem (by omega), List.getD_eq_getElem?_getD, List.getElem?_eq_getElem (by omega)] at this
  rw [List.getElem_zip]
  exact this
theorem allRight_at {D : List ColD} {L : List ColS} (hl : D.length = L.length) (h : allRight D L = true) {k : Nat} (hk : k < D.length) : colRight (D.getD k (none, 0, [])).2.2 (L.getD k ([], 0, false)) = true := by
  have := (List.all_eq_true.1 h) _ (List.getElem_mem (l := List.zip D L) (n := k) (by rw [List.length_zip]; omega))
  rw [List.getElem_zip] at this
  rw [List.getD_eq_getElem?_getD, List.getElem?_eq_getElem (by omega), List.getD_eq_getElem?_getD, List.getElem?_eq_getElem (by omega)]
  exact this
/-- The cells of a column lie in the world. -/
def DataIn (w : World) (B : Nat) (D : List ColD) : Prop := ∀ d ∈ D, Reads w B 5 d.1 d.2.2.length (recs cellV d.2.2) ∧ (∀ x ∈ d.2.2, x.2.2.1.length ≤ 140737488351232 ∧ ∀ z ∈ x.2.2.1, z < 256) ∧ d.2.2.length ≤ d.2.1 ∧ d.2.1 ≤ 9223372036854775807 ∧ (d.1 = none → d.2.1 = 0)
theorem DataIn.later {w w' : World} {D : List ColD} (h : DataIn w w.heap.size D) (hb : New w w') : DataIn w' w'.heap.size D := fun d hd => ⟨Reads.later (h d hd).1 hb, (h d hd).2⟩

end Go.Hm

namespace Go.Proofs.Ytcnaameebbcmhaa
open Go.RowKit Go.Hm
set_option maxHeartbeats 4000000 in
set_option maxRecDepth 100000 in
theorem check_any {w : World} {Ac : Option Addr} {nc cc : Nat} {L : List ColS} {r : Int} {Ad : Option Addr} {nd cd : Nat} {D : List ColD}
    (h1 : Reads w w.heap.size 3 Ac nc (recs colV L)) (hL : ∀ x ∈ L, (∀ z ∈ x.1, z < 256) ∧ x.1.length ≤ 140737488351232) (hc : nc ≤ cc) (hn : nc ≤ 4611686018427387903)
    (h : Reads w w.heap.size 1 Ad nd (recs dataV D)) (hnd : nd ≤ 4611686018427387903) (hD : DataIn w w.heap.size D) :
    Calls Try.prog 15 #[.agg #[.slice Ac nc cc, .int .i64 r, .slice Ad nd cd]] w (NewPost (.int .i64 (tabCk L r D)) w) := by
  obtain rfl := h1.lenC
  obtain rfl := h.lenD
  have K1 := Lib.hid (fun (hh : colsCk L ≠ 0) => show tabCk L r D = colsCk L by rw [tabCk, if_pos hh])
  have K2 := Lib.hid (fun (hh : colsCk L = 0) (h2 : shapeCk L.length r D ≠ 0) => show tabCk L r D = shapeCk L.length r D by rw [tabCk, if_neg (by simpa using hh), if_pos h2])
  have K3 := Lib.hid (fun (hh : colsCk L = 0) (h2 : shapeCk L.length r D = 0) => show tabCk L r D = if allRight D L then 0 else 3 by rw [tabCk, if_neg (by simpa using hh), if_neg (by simpa using h2)])
  have SL := Lib.hid (fun (h2 : shapeCk L.length r D = 0) => shape_len h2)
  generalize tabCk L r D = O at *
  obtain ⟨W0, hW0⟩ : ∃ W, W = w.alloc (.cells #[.slice Ac L.length cc, .int .i64 r, .slice Ad D.length cd] 35) := ⟨_, rfl⟩
  have b0 : New w W0 := by rw [hW0]; exact (Below.refl _ _).alloc (Nat.le_refl _) _
  have B0 : Blk W0 w.heap.size 35 #[.slice Ac L.length cc, .int .i64 r, .slice Ad D.length cd] := by rw [hW0]; exact Blk.new _ _ _
  obtain ⟨x0, x1, x2⟩ := ccells B0
  have P1 := Lib.hid (cols_any (c := cc) (Reads.later h1 b0) hL hc hn)
  have P2 := Lib.hid (fun (W : World) (hW : New W0 W) => shape_any (Ac := Ac) (nc := L.length) (cc := cc) (r := r) (cd := cd) (Reads.later h (New.trans b0 hW)) hnd)
  rw [hW0] at x0 x1 x2
  have r1 := Lib.hid (fun (W : World) (hW : New W0 W) => Reads.later h1 (New.trans b0 hW))
  have r0 := Lib.hid (fun (W : World) (hW : New W0 W) => Reads.later h (New.trans b0 hW))
  have rD := Lib.hid (fun (W : World) (hW : New W0 W) => hD.later (New.trans b0 hW))
  clear h h1 hD
  generalize colsCk L = q1 at *
  generalize shapeCk L.length r D = q2 at *
  go_enter Try.func15, Try.ntmps15
  go_wp2_with fail
  rw [← hW0]
  refine (P1.out).mono ?_
  rintro e W1 ⟨rfl, b1⟩
  clear x0 x1 x2 hW0 P1
  by_cases h2 : q1 = 0
  · have K22 := Lib.hid (K2.out h2)
    have K33 := Lib.hid (K3.out h2)
    clear K1 K2 K3
    subst h2
    obtain ⟨x0, x1, x2⟩ := ccells (B0.below b1 B0.lt)
    go_wp2_with fail
    refine (P2.out _ b1).mono ?_
    rintro e W2 ⟨rfl, b2⟩
    have b12 := New.trans b1 b2
    clear x0 x1 x2 P2 b1 b2
    by_cases h3 : q2 = 0
    · have K5 := Lib.hid (K33.out h3)
      have hSL := SL.out h3
      subst h3
      have hDL := hSL.1
      have K6 := Lib.hid (fun (hh : ∀ k, k < D.length → colRight (D.getD k (none, 0, [])).2.2 (L.getD k ([], 0, false)) = true) => show O = 0 by rw [K5.out, if_pos (allRight_of hDL hh)])
      have K7 := Lib.hid (fun (k : Nat) (hk : k < D.length) (hh : ¬ colRight (D.getD k (none, 0, [])).2.2 (L.getD k ([], 0, false)) = true) => show O = 3 by rw [K5.out, if_neg (fun e => hh (allRight_at hDL e hk))])
      clear K22 K33 K5 SL hSL
      obtain ⟨x0, x1, x2⟩ := ccells (B0.below b12 B0.lt)
      go_wp2
      clear x0 x1 x2
      go_loopw [23] (fun i wr => ∃ k : Nat, i = .int .i64 (k : Int) ∧ k ≤ D.length ∧ New W0 wr ∧ Hid (∀ j, j < k → colRight (D.getD j (none, 0, [])).2.2 (L.getD j ([], 0, false)) = true)) (fun i _ => D.length - (intOf i).toNat)
      case atStart => exact ⟨0, rfl, by omega, b12, Lib.hid (by intro j hj; omega)⟩
      case round =>
        obtain ⟨k, rfl, hk, hb, H⟩ := hrel
        obtain ⟨x0, x1, x2⟩ := ccells (B0.below hb B0.lt)
        by_cases hlt : k < D.length
        · obtain ⟨ad, rfl, hbk, c0⟩ := (r0.out _ hb).colD hlt
          have hmem : (D.getD k (none, 0, [])) ∈ D := by rw [List.getD_eq_getElem?_getD, List.getElem?_eq_getElem hlt]; exact List.getElem_mem hlt
          have C := Lib.hid (fun (W : World) (hW : New W0 W) => (r1.out W hW).colT (show k < L.length by omega))
          have E := Lib.hid (fun (W : World) (hW : New W0 W) => rD.out W hW _ hmem)
          have M0 := Lib.hid (fun (hh : ∀ i, i < (D.getD k (none, 0, [])).2.2.length → rightB ((D.getD k (none, 0, [])).2.2.getD i (false, 0, [], 0, 0)) (L.getD k ([], 0, false)).2.1 (L.getD k ([], 0, false)).2.2 = true) => show ∀ j, j < k + 1 → colRight (D.getD j (none, 0, [])).2.2 (L.getD j ([], 0, false)) = true by
            intro j hj
            rcases Nat.lt_succ_iff_lt_or_eq.1 hj with hj | rfl
            · exact H.out j hj
            · exact colRight_of hh)
          have M1 := Lib.hid (fun (i : Nat) (hi : i < (D.getD k (none, 0, [])).2.2.length) (hh : ¬ rightB ((D.getD k (none, 0, [])).2.2.getD i (false, 0, [], 0, 0)) (L.getD k ([], 0, false)).2.1 (L.getD k ([], 0, false)).2.2 = true) => K7.out k hlt (fun e => hh (colRight_at e hi)))
          clear hmem H
          generalize (D.getD k (none, 0, [])).1 = aA at *
          generalize (D.getD k (none, 0, [])).2.2 = l at *
          generalize (D.getD k (none, 0, [])).2.1 = cA at *
          generalize (L.getD k ([], 0, false)).1 = cn at *
          generalize (L.getD k ([], 0, false)).2.1 = t at *
          generalize (L.getD k ([], 0, false)).2.2 = nu at *
          have hiz : (k : Int) < (D.length : Int) := by omega
          have hiz2 : (k : Int) < (L.length : Int) := by omega
          go_wp2
          clear x0 x1 x2 c0
          go_loopw [30] (fun i wr => ∃ j : Nat, i = .int .i64 (j : Int) ∧ j ≤ l.length ∧ New W0 wr ∧ Hid (∀ i, i < j → rightB (l.getD i (false, 0, [], 0, 0)) t nu = true)) (fun i _ => l.length - (intOf i).toNat)
          case atStart => exact ⟨0, rfl, by omega, hb, Lib.hid (by intro j hj; omega)⟩
          case round =>
            obtain ⟨j, rfl, hj, hb2, H2⟩ := hrel
            by_cases hl2 : j < l.length
            · obtain ⟨E1, E2, E3, E4, _⟩ := E.out _ hb2
              obtain ⟨ad2, e2, hbk2, d0, d1, d2, d3, d4⟩ := E1.cell5 hl2
              subst e2
              have hxm : (l.getD j (false, 0, [], 0, 0)) ∈ l := by rw [List.getD_eq_getElem?_getD, List.getElem?_eq_getElem hl2]; exact List.getElem_mem hl2
              have hsz := (E2 _ hxm).1
              obtain ⟨ad3, e3, hbk3, f0, f1, f2⟩ := C.out _ hb2
              subst e3
              have P := Lib.hid (fun (W : World) => cright_any (w := W) (b := (l.getD j (false, 0, [], 0, 0)).1) (n := (l.getD j (false, 0, [], 0, 0)).2.1) (s := (l.getD j (false, 0, [], 0, 0)).2.2.1) (x := (l.getD j (false, 0, [], 0, 0)).2.2.2.1) (y := (l.getD j (false, 0, [], 0, 0)).2.2.2.2) (cn := cn) (t := t) (nu := nu) hsz)
              have N1 := Lib.hid (fun (hh : ¬ rightB ((l.getD j (false, 0, [], 0, 0)).1, (l.getD j (false, 0, [], 0, 0)).2.1, (l.getD j (false, 0, [], 0, 0)).2.2.1, (l.getD j (false, 0, [], 0, 0)).2.2.2.1, (l.getD j (false, 0, [], 0, 0)).2.2.2.2) t nu = true) => M1.out j hl2 hh)
              have N0 := Lib.hid (fun (hh : rightB ((l.getD j (false, 0, [], 0, 0)).1, (l.getD j (false, 0, [], 0, 0)).2.1, (l.getD j (false, 0, [], 0, 0)).2.2.1, (l.getD j (false, 0, [], 0, 0)).2.2.2.1, (l.getD j (false, 0, [], 0, 0)).2.2.2.2) t nu = true) => show ∀ i, i < j + 1 → rightB (l.getD i (false, 0, [], 0, 0)) t nu = true by
                intro i hi
                rcases Nat.lt_succ_iff_lt_or_eq.1 hi with hi | rfl
                · exact H2.out i hi
                · exact hh)
              clear hxm hsz H2 E1 E2
              generalize (l.getD j (false, 0, [], 0, 0)).1 = b at *
              generalize (l.getD j (false, 0, [], 0, 0)).2.1 = n at *
              generalize (l.getD j (false, 0, [], 0, 0)).2.2.1 = s at *
              generalize (l.getD j (false, 0, [], 0, 0)).2.2.2.1 = px at *
              generalize (l.getD j (false, 0, [], 0, 0)).2.2.2.2 = py at *
              generalize rightB (b, n, s, px, py) t nu = R at *
              have hiz3 : (j : Int) < (l.length : Int) := by omega
              obtain ⟨W3, hW3⟩ : ∃ W, W = wr.alloc (.cells #[.bool b, .int .i64 n, .string (bstr s), .int .i64 px, .int .i64 py] 25) := ⟨_, rfl⟩
              have b3 : New wr W3 := by rw [hW3]; exact (Below.refl _ _).alloc (Nat.le_refl _) _
              have Y : Blk W3 wr.heap.size 25 #[.bool b, .int .i64 n, .string (bstr s), .int .i64 px, .int .i64 py] := by rw [hW3]; exact Blk.new _ _ _
              have F1 := Lib.hid (fun (W : World) (hW : New W3 W) => cells5 (Y.below hW Y.lt))
              have F2 := Lib.hid (fun (W : World) (hW : New W3 W) => ccells (B0.below (New.trans hb2 (New.trans b3 hW)) B0.lt))
              have hb3 : (ad3.add (k * 3)).block < wr.heap.size := by rw [block_of_add]; exact hbk3
              have F3 := Lib.hid (fun (W : World) (hW : New W3 W) => (And.intro ((Below.cell (New.trans b3 hW) hb3).trans f0) (And.intro ((Below.cell (p := ⟨(ad3.add (k * 3)).block, _, none⟩) (New.trans b3 hW) hb3).trans f1) ((Below.cell (p := ⟨(ad3.add (k * 3)).block, _, none⟩) (New.trans b3 hW) hb3).trans f2))))
              go_wp2_with fail
              rw [← hW3]
              clear hW3
              refine wp_region_up New [(true, 0), (true, 1), (true, 2), (true, 3), (true, 4), (true, 5), (false, 6), (true, 7)]
                New.refl New.trans (by kernel_rfl) (by kernel_rfl) (by kernel_rfl) (by kernel_rfl) ?_
              have hU := New.drew W3
              have hV := New.refl W3.drew
              repeat (first
                | (refine up_call rfl rfl (fun K hK => ?_); go_simp
                   (with_reducible refine (P.out _).mono ?_)
                   rintro e w9 ⟨rfl, b9⟩
                   refine hK _ _ b9 ?_
                   clear hK
                   replace hU := New.trans hU b9
                   replace hV := New.trans hV b9)
                | (refine up_quiet rfl rfl (v := ?_) (fun W hW => ?_) ?_; rotate_left; (obtain ⟨p0, p1, p2, p3, p4⟩ := F1.out W (New.trans (New.drew W3) (New.trans hV hW)); obtain ⟨y0, y1, y2⟩ := F2.out W (New.trans (New.drew W3) (New.trans hV hW)); obtain ⟨z0, z1, z2⟩ := F3.out W (New.trans (New.drew W3) (New.trans hV hW)); go_simp <;> with_reducible rfl); simp only [Act.put, List.setIfInBounds_toArray, List.set_cons_zero, List.set_cons_succ]))
              refine up_nil ?_
              clear F1 F2 F3 f0 f1 f2 d0 d1 d2 d3 d4 P Y
              have hb4 := New.trans hb2 (New.trans b3 hU)
              cases R with
              | true =>
                have N3 := Lib.hid (N0.out rfl)
                go_wp2
                go_roundw
                case rel => exact ⟨j + 1, by go_num, by omega, hb4, N3⟩
                case measure => simp [intOf]; omega
              | false =>
                have N3 := Lib.hid (N1.out (by simp))
                go_wp2
                go_ret
                exact ⟨by rw [N3.out]; rfl, New.trans b0 hb4⟩
            · obtain rfl : j = l.length := by omega
              have M3 := Lib.hid (M0.out H2.out)
              go_wp2
              go_roundw
              case rel => exact ⟨k + 1, by go_num, by omega, hb2, M3⟩
              case measure => simp [intOf]; omega
        · obtain rfl : k = D.length := by omega
          have O1 := Lib.hid (K6.out H.out)
          go_wp2
          go_ret
          exact ⟨by rw [O1.out]; rfl, New.trans b0 hb⟩
    · have O1 := Lib.hid (K22.out h3)
      have e1 : (q2 != 0) = true := by simpa using h3
      clear K22 K33 SL h3
      go_wp2
      go_ret
      exact ⟨by rw [O1.out]; rfl, New.trans b0 b12⟩
  · have O1 := Lib.hid (K1.out h2)
    have e1 : (q1 != 0) = true := by simpa using h2
    clear K1 K2 K3 h2
    go_wp2
    go_ret
    exact ⟨by rw [O1.out]; rfl, New.trans b0 b1⟩

end Go.Proofs.Ytcnaameebbcmhaa
