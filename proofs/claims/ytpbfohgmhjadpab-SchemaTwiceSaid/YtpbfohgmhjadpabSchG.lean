/- Contracts of schema.getCol and schema.Get. -/
import Derived.Test.YtpbfohgmhjadpabSchM
import Derived.Test.YtpbfohgmhjadpabCurS

namespace Go.Proofs.Ytpbfohgmhjadpab
open Go.RowKit Go.Hm
def ColPost (c : ColS) (g : Nat) (S : St) (w : World) (e : Ending) (w' : World) : Prop := e = .returned (.agg #[.string (bstr c.1), .int .i64 c.2.1, .bool c.2.2]) ∧ CurS w' g S ∧ w.grownBy w' (some g)

set_option maxHeartbeats 2000000 in
set_option maxRecDepth 100000 in
theorem getCol_any {w : World} {g : Nat} {S : St} (h : CurS w g S) : Calls Try.prog 26 #[.pointer (some ⟨g, 0, none⟩)] w (ColPost (colS S).1 g (colS S).2 w) := by
  have hok := h.ok
  have hg := h.lt
  obtain ⟨W0, hW0⟩ : ∃ W, W = w.alloc (.cells #[.string ⟨#[]⟩, .int .i64 0, .bool false] 42) := ⟨_, rfl⟩
  have b0 : New w W0 := by rw [hW0]; exact (Below.refl _ _).alloc (Nat.le_refl _) _
  have G0 : w.grownBy W0 (some g) := by rw [hW0]; exact World.grownBy_alloc _ _ _
  have B0 : Blk W0 w.heap.size 42 #[.string ⟨#[]⟩, .int .i64 0, .bool false] := by rw [hW0]; exact Blk.new _ _ _
  have h0 := h.below b0
  have hne : w.heap.size ≠ g := by omega
  have P1 := Lib.hid (lenS_any (m := 100) h0 (by omega) (by omega))
  have hl := lenS_le (m := 100) S (by omega) hok
  have ok1 := lenS_ok (m := 100) hok
  rw [hW0] at P1
  have HW := Lib.hid hW0
  clear h h0 hok hW0 b0
  generalize hS : colS S = R
  unfold colS at hS
  generalize lenS 100 S = R1 at *
  obtain ⟨n1, S1⟩ := R1
  simp only at hl ok1 hS P1
  have HS := Lib.hid hS
  clear hS
  go_enter Try.func26, Try.ntmps26
  go_wp2_with fail
  refine P1.out.mono ?_
  rintro e w1 ⟨rfl, C1, G1⟩
  rw [← HW.out] at G1
  have B1 := B0.grown G1 (by simpa using hne)
  have G01 := G0.trans G1
  have P2 := Lib.hid (takeS_any (n := (n1 : Int)) C1 (by omega) (by omega))
  obtain ⟨ok2, l2⟩ := takeS_ok (n := (n1 : Int)) ok1
  replace HS := HS.out
  generalize takeS (n1 : Int) S1 = R2 at *
  obtain ⟨s2, S2⟩ := R2
  simp only at ok2 l2 HS P2
  replace HS := Lib.hid HS
  clear P1 B0 G0 G1 C1
  go_wp2_with fail
  refine P2.out.mono ?_
  rintro e w2 ⟨A2, n2, c2, rfl, e2, k2, C2, G2⟩
  have B2 := B1.grown G2 (by simpa using hne)
  have G02 := G01.trans G2
  have X2 := run_strB (c := c2) k2.reads
  have P3 := Lib.hid (byteS_any C2)
  have ok3 := byteS_ok ok2
  have lt3 := byteS_lt ok2
  replace HS := HS.out
  generalize byteS S2 = R3 at *
  obtain ⟨t3, S3⟩ := R3
  simp only at ok3 lt3 HS P3
  replace HS := Lib.hid HS
  clear P2 B1 G01 G2 C2 k2 e2
  go_wp2_with fail
  refine P3.out.mono ?_
  rintro e w3 ⟨rfl, C3, G3⟩
  have B3 := B2.grown G3 (by simpa using hne)
  have G03 := G02.trans G3
  have P4 := Lib.hid (byteS_any C3)
  have lt4 := byteS_lt ok3
  replace HS := HS.out
  generalize byteS S3 = R4 at *
  obtain ⟨u4, S4⟩ := R4
  simp only at lt4 HS P4
  replace HS := Lib.hid HS
  clear P3 B2 G02 G3 C3 X2
  go_wp2_with fail
  refine P4.out.mono ?_
  rintro e w4 ⟨rfl, C4, G4⟩
  have B4 := B3.grown G4 (by simpa using hne)
  have G04 := G03.trans G4
  clear P4 B3 G03 G4
  by_cases hu : 1 < u4
  · have P5 := Lib.hid (failS C4)
    go_wp2_with fail
    refine P5.out.mono ?_
    rintro e w5 ⟨rfl, C5, G5⟩
    have B5 := B4.grown G5 (by simpa using hne)
    have G05 := G04.trans G5
    clear P5 B4 G04 G5 C4
    obtain ⟨p0, p1, p2⟩ := ccells B5
    have f0 := B5.frozen 0
    have f1 := B5.frozen 1
    have f2 := B5.frozen 2
    have HB := Lib.hid B5
    clear B5
    go_wp2
    obtain ⟨W3, hW3, R10, G10, K10⟩ := store3g HB.out (a := .string (bstr s2)) (b := .int .i64 (t3 : Int)) (c := .bool ((u4 : Int) == 1)) G05 (Nat.le_refl _)
    rw [← hW3]
    have s0 := R10.cell 0
    have s1 := R10.cell 1
    have s2' := R10.cell 2
    simp at s0 s1 s2'
    have CW : CurS W3 g none := by rw [hW3]; exact ((C5.keep setCell_grown HB.out (by omega) (by decide)).keep setCell_grown (HB.out.set_ 0 _) (by omega) (by decide)).keep setCell_grown ((HB.out.set_ 0 _).set_ 1 _) (by omega) (by decide)
    refine bodyPost_ret (v := .agg #[.string (bstr s2), .int .i64 (t3 : Int), .bool ((u4 : Int) == 1)]) (by simp [results, Try.results26, go_sem, s0, s1, s2']) rfl ⟨?_, ?_, G10⟩
    · rw [← HS.out, show ((u4 : Int) == 1) = decide (u4 = 1) by rw [Bool.eq_iff_iff]; simp; omega]
    · rw [← HS.out, if_pos hu]
      exact CW
  ·
    obtain ⟨p0, p1, p2⟩ := ccells B4
    have f0 := B4.frozen 0
    have f1 := B4.frozen 1
    have f2 := B4.frozen 2
    have HB := Lib.hid B4
    clear B4
    go_wp2
    obtain ⟨W3, hW3, R10, G10, K10⟩ := store3g HB.out (a := .string (bstr s2)) (b := .int .i64 (t3 : Int)) (c := .bool ((u4 : Int) == 1)) G04 (Nat.le_refl _)
    rw [← hW3]
    have s0 := R10.cell 0
    have s1 := R10.cell 1
    have s2' := R10.cell 2
    simp at s0 s1 s2'
    have CW : CurS W3 g S4 := by rw [hW3]; exact ((C4.keep setCell_grown HB.out (by omega) (by decide)).keep setCell_grown (HB.out.set_ 0 _) (by omega) (by decide)).keep setCell_grown ((HB.out.set_ 0 _).set_ 1 _) (by omega) (by decide)
    refine bodyPost_ret (v := .agg #[.string (bstr s2), .int .i64 (t3 : Int), .bool ((u4 : Int) == 1)]) (by simp [results, Try.results26, go_sem, s0, s1, s2']) rfl ⟨?_, ?_, G10⟩
    · rw [← HS.out, show ((u4 : Int) == 1) = decide (u4 = 1) by rw [Bool.eq_iff_iff]; simp; omega]
    · rw [← HS.out, if_neg hu]
      exact CW

theorem grown_below' {w w1 w2 : World} {row : Option Nat} (h : w.grownBy w1 row) (h2 : w1.grownBy w2 row) : w.grownBy w2 row := h.trans h2

/-- Columns, a row of the call's own, and what is left of the cursor. -/
def ColsPost (l : List ColS) (g : Nat) (S : St) (w : World) (e : Ending) (w' : World) : Prop := ∃ A n c, e = .returned (.slice A n c) ∧ n ≤ c ∧ c ≤ maxLen ∧ w'.ownsRow w.heap.size 42 3 (.slice A n c) n (recs colV l) ∧ CurS w' g S ∧ w.grownBy w' (some g)
theorem elC : ElT Try.prog 23 42 (.agg #[.string ⟨#[]⟩, .int .i64 0, .bool false]) 3 32 := ⟨by kernel_rfl, by kernel_rfl, rfl, by omega⟩
set_option maxHeartbeats 2000000 in
set_option maxRecDepth 100000 in
theorem sget_any {w : World} {g : Nat} {S : St} (h : CurS w g S) : Calls Try.prog 13 #[.pointer (some ⟨g, 0, none⟩)] w (ColsPost (getC S).1 g (getC S).2 w) := by
  have hok := h.ok
  have hg := h.lt
  have P1 := Lib.hid (lenS_any (m := 64) h (by omega) (by omega))
  have hl := lenS_le (m := 64) S (by omega) hok
  have ok1 := lenS_ok (m := 64) hok
  have G1 := Lib.hid (show getC S = _ from rfl)
  generalize hR : getC S = R at *
  unfold getC at hR
  generalize lenS 64 S = R1 at *
  obtain ⟨n, S1⟩ := R1
  simp only at hl ok1 hR P1
  have HR := Lib.hid hR
  clear hR G1 h hok
  go_enter Try.func13, Try.ntmps13
  go_wp2_with fail
  refine P1.out.mono ?_
  rintro e w1 ⟨rfl, C1, G1⟩
  have z1 := G1.size
  clear P1
  have g1 : g < w1.heap.size := C1.lt
  go_wp2_with (refine wpList_mkR elC rfl (.tmp 8) (.tmp 8) rfl (W := w1) (B := w1.heap.size) n rfl rfl rfl rfl (Below.refl _ w1) (Nat.le_refl _) (by omega) (by simp only [maxLen]; omega) ?_
               intro w2 o2 g2 b2 s2)
  have C2 := C1.below b2
  have G2 : w.grownBy w2 (some g) := grown_below G1 b2
  obtain ⟨gm, hgm⟩ : ∃ gm, gm = w1.heap.size := ⟨_, rfl⟩
  rw [← hgm] at o2 ⊢
  have hgm1 : w.heap.size ≤ gm ∧ g ≠ gm := by omega
  have o2 := row_base o2 hgm1.1
  clear hgm C1 G1 z1 g2 b2 s2 g1
  go_loopw [12] (fun i wr => ∃ k : Nat, i = .int .i64 (k : Int) ∧ k ≤ n ∧ CurS wr g (colsS k S1).2 ∧ wr.ownsRow w.heap.size 42 3 (.slice (some ⟨gm, 0, none⟩) n n) n (recs colV ((colsS k S1).1 ++ List.replicate (n - k) ([], 0, false))) ∧ w.grownBy wr (some g)) (fun i _ => n - (intOf i).toNat)
  case atStart => exact ⟨0, rfl, by omega, C2, by simpa [recs, colsS, List.flatMap_replicate, colV, bstr] using o2, G2⟩
  case round =>
    obtain ⟨k, rfl, hk, C3, o3, G3⟩ := hrel
    by_cases hlt : k < n
    · have P4 := Lib.hid (getCol_any C3)
      obtain ⟨q1, q2⟩ := colsS_snoc k S1
      have okk := colsS_ok k ok1
      have hlen := colsS_len k S1
      have fin := colS_fine okk
      have HQ1 := Lib.hid q1
      have HQ2 := Lib.hid q2
      clear q1 q2
      generalize (colsS k S1).1 = pre at *
      generalize (colsS k S1).2 = Sk at *
      generalize colS Sk = R4 at *
      obtain ⟨⟨nm4, t4, u4⟩, S4⟩ := R4
      simp only at P4
      have hrep : List.replicate (n - k) (([], 0, false) : ColS) = ([], 0, false) :: List.replicate (n - (k + 1)) ([], 0, false) := by rw [show n - k = (n - (k + 1)) + 1 by omega]; rfl
      rw [hrep, recs_append, recs_cons] at o3
      have hpl : (recs colV pre).length = k * 3 := by rw [recs_length (sz := 3) (fun _ => rfl), hlen]
      have hiz : (k : Int) < (n : Int) := by omega
      have HO3 := Lib.hid o3
      clear o3 C3 hrep
      go_wp2_with fail
      refine P4.out.mono ?_
      rintro e w4 ⟨rfl, C4, G4⟩
      have o4 := World.ownsRow.kept HO3.out G4 (.inr (by simp [Value.ownBlock]; exact fun e => hgm1.2 e.symm))
      have G04 := grown_below' G3 G4
      obtain ⟨cs, B4⟩ := row_blk o4
      have c0 := o4.cellAt (k * 3) (by omega)
      have c1 := o4.cellAt (k * 3 + 1) (by omega)
      have c2 := o4.cellAt (k * 3 + 2) (by omega)
      rw [List.getElem?_append_right (by omega), hpl] at c0 c1 c2
      simp [colV] at c0 c1 c2
      have f0 := o4.frozenAt (k * 3)
      have f1 := o4.frozenAt (k * 3 + 1)
      have f2 := o4.frozenAt (k * 3 + 2)
      have HO4 := Lib.hid o4
      clear o4 P4 HO3
      go_wp2
      obtain ⟨W5, hW5, o5, g5⟩ := row_set3 (a := .string (bstr nm4)) (b := .int .i64 t4) (d := .bool u4) HO4.out hpl
      rw [← hW5]
      clear hW5
      go_roundw
      case rel => exact ⟨k + 1, by go_num, by omega, by rw [HQ2.out]; exact C4.keep g5 B4 hgm1.2 (by decide), by rw [HQ1.out, List.append_assoc, recs_append]; exact o5, grown_new G04 g5 hgm1.1⟩
      case measure => simp [intOf]; omega
    · obtain rfl : k = n := by omega
      rw [Nat.sub_self, List.replicate_zero, List.append_nil] at o3
      have hfin := colsS_fine k ok1
      have HR := HR.out
      have hlen := colsS_len k S1
      generalize colsS k S1 = R5 at *
      obtain ⟨L, S5⟩ := R5
      simp only at o3 hfin HR hlen C3
      subst hlen
      have r3 := Reads.of_own o3
      have P6 := Lib.hid (cols_any (c := L.length) r3 (fun x hx => ⟨(hfin x hx).1, by have := (hfin x hx).2; omega⟩) (Nat.le_refl _) (by omega))
      have P5 := Lib.hid (badS C3)
      rcases S5 with _ | l5
      · rw [if_pos (.inl rfl)] at HR
        subst HR
        go_wp2_with fail
        refine P5.out.mono ?_
        rintro e w5 ⟨rfl, rfl⟩
        have P7 := Lib.hid (failS C3)
        go_wp2_with fail
        refine P7.out.mono ?_
        rintro e w7 ⟨rfl, C7, G7⟩
        go_wp2
        go_ret
        exact ⟨none, 0, 0, rfl, by omega, by simp [maxLen], row_nil, C7, grown_below' G3 G7⟩
      · by_cases hck : colsCk L = 0
        · rw [if_neg (by simp [hck])] at HR
          subst HR
          rw [hck] at P6
          go_wp2_with fail
          refine P5.out.mono ?_
          rintro e w5 ⟨rfl, rfl⟩
          go_wp2_with fail
          refine P6.out.mono ?_
          rintro e w6 ⟨rfl, b6⟩
          go_wp2
          go_ret
          exact ⟨_, _, _, rfl, Nat.le_refl _, by simp only [maxLen]; omega, row_later o3 b6, C3.below b6, grown_below G3 b6⟩
        · rw [if_pos (.inr hck)] at HR
          subst HR
          generalize colsCk L = ck at *
          have e1 : (ck != 0) = true := by simpa using hck
          clear hck
          go_wp2_with fail
          refine P5.out.mono ?_
          rintro e w5 ⟨rfl, rfl⟩
          go_wp2_with fail
          refine P6.out.mono ?_
          rintro e w6 ⟨rfl, b6⟩
          have P7 := Lib.hid (failS (C3.below b6))
          go_wp2_with fail
          refine P7.out.mono ?_
          rintro e w7 ⟨rfl, C7, G7⟩
          go_wp2
          go_ret
          exact ⟨none, 0, 0, rfl, by omega, by simp [maxLen], row_nil, C7, grown_below' (grown_below G3 b6) G7⟩

end Go.Proofs.Ytpbfohgmhjadpab
