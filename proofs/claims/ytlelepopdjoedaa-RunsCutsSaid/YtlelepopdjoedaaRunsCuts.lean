/- RunsCuts returns true whatever comes in, and leaves all that was there as it was. -/
import Derived.Test.YtlelepopdjoedaaLaw10
import Derived.Test.YtlelepopdjoedaaRunC
import Derived.Test.YtlelepopdjoedaaNat

namespace Go.Hm
/-- A piece of n numbers from f on, R telling whether it is a run, was whether the one before was. -/
structure Piece (L : List Nat) (f n : Nat) (R was : Bool) : Prop where
  pos : 1 ≤ n
  fits : f + n ≤ L.length
  run : R = true ↔ (4 ≤ n ∧ ∀ j, f ≤ j → j < f + n → L.getD j 0 = L.getD f 0)
  before : R = true → f = 0 ∨ L.getD (f - 1) 0 ≠ L.getD f 0
  after : R = true → f + n = L.length ∨ L.getD (f + n) 0 ≠ L.getD f 0
  rest : R = false → was = true ∧ ∀ k, f ≤ k → k + 3 < f + n → ¬ (L.getD k 0 = L.getD (k + 1) 0 ∧ L.getD k 0 = L.getD (k + 2) 0 ∧ L.getD k 0 = L.getD (k + 3) 0)
theorem mid_getD {a p b : List Nat} {j : Nat} (h : j < p.length) : (a ++ p ++ b).getD (a.length + j) 0 = p.getD j 0 := by
  rw [getD_app_l (by rw [List.length_append]; omega), getD_app_r (by omega), Nat.add_sub_cancel_left]
theorem piece_of {a p b : List Nat} {was : Bool} {ps : List (List Nat)} (hk : PieceOk p) (hb : b = ps.flatten) (hs : PSeq a was (p :: ps)) : Piece (a ++ p ++ b) a.length p.length (decide (4 ≤ st p)) was := by
  obtain ⟨h1, h2, -⟩ := hs
  have hp := hk.1
  have h0 : (a ++ p ++ b).getD a.length 0 = p.getD 0 0 := by have := mid_getD (a := a) (p := p) (b := b) (j := 0) hp; simpa using this
  have hm : ∀ j, a.length ≤ j → j < a.length + p.length → (a ++ p ++ b).getD j 0 = p.getD (j - a.length) 0 := fun j g1 g2 => by
    have := mid_getD (a := a) (p := p) (b := b) (j := j - a.length) (by omega)
    rwa [show a.length + (j - a.length) = j by omega] at this
  refine ⟨by omega, by simp only [List.length_append]; omega, ?_, ?_, ?_, ?_⟩
  · rw [decide_eq_true_iff]
    constructor
    · intro h4
      have e := hk.2 h4
      obtain ⟨-, s2, -⟩ := st_spec p
      exact ⟨by omega, fun j g1 g2 => by rw [hm j g1 g2, h0]; exact s2 _ (by omega)⟩
    · intro ⟨h4, hall⟩
      have e : st p = p.length := st_is (Nat.le_refl _) (fun i hi => by
        have := hall (a.length + i) (by omega) (by omega)
        rw [hm _ (by omega) (by omega), h0, Nat.add_sub_cancel_left] at this
        exact this) (.inl rfl)
      omega
  · intro hR
    obtain ⟨g, -⟩ := h1 (of_decide_eq_true hR)
    rcases g with rfl | g
    · exact .inl rfl
    · by_cases hz : a.length = 0
      · exact .inl hz
      · right
        rw [h0, List.append_assoc, getD_app_l (by omega)]
        exact g
  · intro hR
    obtain ⟨-, g⟩ := h1 (of_decide_eq_true hR)
    rw [← hb] at g
    rcases g with rfl | g
    · exact .inl (by simp)
    · right
      rw [h0, getD_app_r (by simp), show a.length + p.length - (a ++ p).length = 0 by simp]
      exact g
  · intro hR
    obtain ⟨g1, g2⟩ := h2 (of_decide_eq_false hR)
    refine ⟨g1, fun k q1 q2 => ?_⟩
    rw [hm k q1 (by omega), hm (k + 1) (by omega) (by omega), hm (k + 2) (by omega) (by omega), hm (k + 3) (by omega) (by omega)]
    have := g2 (k - a.length) (by omega)
    rwa [show k - a.length + 1 = k + 1 - a.length by omega, show k - a.length + 2 = k + 2 - a.length by omega, show k - a.length + 3 = k + 3 - a.length by omega] at this
/-- Between two pieces: f numbers are in the first i of them. -/
def CutAt (L : List Nat) (i f : Nat) (was : Bool) : Prop := ∃ p1 p2, pcs L = p1 ++ p2 ∧ i = p1.length ∧ f = p1.flatten.length ∧ PSeq p1.flatten was p2
theorem cutAt_start (L : List Nat) : CutAt L 0 0 true := ⟨[], pcs L, rfl, rfl, rfl, pcs_seq L⟩
theorem cutAt_next {L : List Nat} {i f : Nat} {was : Bool} (h : CutAt L i f was) (hi : i < (cuts L).length) : ∃ R, Piece L f ((cuts L).getD i 0) R was ∧ CutAt L (i + 1) (f + (cuts L).getD i 0) R := by
  obtain ⟨p1, p2, e, rfl, rfl, hs⟩ := h
  unfold cuts at hi ⊢
  rw [e] at hi ⊢
  match p2, e, hs with
  | [], _, _ => simp at hi
  | p :: ps, e, hs =>
    have en : ((p1 ++ p :: ps).map List.length).getD p1.length 0 = p.length := by
      rw [List.getD_eq_getElem?_getD]
      simp
    rw [en]
    have hL := pcs_flat L
    rw [e, List.flatten_append, List.flatten_cons, ← List.append_assoc] at hL
    have hP := piece_of (b := ps.flatten) (pcs_ok L p (by rw [e]; simp)) rfl hs
    rw [hL] at hP
    refine ⟨_, hP, p1 ++ [p], ps, by simp [e], by simp, by simp, ?_⟩
    have := hs.2.2
    rwa [List.flatten_append, List.flatten_cons, List.flatten_nil, List.append_nil]
theorem cutAt_end {L : List Nat} {i f : Nat} {was : Bool} (h : CutAt L i f was) (hi : i = (cuts L).length) : f = L.length := by
  obtain ⟨p1, p2, e, rfl, rfl, hs⟩ := h
  unfold cuts at hi
  rw [e] at hi
  have : p2 = [] := by
    simp at hi
    exact hi
  subst this
  rw [List.append_nil] at e
  rw [← e, pcs_flat]

end Go.Hm

namespace Go.Proofs.Ytlelepopdjoedaa
open Go.RowKit Go.Hm
def ks10A : List Bool := true :: true :: true :: true :: true :: true :: true :: true :: true :: true :: true :: true :: true :: true :: true :: true :: true :: true :: true :: true :: true :: true :: true :: true :: true :: true :: true :: true :: true :: true :: true :: true :: true :: true :: true :: true :: true :: true :: true :: true :: true :: true :: true :: true :: true :: true :: true :: true :: true :: true :: []
def ord10A : List (Bool × Nat) := (true, 0) :: (true, 1) :: (true, 2) :: (true, 3) :: (true, 4) :: (true, 5) :: (true, 6) :: (true, 7) :: (true, 8) :: (true, 9) :: (true, 10) :: (true, 11) :: (true, 12) :: (true, 13) :: (true, 14) :: (true, 15) :: (true, 16) :: (true, 17) :: (true, 18) :: (true, 19) :: (true, 20) :: (true, 21) :: (true, 22) :: (true, 23) :: (true, 24) :: (true, 25) :: (true, 26) :: (true, 27) :: (true, 28) :: (true, 29) :: (true, 30) :: (true, 31) :: (true, 32) :: (true, 33) :: (true, 34) :: (true, 35) :: (true, 36) :: (true, 37) :: (true, 38) :: (true, 39) :: (true, 40) :: (true, 41) :: (true, 42) :: (true, 43) :: (true, 44) :: (true, 45) :: (true, 46) :: (true, 47) :: (true, 48) :: (true, 49) :: []
theorem ok10A : upOk (regOf Try.f7 18) (Array.replicate (regOf Try.f7 18).size false) ord10A = true := by
  rw [show ord10A = natOrd 0 ks10A from rfl]
  exact nat_up (by kernel_rfl)
def ks10B : List Bool := true :: true :: true :: true :: true :: true :: true :: true :: true :: true :: true :: true :: true :: true :: true :: true :: true :: true :: true :: true :: true :: true :: true :: true :: true :: true :: true :: true :: true :: true :: true :: true :: true :: true :: []
def ord10B : List (Bool × Nat) := (true, 0) :: (true, 1) :: (true, 2) :: (true, 3) :: (true, 4) :: (true, 5) :: (true, 6) :: (true, 7) :: (true, 8) :: (true, 9) :: (true, 10) :: (true, 11) :: (true, 12) :: (true, 13) :: (true, 14) :: (true, 15) :: (true, 16) :: (true, 17) :: (true, 18) :: (true, 19) :: (true, 20) :: (true, 21) :: (true, 22) :: (true, 23) :: (true, 24) :: (true, 25) :: (true, 26) :: (true, 27) :: (true, 28) :: (true, 29) :: (true, 30) :: (true, 31) :: (true, 32) :: (true, 33) :: []
theorem ok10B : upOk (regOf Try.f7 23) (Array.replicate (regOf Try.f7 23).size false) ord10B = true := by
  rw [show ord10B = natOrd 0 ks10B from rfl]
  exact nat_up (by kernel_rfl)

end Go.Proofs.Ytlelepopdjoedaa

namespace Go.Proofs.Ytlelepopdjoedaa
open Go.RowKit Go.Hm

set_option maxHeartbeats 4000000 in
set_option maxRecDepth 100000 in
theorem runsCuts_walk {w : World} {A : Option Addr} {c : Nat} {L : List Nat} (h : Reads w w.heap.size 1 A L.length (nums .u64 L)) (hc : L.length ≤ c) (hn : L.length ≤ 400) :
    Calls Try.prog 7 #[.slice A L.length c] w (SmallPost w) := by
  have HC := Lib.hid (fun (W : World) (hW : New w W) => cut_any (c := c) (Reads.later h hW) hc (by omega))
  have HR := Lib.hid h
  clear h hc
  unfold CutPost at HC
  obtain ⟨C, hC⟩ : ∃ C, C = cuts L := ⟨_, rfl⟩
  rw [← hC] at HC
  have HCe := Lib.hid hC
  clear hC
  go_enter Try.func7, Try.ntmps7
  go_wp2_with fail
  refine (small10_any w).mono ?_
  rintro e w1 ⟨rfl, b1⟩
  go_wp2_with fail
  refine (HC.out w1 b1).mono ?_
  rintro e w2 ⟨v2, rfl, k2, b2⟩
  obtain ⟨A2, c2, rfl, -, -⟩ := k2.slice
  rw [nums_length] at k2 ⊢
  have hCl : C.length ≤ 9223372036854775807 := by have := k2.cap; simp only [maxLen] at this; omega
  have b02 := New.trans b1 b2
  have H2 := Lib.hid k2.reads
  clear HC k2 b1 b2
  go_wp2_with fail
  go_loopw [5, 6, 7] (fun v5 v6 v7 wr => ∃ (i f : Nat) (was : Bool), i ≤ C.length ∧ v5 = .int .i64 (f : Int) ∧ v6 = .bool was ∧ v7 = .int .i64 (i : Int) ∧ New w2 wr ∧ f ≤ L.length ∧ Hid (CutAt L i f was)) (fun _ _ v7 _ => C.length - (intOf v7).toNat)
  case atStart => exact ⟨0, 0, true, Nat.zero_le _, rfl, rfl, rfl, New.refl _, Nat.zero_le _, Lib.hid (cutAt_start L)⟩
  case round =>
    obtain ⟨i, f, was, hi, rfl, rfl, rfl, hW, hf, hcut⟩ := hrel
    by_cases hlt : i < C.length
    · obtain ⟨R, hP, hnext⟩ := cutAt_next hcut.out (by rw [← HCe.out]; exact hlt)
      rw [← HCe.out] at hP hnext
      obtain ⟨a2, rfl, hb2, q2⟩ := (Reads.later H2.out hW).num (i := i) hlt
      generalize C.getD i 0 = n at *
      have hp1 := hP.pos
      have hp2 := hP.fits
      have HP := Lib.hid hP
      have HN := Lib.hid hnext
      have n1 : decide ((n : Int) < 1) = false := by simp; omega
      have n2 : decide ((L.length : Int) - (f : Int) < (n : Int)) = false := by simp; omega
      clear hP hnext hcut
      obtain ⟨ax, rfl, hbx, -⟩ := HR.out.num (i := f) (by omega)
      have HX : Hid (∀ W, New w W → ∀ j, j < L.length → W.cell? (ax.add j) = some (.int .u64 ((L.getD j 0 : Nat) : Int))) := Lib.hid fun W hN j hj => by
        obtain ⟨ay, e, -, q⟩ := (Reads.later HR.out hN).num (i := j) hj
        injection e with e
        subst e
        exact q
      go_wp2_with fail
      go_loopw [9, 10] (fun v9 v10 wx => ∃ (k : Nat) (r : Bool), f + 1 ≤ k ∧ k ≤ f + n ∧ v9 = .bool r ∧ v10 = .int .i64 (k : Int) ∧ New w2 wx ∧ Hid (r = true ↔ (4 ≤ n ∧ ∀ j, f ≤ j → j < k → L.getD j 0 = L.getD f 0))) (fun _ v10 _ => f + n - (intOf v10).toNat)
      case atStart => exact ⟨f + 1, decide (4 ≤ n), Nat.le_refl _, by omega, by simp; omega, by go_num, hW, Lib.hid (by rw [decide_eq_true_iff]; exact ⟨fun g => ⟨g, fun j g1 g2 => by rw [show j = f by omega]⟩, fun g => g.1⟩)⟩
      case round =>
        obtain ⟨k, r, hk1, hk2, rfl, rfl, hX, hr⟩ := hrel
        by_cases hlt2 : k < f + n
        · have i1 : (k : Int) < (f : Int) + (n : Int) := by omega
          cases r with
          | false =>
            have hr2 : Hid (false = true ↔ (4 ≤ n ∧ ∀ j, f ≤ j → j < k + 1 → L.getD j 0 = L.getD f 0)) := Lib.hid ⟨fun e => (by cases e), fun ⟨g1, g2⟩ => hr.out.2 ⟨g1, fun j q1 q2 => g2 j q1 (by omega)⟩⟩
            clear hr
            go_wp2
            go_quiet (fail)
            go_wp2
            go_roundw
            case rel => exact ⟨k + 1, false, by omega, by omega, rfl, by go_num, below_drewN hX _, hr2⟩
            case measure => simp [intOf]; omega
          | true =>
            have qk := HX.out wr (New.trans b02 hX) k (by omega)
            have qf := HX.out wr (New.trans b02 hX) f (by omega)
            have hr2 : Hid (decide (L.getD k 0 = L.getD f 0) = true ↔ (4 ≤ n ∧ ∀ j, f ≤ j → j < k + 1 → L.getD j 0 = L.getD f 0)) := Lib.hid (by
              rw [decide_eq_true_iff]
              obtain ⟨g1, g2⟩ := hr.out.1 rfl
              exact ⟨fun e => ⟨g1, fun j q1 q2 => by
                by_cases hj : j = k
                · rw [hj]; exact e
                · exact g2 j q1 (by omega)⟩, fun g => g.2 k (by omega) (by omega)⟩)
            have hbq : (((L.getD k 0 : Nat) : Int) == ((L.getD f 0 : Nat) : Int)) = decide (L.getD k 0 = L.getD f 0) := by generalize L.getD k 0 = u; generalize L.getD f 0 = v; rw [Bool.eq_iff_iff]; simp; omega
            clear hr
            generalize decide (L.getD k 0 = L.getD f 0) = r2 at *
            generalize L.getD k 0 = u at *
            generalize L.getD f 0 = v at *
            have hkL : k < L.length := by omega
            have hfL : f < L.length := by omega
            go_wp2
            go_quiet (fail)
            go_wp2
            go_roundw
            case rel => exact ⟨k + 1, r2, by omega, by omega, by simp, by go_num, below_drewN hX _, hr2⟩
            case measure => simp [intOf]; omega
        · obtain rfl : k = f + n := by omega
          obtain rfl : r = R := by rw [Bool.eq_iff_iff, hr.out, HP.out.run]
          clear hr
          go_wp2_with fail
          have hfL : f < L.length := by omega
          obtain ⟨m, hm⟩ : ∃ m, m = f + n := ⟨_, rfl⟩
          have i2 : (f : Int) + (n : Int) = (m : Int) := by omega
          have r2 : IntKind.i64.wrap (m : Int) = (m : Int) := IntWalk.i64_in _ (by omega)
          have hm2 : m ≤ 400 := by omega
          cases r with
          | true =>
            have hb := HP.out.before rfl
            have ha := HP.out.after rfl
            rw [← hm] at ha
            obtain ⟨f1, hf1⟩ : ∃ f1, f1 = f - 1 := ⟨_, rfl⟩
            rw [← hf1] at hb
            have HM := Lib.hid hm
            have HF1 := Lib.hid hf1
            by_cases f0 : 0 < f
            all_goals by_cases fe : m < L.length
            all_goals
              try
                have i1 : (f : Int) - 1 = (f1 : Int) := by omega
                have r1 : IntKind.i64.wrap (f1 : Int) = (f1 : Int) := IntWalk.i64_in _ (by omega)
                have j1 : f1 < L.length := by omega
              first
                | (have F : Hid (∀ W, New w W → W.cell? (ax.add f) = some (.int .u64 ((L.getD f 0 : Nat) : Int)) ∧ W.cell? (ax.add f1) = some (.int .u64 ((L.getD f1 0 : Nat) : Int)) ∧ W.cell? (ax.add m) = some (.int .u64 ((L.getD m 0 : Nat) : Int))) := Lib.hid fun W hW => ⟨HX.out W hW f (by omega), HX.out W hW f1 (by omega), HX.out W hW m (by omega)⟩
                   have e1 : (((L.getD f1 0 : Nat) : Int) == ((L.getD f 0 : Nat) : Int)) = false := beq_eq_false_iff_ne.2 (by have := hb.resolve_left (by omega); omega)
                   have e2 : (((L.getD m 0 : Nat) : Int) == ((L.getD f 0 : Nat) : Int)) = false := beq_eq_false_iff_ne.2 (by have := ha.resolve_left (by omega); omega))
                | (have F : Hid (∀ W, New w W → W.cell? (ax.add f) = some (.int .u64 ((L.getD f 0 : Nat) : Int)) ∧ W.cell? (ax.add f1) = some (.int .u64 ((L.getD f1 0 : Nat) : Int)) ∧ True) := Lib.hid fun W hW => ⟨HX.out W hW f (by omega), HX.out W hW f1 (by omega), trivial⟩
                   have e1 : (((L.getD f1 0 : Nat) : Int) == ((L.getD f 0 : Nat) : Int)) = false := beq_eq_false_iff_ne.2 (by have := hb.resolve_left (by omega); omega))
                | (have F : Hid (∀ W, New w W → W.cell? (ax.add f) = some (.int .u64 ((L.getD f 0 : Nat) : Int)) ∧ True ∧ W.cell? (ax.add m) = some (.int .u64 ((L.getD m 0 : Nat) : Int))) := Lib.hid fun W hW => ⟨HX.out W hW f (by omega), trivial, HX.out W hW m (by omega)⟩
                   have e2 : (((L.getD m 0 : Nat) : Int) == ((L.getD f 0 : Nat) : Int)) = false := beq_eq_false_iff_ne.2 (by have := ha.resolve_left (by omega); omega))
                | (have F : Hid (∀ W, New w W → W.cell? (ax.add f) = some (.int .u64 ((L.getD f 0 : Nat) : Int)) ∧ True ∧ True) := Lib.hid fun W hW => ⟨HX.out W hW f (by omega), trivial, trivial⟩)
              first
                | (have t1 : decide (0 < (f : Int)) = true := by simp; omega)
                | (have t1 : decide (0 < (f : Int)) = false := by simp; omega)
              clear hb ha hm hf1
              generalize L.getD f1 0 = y1 at *
              generalize L.getD m 0 = y2 at *
              generalize L.getD f 0 = y0 at *
              refine wp_region_up New ord10A New.refl New.trans (by kernel_rfl) (by kernel_rfl) (by kernel_rfl) ok10A ?_
              have hU := New.drew wr
              repeat (first
                | (refine up_skip rfl rfl ?_; simp only [Act.put, List.setIfInBounds_toArray, List.set_cons_zero, List.set_cons_succ])
                | (refine up_quiet rfl rfl (v := ?_) (fun W hW => ?_) ?_; rotate_left; (obtain ⟨z0, z1, z2⟩ := F.out W (New.trans (New.trans b02 hX) (New.trans hU hW)); go_simp <;> with_reducible rfl); simp only [Act.put, List.setIfInBounds_toArray, List.set_cons_zero, List.set_cons_succ]))
              refine up_nil ?_
              go_wp2_with fail
              refine wp_loop_rounds 1 ?_
              rw [rounds_succ]
              go_wp2_with fail
              go_roundw
              case rel => exact ⟨i + 1, f + n, true, by omega, by rw [← HM.out], rfl, by go_num, New.trans hX hU, by omega, HN⟩
              case measure => simp [intOf]; omega
          | false =>
            obtain ⟨rfl, hnf⟩ := HP.out.rest rfl
            have HNF := Lib.hid hnf
            have HM := Lib.hid hm
            clear hnf hm
            by_cases i0 : 0 < i
            all_goals
              first
                | (have t1 : decide (0 < (i : Int)) = true := by simp; omega)
                | (have t1 : decide (0 < (i : Int)) = false := by simp; omega)
              refine wp_region_up New ord10A New.refl New.trans (by kernel_rfl) (by kernel_rfl) (by kernel_rfl) ok10A ?_
              have hU := New.drew wr
              repeat (first
                | (refine up_skip rfl rfl ?_; simp only [Act.put, List.setIfInBounds_toArray, List.set_cons_zero, List.set_cons_succ])
                | (refine up_quiet rfl rfl (v := ?_) (fun W hW => ?_) ?_; rotate_left; (go_simp <;> with_reducible rfl); simp only [Act.put, List.setIfInBounds_toArray, List.set_cons_zero, List.set_cons_succ]))
              refine up_nil ?_
              go_wp2_with fail
              go_loopw [11] (fun v11 wr => ∃ k : Nat, f ≤ k ∧ k ≤ f + n ∧ v11 = .int .i64 (k : Int) ∧ New w2 wr) (fun v11 _ => f + n - (intOf v11).toNat)
              case atStart => exact ⟨f, Nat.le_refl _, by omega, rfl, New.trans hX hU⟩
              case round =>
                obtain ⟨k, hk3, hk4, rfl, hY⟩ := hrel
                obtain ⟨k1, hk5⟩ : ∃ k1, k1 = k + 1 := ⟨_, rfl⟩
                obtain ⟨k2, hk6⟩ : ∃ k2, k2 = k + 2 := ⟨_, rfl⟩
                obtain ⟨k3, hk7⟩ : ∃ k3, k3 = k + 3 := ⟨_, rfl⟩
                have u1 : (k : Int) + 1 = (k1 : Int) := by omega
                have u2 : (k : Int) + 2 = (k2 : Int) := by omega
                have u3 : (k : Int) + 3 = (k3 : Int) := by omega
                have v1 : IntKind.i64.wrap (k1 : Int) = (k1 : Int) := IntWalk.i64_in _ (by omega)
                have v2 : IntKind.i64.wrap (k2 : Int) = (k2 : Int) := IntWalk.i64_in _ (by omega)
                have v3 : IntKind.i64.wrap (k3 : Int) = (k3 : Int) := IntWalk.i64_in _ (by omega)
                have hk8 : k3 ≤ 500 := by omega
                have hmn := HM.out
                by_cases hkm : k3 < m
                · have hno := HNF.out k hk3 (by omega)
                  rw [← hk5, ← hk6, ← hk7] at hno
                  have l0 : k < L.length := by omega
                  have l1 : k1 < L.length := by omega
                  have l2 : k2 < L.length := by omega
                  have l3 : k3 < L.length := by omega
                  have F : Hid (∀ W, New w W → W.cell? (ax.add k) = some (.int .u64 ((L.getD k 0 : Nat) : Int)) ∧ W.cell? (ax.add k1) = some (.int .u64 ((L.getD k1 0 : Nat) : Int)) ∧ W.cell? (ax.add k2) = some (.int .u64 ((L.getD k2 0 : Nat) : Int)) ∧ W.cell? (ax.add k3) = some (.int .u64 ((L.getD k3 0 : Nat) : Int))) := Lib.hid fun W hW => ⟨HX.out W hW k l0, HX.out W hW k1 l1, HX.out W hW k2 l2, HX.out W hW k3 l3⟩
                  generalize L.getD k 0 = y0 at *
                  generalize L.getD k1 0 = y1 at *
                  generalize L.getD k2 0 = y2 at *
                  generalize L.getD k3 0 = y3 at *
                  have Hk5 := Lib.hid hk5
                  have hkn : k + 1 ≤ f + n := by omega
                  clear hk5 hk6 hk7 hmn
                  go_wp2_with fail
                  by_cases e1 : y0 = y1
                  · by_cases e2 : y0 = y2
                    · have e3 : y0 ≠ y3 := fun e3 => hno ⟨e1, e2, e3⟩
                      have g1 : (((y0 : Nat) : Int) == ((y1 : Nat) : Int)) = true := by simp [e1]
                      have g2 : (((y0 : Nat) : Int) == ((y2 : Nat) : Int)) = true := by simp [e2]
                      have g3 : (((y0 : Nat) : Int) == ((y3 : Nat) : Int)) = false := beq_eq_false_iff_ne.2 (by omega)
                      clear e1 e2 e3 hno
                      refine wp_region_up New ord10B New.refl New.trans (by kernel_rfl) (by kernel_rfl) (by kernel_rfl) ok10B ?_
                      have hU := New.drew wr
                      repeat (first
                        | (refine up_skip rfl rfl ?_; simp only [Act.put, List.setIfInBounds_toArray, List.set_cons_zero, List.set_cons_succ])
                        | (refine up_quiet rfl rfl (v := ?_) (fun W hW => ?_) ?_; rotate_left; (obtain ⟨z0, z1, z2, z3⟩ := F.out W (New.trans (New.trans b02 hY) (New.trans hU hW)); go_simp <;> with_reducible rfl); simp only [Act.put, List.setIfInBounds_toArray, List.set_cons_zero, List.set_cons_succ]))
                      refine up_nil ?_
                      go_wp2
                      go_roundw
                      case rel => exact ⟨k + 1, by omega, hkn, by rw [← Hk5.out], New.trans hY hU⟩
                      case measure => have := Hk5.out; simp [intOf]; omega
                    · have g1 : (((y0 : Nat) : Int) == ((y1 : Nat) : Int)) = true := by simp [e1]
                      have g2 : (((y0 : Nat) : Int) == ((y2 : Nat) : Int)) = false := beq_eq_false_iff_ne.2 (by omega)
                      clear e1 e2 hno
                      refine wp_region_up New ord10B New.refl New.trans (by kernel_rfl) (by kernel_rfl) (by kernel_rfl) ok10B ?_
                      have hU := New.drew wr
                      repeat (first
                        | (refine up_skip rfl rfl ?_; simp only [Act.put, List.setIfInBounds_toArray, List.set_cons_zero, List.set_cons_succ])
                        | (refine up_quiet rfl rfl (v := ?_) (fun W hW => ?_) ?_; rotate_left; (obtain ⟨z0, z1, z2, z3⟩ := F.out W (New.trans (New.trans b02 hY) (New.trans hU hW)); go_simp <;> with_reducible rfl); simp only [Act.put, List.setIfInBounds_toArray, List.set_cons_zero, List.set_cons_succ]))
                      refine up_nil ?_
                      go_wp2
                      go_roundw
                      case rel => exact ⟨k + 1, by omega, hkn, by rw [← Hk5.out], New.trans hY hU⟩
                      case measure => have := Hk5.out; simp [intOf]; omega
                  · have g1 : (((y0 : Nat) : Int) == ((y1 : Nat) : Int)) = false := beq_eq_false_iff_ne.2 (by omega)
                    clear e1 hno
                    refine wp_region_up New ord10B New.refl New.trans (by kernel_rfl) (by kernel_rfl) (by kernel_rfl) ok10B ?_
                    have hU := New.drew wr
                    repeat (first
                      | (refine up_skip rfl rfl ?_; simp only [Act.put, List.setIfInBounds_toArray, List.set_cons_zero, List.set_cons_succ])
                      | (refine up_quiet rfl rfl (v := ?_) (fun W hW => ?_) ?_; rotate_left; (obtain ⟨z0, z1, z2, z3⟩ := F.out W (New.trans (New.trans b02 hY) (New.trans hU hW)); go_simp <;> with_reducible rfl); simp only [Act.put, List.setIfInBounds_toArray, List.set_cons_zero, List.set_cons_succ]))
                    refine up_nil ?_
                    go_wp2
                    go_roundw
                    case rel => exact ⟨k + 1, by omega, hkn, by rw [← Hk5.out], New.trans hY hU⟩
                    case measure => have := Hk5.out; simp [intOf]; omega
                · clear hk5 hk6 hk7 hmn
                  go_wp2_with fail
                  go_roundw
                  case rel => exact ⟨i + 1, f + n, false, by omega, by rw [← HM.out], rfl, by go_num, hY, by omega, HN⟩
                  case measure => simp [intOf]; omega
    · obtain rfl : i = C.length := by omega
      have he := cutAt_end hcut.out (by rw [HCe.out])
      subst he
      clear hcut
      go_wp2
      go_ret
      exact ⟨by simp, New.trans b02 hW⟩

set_option maxHeartbeats 400000 in
set_option maxRecDepth 100000 in
theorem runsCuts_big {w : World} {A : Option Addr} {n c : Nat} (hn : n ≤ 9223372036854775807) (h1 : 400 < n) :
    Calls Try.prog 7 #[.slice A n c] w (SmallPost w) := by
  go_enter Try.func7, Try.ntmps7
  go_wp2_with (go_at_call 10; refine (small10_any w).mono ?_; rintro e w1 ⟨rfl, b1⟩)
  go_ret
  exact ⟨rfl, b1⟩

set_option maxRecDepth 100000 in
open Go.WideShapes Go.ChangeShapes in
theorem runsCuts_contract {H : Type} {enc : TypeId × Value → H} (W : World) (base : Nat) (args : Array Value) (ds : List (DataW H)) (ps : List MemPlace)
    (hval : ∀ (j : Nat) t v, Try.f7.params[j]? = some t → args[j]? = some v → Value.okWide Try.prog W .any base t v)
    (hA : DataW.TrodAll enc Try.prog W 0 (fun _ => true) true Try.f7.params.toList args.toList ds ps) (hlt : ∀ p ∈ ps, p.block < W.heap.size)
    (hsz : (DataW.weightsEach Try.prog Try.f7.params.toList ds).all (· ≤ reachBytes) = true) :
    Calls Try.prog 7 args W fun e W' => e = .returned (.bool true) ∧ Below W.heap.size W W' := by
  rw [Try.params7] at hA hval hsz
  obtain ⟨v0, d0, rfl, rfl, h0⟩ := trodAll_one hA
  obtain ⟨A_L, c_L, L, rfl, hc_L, hm_L, hr_L, hl_L⟩ := open_W (hval 0 _ _ rfl rfl) h0 hlt (sized_at hsz (j := 0) rfl rfl)
  by_cases hb : 400 < L.length
  · exact runsCuts_big (by omega) hb
  · exact runsCuts_walk hr_L hc_L (by omega)

end Go.Proofs.Ytlelepopdjoedaa
