/- Contracts on cell.Compare and ref07.Compare, of any type. -/
import Derived.Test.YtcnaameebbcmhaaCellQ
import Derived.Test.YtcnaameebbcmhaaPtC

namespace Go.Hm
open Go Go.RowKit
theorem cb_less : ∀ a b : List UInt8, Lib.compareBytes a b = if Op.bytesLess a b = true then -1 else if a = b then 0 else 1
  | [], [] => by simp [Lib.compareBytes, Op.bytesLess]
  | [], _ :: _ => by simp [Lib.compareBytes, Op.bytesLess]
  | _ :: _, [] => by simp [Lib.compareBytes, Op.bytesLess]
  | x :: a, y :: b => by
    have ih := cb_less a b
    have h3 := UInt8.lt_irrefl x
    by_cases h1 : x < y
    · simp [Lib.compareBytes, Op.bytesLess, h1]
    · by_cases h2 : y < x
      · have hne : x ≠ y := by rintro rfl; exact h1 h2
        simp [Lib.compareBytes, Op.bytesLess, h1, h2, hne]
      · have he : x = y := UInt8.le_antisymm (UInt8.not_lt.1 h2) (UInt8.not_lt.1 h1)
        subst he
        simp [Lib.compareBytes, Op.bytesLess, ih]
theorem cmpT_less (a b : List Nat) : cmpT a b = if Op.bytesLess (bstr a).toList (bstr b).toList = true then -1 else if (bstr a).toList == (bstr b).toList then 0 else 1 := by
  have e : ∀ l : List Nat, (bstr l).toList = l.map UInt8.ofNat := fun l => by rw [Lib.toList_data]; rfl
  rw [cmpT, cb_less, e, e]
  simp
/-- Which of two cells is ahead. -/
def cmpD (t : Int) (a b : CellS) : Int := if a.1 || b.1 then cmpN a.1 b.1 else if t = 0 ∨ t = 1 then cmpI a.2.1 b.2.1 else if t = 2 then cmpT a.2.2.1 b.2.2.1 else if t = 3 then cmpP a.2.2.2.1 a.2.2.2.2 b.2.2.2.1 b.2.2.2.2 else 0
theorem cmpD_C {t : Int} {a b : CellS} (h : ¬ (t = 3 ∧ a.1 = false ∧ b.1 = false)) : cmpD t a b = cmpC t a b := by
  unfold cmpD cmpC
  by_cases h1 : (a.1 || b.1) = true
  · rw [if_pos h1, if_pos h1]
  · rw [if_neg h1, if_neg h1]
    have h3 : ¬ t = 3 := fun e => h ⟨e, by simp_all, by simp_all⟩
    simp [h3]
/-- Both points are near. -/
def nearP (x y u v : Int) : Prop := (-2097152 ≤ x ∧ x ≤ 2097152) ∧ (-2097152 ≤ y ∧ y ≤ 2097152) ∧ (-2097152 ≤ u ∧ u ≤ 2097152) ∧ (-2097152 ≤ v ∧ v ≤ 2097152)

end Go.Hm

namespace Go.Proofs.Ytcnaameebbcmhaa
open Go.RowKit Go.Hm
set_option maxHeartbeats 2000000 in
set_option maxRecDepth 100000 in
theorem compareD_any {w : World} {t : Int} {a b : Bool} {n m : Int} {s r : List Nat} {x y x2 y2 : Int} (hp : nearP x y x2 y2) :
    Calls Try.prog 12 #[.int .i64 t, .agg #[.bool a, .int .i64 n, .string (bstr s), .int .i64 x, .int .i64 y], .agg #[.bool b, .int .i64 m, .string (bstr r), .int .i64 x2, .int .i64 y2]] w (NewPost (.int .i64 (cmpD t (a, n, s, x, y) (b, m, r, x2, y2))) w) := by
  by_cases h3 : t = 3 ∧ a = false ∧ b = false
  · obtain ⟨rfl, rfl, rfl⟩ := h3
    have hO : cmpD 3 (false, n, s, x, y) (false, m, r, x2, y2) = cmpP x y x2 y2 := by simp [cmpD]
    rw [hO]
    have P := Lib.hid (fun (W : World) => pcompare_any (w := W) hp.1 hp.2.1 hp.2.2.1 hp.2.2.2)
    have B0 := Blk.new w 25 #[.bool false, .int .i64 n, .string (bstr s), .int .i64 x, .int .i64 y]
    have B1 := Blk.new (w.alloc (.cells #[.bool false, .int .i64 n, .string (bstr s), .int .i64 x, .int .i64 y] 25)) 25 #[.bool false, .int .i64 m, .string (bstr r), .int .i64 x2, .int .i64 y2]
    obtain ⟨x0, x1, x2', x3, x4⟩ := cells5 (B0.alloc (.cells #[.bool false, .int .i64 m, .string (bstr r), .int .i64 x2, .int .i64 y2] 25))
    obtain ⟨y0, y1, y2', y3, y4⟩ := cells5 B1
    clear B0 B1 hO hp
    go_enter Try.func12, Try.ntmps12
    go_wp2_with (go_at_call 27; refine (P.out _).mono ?_; rintro e w' ⟨rfl, b1⟩)
    go_ret
    exact ⟨rfl, New.trans (new2 w _ _) b1⟩
  · rw [cmpD_C h3]
    exact compare_any h3
set_option maxRecDepth 100000 in
theorem rints_any {w : World} {x y : Int} : Calls Try.prog 28 #[.int .i64 x, .int .i64 y] w (ValPost (.int .i64 (cmpI x y)) w) := by
  have K1 := Lib.hid (fun (h : x < y) => show cmpI x y = -1 by rw [cmpI, if_pos h])
  have K2 := Lib.hid (fun (h : ¬ x < y) (h2 : y < x) => show cmpI x y = 1 by rw [cmpI, if_neg h, if_pos h2])
  have K3 := Lib.hid (fun (h : ¬ x < y) (h2 : ¬ y < x) => show cmpI x y = 0 by rw [cmpI, if_neg h, if_neg h2])
  generalize cmpI x y = O at *
  by_cases h1 : x < y
  · have O1 := Lib.hid (K1.out h1)
    clear K1 K2 K3
    go_enter Try.func28, Try.ntmps28
    go_wp2
    go_ret
    exact ⟨by rw [O1.out]; rfl, rfl⟩
  · by_cases h2 : y < x
    · have O1 := Lib.hid (K2.out h1 h2)
      clear K1 K2 K3
      go_enter Try.func28, Try.ntmps28
      go_wp2
      go_ret
      exact ⟨by rw [O1.out]; rfl, rfl⟩
    · have O1 := Lib.hid (K3.out h1 h2)
      clear K1 K2 K3
      go_enter Try.func28, Try.ntmps28
      go_wp2
      go_ret
      exact ⟨by rw [O1.out]; rfl, rfl⟩
set_option maxHeartbeats 4000000 in
set_option maxRecDepth 100000 in
theorem rcompareD_any {w : World} {t : Int} {a b : Bool} {n m : Int} {s r : List Nat} {x y x2 y2 : Int} (hp : nearP x y x2 y2) :
    Calls Try.prog 13 #[.int .i64 t, .agg #[.bool a, .int .i64 n, .string (bstr s), .int .i64 x, .int .i64 y], .agg #[.bool b, .int .i64 m, .string (bstr r), .int .i64 x2, .int .i64 y2]] w (NewPost (.int .i64 (cmpD t (a, n, s, x, y) (b, m, r, x2, y2))) w) := by
  have P := Lib.hid (fun (W : World) => rpcompare_any (w := W) hp.1 hp.2.1 hp.2.2.1 hp.2.2.2)
  have B0 := Blk.new w 25 #[.bool a, .int .i64 n, .string (bstr s), .int .i64 x, .int .i64 y]
  have B1 := Blk.new (w.alloc (.cells #[.bool a, .int .i64 n, .string (bstr s), .int .i64 x, .int .i64 y] 25)) 25 #[.bool b, .int .i64 m, .string (bstr r), .int .i64 x2, .int .i64 y2]
  obtain ⟨x0, x1, x2', x3, x4⟩ := cells5 (B0.alloc (.cells #[.bool b, .int .i64 m, .string (bstr r), .int .i64 x2, .int .i64 y2] 25))
  obtain ⟨y0, y1, y2', y3, y4⟩ := cells5 B1
  have HT := Lib.hid (cmpT_less s r)
  have HO := Lib.hid (show cmpD t (a, n, s, x, y) (b, m, r, x2, y2) = (if a || b then cmpN a b else if t = 0 ∨ t = 1 then cmpI n m else if t = 2 then cmpT s r else if t = 3 then cmpP x y x2 y2 else 0) from rfl)
  generalize cmpD t (a, n, s, x, y) (b, m, r, x2, y2) = O at *
  generalize cmpT s r = T at *
  generalize cmpP x y x2 y2 = PP at *
  generalize h1 : Op.bytesLess (bstr s).toList (bstr r).toList = L1 at *
  generalize h2 : ((bstr s).toList == (bstr r).toList) = L2 at *
  clear B0 B1 hp
  cases L1 <;> cases L2
  all_goals cases a <;> cases b
  all_goals
    go_enter Try.func13, Try.ntmps13
    go_wp2_with (first
      | (go_at_call 28; refine rints_any.mono ?_; rintro e w' ⟨rfl, rfl⟩)
      | (go_at_call 29; refine (P.out _).mono ?_; rintro e w' ⟨rfl, b1⟩))
  all_goals go_ret
  all_goals try refine ⟨?_, new2 w _ _⟩
  all_goals try refine ⟨?_, New.trans (new2 w _ _) (by assumption)⟩
  all_goals
    rw [HO.out]
    try rw [HT.out]
    clear x0 x1 x2' x3 x4 y0 y1 y2' y3 y4 HO HT P
    simp_all [cmpN]

end Go.Proofs.Ytcnaameebbcmhaa
