/- Queries read: package query and its answer; two queries compared. -/
import Derived.Test.YtnmdbplkngnflaaQryF

namespace Go.Proofs.Ytnmdbplkngnflaa
open Go.RowKit Go.Hm

set_option maxHeartbeats 800000 in
theorem sameI_any {w : World} {A A2 : Option Addr} {n c n2 c2 : Nat} {L L2 : List Int} (h : Reads w w.heap.size 1 A n (ints .i64 L)) (h2 : Reads w w.heap.size 1 A2 n2 (ints .i64 L2)) (hn : n ≤ 9223372036854775806) :
    Calls Try.prog 22 #[.slice A n c, .slice A2 n2 c2] w (NewPost (.bool (decide (L = L2))) w) := by
  by_cases hl : n = n2
  · subst hl
    have l1 := Lib.hid h.lenI
    have l2 := Lib.hid h2.lenI
    go_enter Try.func22, Try.ntmps22
    go_wp2
    go_loopw [5] (fun i wr => ∃ k : Nat, k ≤ n ∧ i = .int .i64 (k : Int) ∧ L.take k = L2.take k ∧ New w wr) (fun i _ => n - (intOf i).toNat)
    case atStart => exact ⟨0, by omega, rfl, rfl, Below.refl _ _⟩
    case round =>
      obtain ⟨k, hk, rfl, hT, hb⟩ := hrel
      by_cases hlt : k < n
      · obtain ⟨ad, rfl, hbk, hcell⟩ := (h.below hb).int hlt
        obtain ⟨ad2, rfl, hbk2, hcell2⟩ := (h2.below hb).int hlt
        have T1 := take_snoc L k 0 (by rw [← l1.out]; exact hlt)
        have T2 := take_snoc L2 k 0 (by rw [← l2.out]; exact hlt)
        have hkk : (0 : Int) ≤ (k : Int) := by omega
        have hk1 : (k : Int) < (n : Int) := by omega
        by_cases he : L.getD k 0 = L2.getD k 0
        · have hT' : L.take (k + 1) = L2.take (k + 1) := by rw [T1, T2, hT, he]
          have HT' := Lib.hid hT'
          rw [← he] at hcell2
          clear he T1 T2 hT hT'
          generalize L.getD k 0 = y at *
          go_wp2
          go_quiet (fail)
          go_wp2
          go_roundw
          case rel => exact ⟨k + 1, by omega, by go_num, HT'.out, New.trans hb (new_drewN _ _)⟩
          case measure => simp [intOf]; omega
        · have hno : ¬ L = L2 := fun e => he (by rw [e])
          have Hno := Lib.hid hno
          have e3 : (L.getD k 0 == L2.getD k 0) = false := by rw [beq_eq_false_iff_ne]; exact he
          clear T1 T2 hT he hno
          generalize L.getD k 0 = y at *
          generalize L2.getD k 0 = z at *
          go_wp2
          go_quiet (fail)
          go_wp2
          go_ret
          exact ⟨by rw [decide_eq_false Hno.out]; rfl, New.trans hb (new_drewN _ _)⟩
      · obtain rfl : k = n := by omega
        have he : L = L2 := by
          rw [l1.out, List.take_length, ← l1.out, l2.out, List.take_length] at hT
          exact hT
        have HE := Lib.hid he
        clear he hT
        go_wp2
        go_ret
        exact ⟨by rw [decide_eq_true HE.out]; rfl, hb⟩
  · have hno : ¬ L = L2 := fun e => hl (by rw [h.lenI, h2.lenI, e])
    rw [decide_eq_false hno]
    clear hno h h2
    go_enter Try.func22, Try.ntmps22
    go_wp2
    go_ret
    exact ⟨rfl, Below.refl _ _⟩

set_option maxHeartbeats 1000000 in
theorem sameQ_any {w : World} {A A2 : Option Addr} {n c n2 c2 : Nat} {L L2 : List Int} {f t f2 t2 : Int} (h : Reads w w.heap.size 1 A n (ints .i64 L)) (h2 : Reads w w.heap.size 1 A2 n2 (ints .i64 L2)) (hn : n ≤ 9223372036854775806) :
    Calls Try.prog 11 #[Qv A n c f t, Qv A2 n2 c2 f2 t2] w (NewPost (.bool (decide ((L, f, t) = (L2, f2, t2)))) w) := by
  have b1 : New w ((w.alloc (.cells #[.slice A n c, .int .i64 f, .int .i64 t] 24)).alloc (.cells #[.slice A2 n2 c2, .int .i64 f2, .int .i64 t2] 24)) := ((Below.refl _ _).alloc (Nat.le_refl _) _).alloc (by simp) _
  have S := Lib.hid (sameI_any (c := c) (c2 := c2) (Reads.later h b1) (Reads.later h2 b1) hn)
  by_cases e1 : f = f2
  · by_cases e2 : t = t2
    · subst e1 e2
      have F := Lib.hid (show decide ((L, f, t) = (L2, f, t)) = decide (L = L2) by congr 1; simp)
      have q1 : (f == f) = true := by simp
      have q2 : (t == t) = true := by simp
      generalize decide (L = L2) = bb at *
      go_enter Try.func11, Try.ntmps11
      go_wp2_with (go_at_call 22; refine S.out.mono ?_; rintro e w2 ⟨rfl, b2⟩)
      go_ret
      exact ⟨by rw [F.out]; rfl, New.trans b1 b2⟩
    · subst e1
      have F := Lib.hid (show decide ((L, f, t) = (L2, f, t2)) = false from decide_eq_false fun hh => e2 (by simpa using congrArg (·.2.2) hh))
      have q1 : (f == f) = true := by simp
      have q2 : (t == t2) = false := by rw [beq_eq_false_iff_ne]; exact e2
      go_enter Try.func11, Try.ntmps11
      go_wp2
      go_ret
      exact ⟨by rw [F.out]; rfl, b1⟩
  · have F := Lib.hid (show decide ((L, f, t) = (L2, f2, t2)) = false from decide_eq_false fun hh => e1 (by simpa using congrArg (·.2.1) hh))
    have q1 : (f == f2) = false := by rw [beq_eq_false_iff_ne]; exact e1
    go_enter Try.func11, Try.ntmps11
    go_wp2
    go_ret
    exact ⟨by rw [F.out]; rfl, b1⟩

end Go.Proofs.Ytnmdbplkngnflaa
