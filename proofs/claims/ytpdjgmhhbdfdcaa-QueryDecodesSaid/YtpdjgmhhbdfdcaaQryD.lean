/- Queries read: package query and its answer; two queries compared. -/
import Derived.Test.YtpdjgmhhbdfdcaaQryF

namespace Go.Proofs.Ytpdjgmhhbdfdcaa
open Go.RowKit Go.Hm

set_option maxHeartbeats 800000 in
theorem sameI_any {w : World} {A A2 : Option Addr} {n c n2 c2 : Nat} {L L2 : List Int} (h : Reads w w.heap.size 1 A n (ints .i64 L)) (h2 : Reads w w.heap.size 1 A2 n2 (ints .i64 L2)) (hn : n ≤ 9223372036854775806) :
    Calls Try.prog 30 #[.slice A n c, .slice A2 n2 c2] w (NewPost (.bool (decide (L = L2))) w) := by
  by_cases hl : n = n2
  · subst hl
    have l1 := Lib.hid h.lenI
    have l2 := Lib.hid h2.lenI
    go_enter Try.func30, Try.ntmps30
    go_wp2
    go_loopw [5] (fun i wr => ∃ k : Nat, k ≤ n ∧ i = .int .i64 (k : Int) ∧ L.take k = L2.take k ∧ New w wr) (fun i _ => n - (intOf i).toNat)
    case atStart => exact ⟨0, by omega, rfl, rfl, Below.refl _ _⟩
    case round =>
      obtain ⟨k, hk, rfl, hT, hb⟩ := hrel
      by_cases hlt : k < n
      · obtain ⟨ad, rfl, hbk, hcell⟩ := (h.below hb).int hlt
        obtain ⟨ad2, rfl, hbk2, hcell2⟩ := (h2.below hb).int hlt
        have T1 := take_snoc L k 0 (by rw [← l1.out]; exact hlt)
        have T2 := take_snoc L2 k 0 (by rw [← l2.out]; exact hlt)
        have hkk : (0 : Int) ≤ (k : Int) := by omega
        have hk1 : (k : Int) < (n : Int) := by omega
        by_cases he : L.getD k 0 = L2.getD k 0
        · have hT' : L.take (k + 1) = L2.take (k + 1) := by rw [T1, T2, hT, he]
          have HT' := Lib.hid hT'
          rw [← he] at hcell2
          clear he T1 T2 hT hT'
          generalize L.getD k 0 = y at *
          go_wp2
          go_quiet (fail)
          go_wp2
          go_roundw
          case rel => exact ⟨k + 1, by omega, by go_num, HT'.out, New.trans hb (new_drewN _ _)⟩
          case measure => simp [intOf]; omega
        · have hno : ¬ L = L2 := fun e => he (by rw [e])
          have Hno := Lib.hid hno
          have e3 : (L.getD k 0 == L2.getD k 0) = false := by rw [beq_eq_false_iff_ne]; exact he
          clear T1 T2 hT he hno
          generalize L.getD k 0 = y at *
          generalize L2.getD k 0 = z at *
          go_wp2
          go_quiet (fail)
          go_wp2
          go_ret
          exact ⟨by rw [decide_eq_false Hno.out]; rfl, New.trans hb (new_drewN _ _)⟩
      · obtain rfl : k = n := by omega
        have he : L = L2 := by
          rw [l1.out, List.take_length, ← l1.out, l2.out, List.take_length] at hT
          exact hT
        have HE := Lib.hid he
        clear he hT
        go_wp2
        go_ret
        exact ⟨by rw [decide_eq_true HE.out]; rfl, hb⟩
  · have hno : ¬ L = L2 := fun e => hl (by rw [h.lenI, h2.lenI, e])
    rw [decide_eq_false hno]
    clear hno h h2
    go_enter Try.func30, Try.ntmps30
    go_wp2
    go_ret
    exact ⟨rfl, Below.refl _ _⟩

set_option maxHeartbeats 1000000 in
theorem sameQ_any {w : World} {A A2 : Option Addr} {n c n2 c2 : Nat} {L L2 : List Int} {f t f2 t2 : Int} (h : Reads w w.heap.size 1 A n (ints .i64 L)) (h2 : Reads w w.heap.size 1 A2 n2 (ints .i64 L2)) (hn : n ≤ 9223372036854775806) :
    Calls Try.prog 16 #[Qv A n c f t, Qv A2 n2 c2 f2 t2] w (NewPost (.bool (decide ((L, f, t) = (L2, f2, t2)))) w) := by
  have b1 : New w ((w.alloc (.cells #[.slice A n c, .int .i64 f, .int .i64 t] 24)).alloc (.cells #[.slice A2 n2 c2, .int .i64 f2, .int .i64 t2] 24)) := ((Below.refl _ _).alloc (Nat.le_refl _) _).alloc (by simp) _
  have S := Lib.hid (sameI_any (c := c) (c2 := c2) (Reads.later h b1) (Reads.later h2 b1) hn)
  by_cases e1 : f = f2
  · by_cases e2 : t = t2
    · subst e1 e2
      have F := Lib.hid (show decide ((L, f, t) = (L2, f, t)) = decide (L = L2) by congr 1; simp)
      have q1 : (f == f) = true := by simp
      have q2 : (t == t) = true := by simp
      generalize decide (L = L2) = bb at *
      go_enter Try.func16, Try.ntmps16
      go_wp2_with (go_at_call 30; refine S.out.mono ?_; rintro e w2 ⟨rfl, b2⟩)
      go_ret
      exact ⟨by rw [F.out]; rfl, New.trans b1 b2⟩
    · subst e1
      have F := Lib.hid (show decide ((L, f, t) = (L2, f, t2)) = false from decide_eq_false fun hh => e2 (by simpa using congrArg (·.2.2) hh))
      have q1 : (f == f) = true := by simp
      have q2 : (t == t2) = false := by rw [beq_eq_false_iff_ne]; exact e2
      go_enter Try.func16, Try.ntmps16
      go_wp2
      go_ret
      exact ⟨by rw [F.out]; rfl, b1⟩
  · have F := Lib.hid (show decide ((L, f, t) = (L2, f2, t2)) = false from decide_eq_false fun hh => e1 (by simpa using congrArg (·.2.1) hh))
    have q1 : (f == f2) = false := by rw [beq_eq_false_iff_ne]; exact e1
    go_enter Try.func16, Try.ntmps16
    go_wp2
    go_ret
    exact ⟨by rw [F.out]; rfl, b1⟩

set_option maxHeartbeats 2000000 in
set_option maxRecDepth 100000 in
theorem rqenc_any {w : World} {A0 : Option Addr} {n c : Nat} {L : List Int} {f t : Int} (h : Reads w w.heap.size 1 A0 n (ints .i64 L)) (hn : n ≤ 9223372036854775806) :
    Calls Try.prog 11 #[Qv A0 n c f t] w (OptB (encQ L f t) w) := by
  obtain rfl := h.lenI
  have b1 : New w (w.alloc (.cells #[.slice A0 L.length c, .int .i64 f, .int .i64 t] 24)) := (Below.refl _ _).alloc (Nat.le_refl _) _
  have M1 := Lib.hid (rmay_any (c := c) (f := f) (t := t) (Reads.later h b1) hn)
  cases hm : qmay L f t with
  | false =>
    have hO : encQ L f t = none := by unfold encQ; rw [hm]; rfl
    rw [hm] at M1
    rw [hO]
    clear hm hO
    go_enter Try.func11, Try.ntmps11
    go_wp2_with (go_at_call 22; refine M1.out.mono ?_; rintro e w2 ⟨rfl, b2⟩)
    go_ret2
    exact ⟨rfl, New.trans b1 b2⟩
  | true =>
    have hO : encQ L f t = some (qenc L f t) := by unfold encQ; rw [hm]; rfl
    rw [hm] at M1
    rw [hO]
    obtain ⟨⟨h1, h2, h3⟩, h4⟩ := (qmay_iff L f t).1 hm
    have hl := okCols_len h4
    obtain ⟨f, rfl⟩ := Int.eq_ofNat_of_zero_le h1
    obtain ⟨t, rfl⟩ := Int.eq_ofNat_of_zero_le (show 0 ≤ t by omega)
    have Hq := Lib.hid (show qenc L (f : Int) (t : Int) = vp L.length ++ catI L ++ vp f ++ vp t by unfold qenc; simp)
    have HC := Lib.hid h4.1
    have VF := Lib.hid (vp_len10 (n := f) (by omega))
    have VT := Lib.hid (vp_len10 (n := t) (by omega))
    have VL := Lib.hid (vp_len10 (n := L.length) (by omega))
    have hz0 := b1.size
    clear hm hO h4
    go_enter Try.func11, Try.ntmps11
    go_wp2_with (first
      | (go_at_call 22; refine M1.out.mono ?_; rintro e w2 ⟨rfl, b2⟩
         have b02 := New.trans b1 b2
         have B2 := Blk.below (Blk.new w 24 #[.slice A0 L.length c, .int .i64 (f : Int), .int .i64 (t : Int)]) b2 (by simp)
         have c0 : w2.cell? ⟨w.heap.size, 0, none⟩ = some (.slice A0 L.length c) := by rw [B2.cell 0]; rfl
         have P3 := Lib.hid (rput_any (w := w2) (A := none) (n := 0) (c := 0) (l := []) L.length Reads.none_ (by omega) (by omega)))
      | (go_at_call 23; (with_reducible refine P3.out.mono ?_); rintro e w3 ⟨A3, n3, c3, rfl, k3, b3⟩
         rw [List.nil_append] at k3
         have b03 := New.trans b02 b3
         have B3 := B2.below b3 B2.lt
         have HB3 := Lib.hid B3))
    go_loopw [5, 6] (fun v i wr => ∃ (k : Nat) (A : Option Addr) (m c5 : Nat), i = .int .i64 (k : Int) ∧ k ≤ L.length ∧ v = .slice A m c5 ∧ Own wr (w.heap.size + 1) 5 (.slice A m c5) (nums .u8 (vp L.length ++ catI (L.take k))) ∧ Blk wr w.heap.size 24 #[.slice A0 L.length c, .int .i64 (f : Int), .int .i64 (t : Int)] ∧ Below w.heap.size w wr) (fun _ i _ => L.length - (intOf i).toNat)
    case atStart => exact ⟨0, _, _, _, rfl, by omega, rfl, by rw [List.take_zero, catI_nil, List.append_nil]; exact k3.base_le (by have := b2.size; simpa using this), B3, b03⟩
    case round =>
      obtain ⟨k, A5, m5, c5, rfl, hk, rfl, o5, B5, b5⟩ := hrel
      have z5 := b5.size
      have zz5 := B5.lt
      have q5 : m5 ≤ 100 := by
        have l := o5.len
        rw [nums_length, List.length_append, catI_len _ (fun x hx => HC.out x (List.mem_of_mem_take hx)), List.length_take] at l
        have := VL.out
        omega
      have x0 : wr.cell? ⟨w.heap.size, 0, none⟩ = some (.slice A0 L.length c) := by rw [B5.cell 0]; rfl
      have x1 : wr.cell? ⟨w.heap.size, 1, none⟩ = some (.int .i64 (f : Int)) := by rw [B5.cell 1]; rfl
      have HB5 := Lib.hid B5
      clear B5
      by_cases hlt : k < L.length
      · obtain ⟨ad, rfl, hbk, hcell⟩ := (h.below b5).int hlt
        have hy := getD_memI HC.out hlt
        have T := take_snoc L k 0 hlt
        have HT := Lib.hid (show catI (L.take (k + 1)) = catI (L.take k) ++ vp (L.getD k 0).toNat by rw [T, catI_snoc])
        clear T
        generalize L.getD k 0 = y at *
        obtain ⟨y, rfl⟩ := Int.eq_ofNat_of_zero_le hy.1
        rw [Int.toNat_natCast] at HT
        have P6 := Lib.hid (rput_any (c := c5) y o5.reads (by omega) (by omega))
        go_wp2_with (first
          | (go_at_call 23; (with_reducible refine P6.out.mono ?_); rintro e w7 ⟨A7, n7, c7, rfl, k7, b7⟩
             have b07 := below_then b5 b7 (Nat.le_refl _)
             have B7 := Lib.hid (HB5.out.below b7 zz5)))
        go_roundw
        case rel => exact ⟨k + 1, _, _, _, by go_num, by omega, rfl, by rw [HT.out, ← List.append_assoc]; exact k7.base_le (by omega), B7.out, b07⟩
        case measure => simp [intOf]; omega
      · obtain rfl : k = L.length := by omega
        rw [List.take_length] at o5
        have P6 := Lib.hid (rput_any (c := c5) f o5.reads (by omega) (by omega))
        go_wp2_with (first
          | (go_at_call 23; (with_reducible refine P6.out.mono ?_); rintro e w7 ⟨A7, n7, c7, rfl, k7, b7⟩
             have b07 := below_then b5 b7 (Nat.le_refl _)
             have B7 := HB5.out.below b7 zz5
             have x2 : w7.cell? ⟨w.heap.size, 2, none⟩ = some (.int .i64 (t : Int)) := by rw [B7.cell 2]; rfl
             have q7 : n7 ≤ 110 := by have l := k7.len; have l5 := o5.len; rw [nums_length, List.length_append] at l; rw [nums_length] at l5; have := VF.out; omega
             have zz7 := B7.lt
             clear B7
             have P9 := Lib.hid (rput_any (c := c7) t k7.reads (by omega) (by omega)))
          | (go_at_call 23; (with_reducible refine P9.out.mono ?_); rintro e w9 ⟨A9, n9, c9, rfl, k9, b9⟩
             have b09 := below_then b07 b9 (Nat.le_refl _)))
        go_ret2
        rw [Hq.out]
        exact ⟨_, _, _, rfl, k9.base_le (by omega), b09⟩

end Go.Proofs.Ytpdjgmhhbdfdcaa
