/- Contract on the answer's Join. -/
import Derived.Test.YtgjllfcnbkennaaNulJ

namespace Go.Proofs.Ytgjllfcnbkennaa
open Go.RowKit Go.Hm
set_option maxHeartbeats 4000000 in
set_option maxRecDepth 100000 in
theorem rjoin_any {w : World} {A : Option Addr} {mm c : Nat} {b : List Nat} {n : Int} {A2 : Option Addr} {nr c2 : Nat} {r : List CellS} (h : Reads w w.heap.size 1 A mm (nums .u8 b)) (h8 : ∀ x ∈ b, x < 256) (hm : mm ≤ 9223372036854775807) (hn0 : -9223372036854775808 ≤ n) (hn : n ≤ 9223372036854775807)
    (h2 : Reads w w.heap.size 5 A2 nr (recs cellV r)) (hnr : nr ≤ 9223372036854775807) :
    Calls Try.prog 13 #[.slice A mm c, .slice A2 nr c2, .int .i64 n] w (JoinPost (joinO (unpackO b 1 n) r) w) := by
  obtain rfl := h2.lenCell
  have P1 := fun (W : World) (hW : New w W) => rcount_any (w := W) (c := c) (Reads.later h hW) h8 hm hn0 hn
  have P2 := runpack_any (c := c) 1 n h h8 hm (by omega) (by omega) hn0 hn
  have HU := Lib.hid (fun (l : List Nat) (hh : unpackO b 1 n = some l) => unpack1 h8 hh)
  generalize unpackO b 1 n = U at *
  cases U with
  | none =>
    have P2 := Lib.hid P2
    go_enter Try.func13, Try.ntmps13
    go_wp2_with fail
    refine P2.out.mono ?_
    rintro e w1 ⟨rfl, b1⟩
    go_wp2
    go_ret2
    exact ⟨rfl, b1⟩
  | some m =>
    obtain ⟨_, q2, q3, q4⟩ := HU.out m rfl
    subst q2
    have P1 := Lib.hid P1
    have P2 := Lib.hid P2
    by_cases hc : cntN (some m) = (r.length : Int)
    · have hs : m.sum = r.length := by simp [cntN] at hc; omega
      rw [joinO_eq hs]
      obtain ⟨J, hJ⟩ : ∃ J, J = joinL m r := ⟨_, rfl⟩
      rw [← hJ]
      have HJ := Lib.hid hJ
      have HS := Lib.hid hs
      have Q3 := Lib.hid q3
      generalize cntN (some m) = cn at *
      subst hc
      clear HU hJ hs q3 hn0
      go_enter Try.func13, Try.ntmps13
      go_wp2_with fail
      refine P2.out.mono ?_
      rintro e w1 ⟨A5, n5, c5, rfl, o5, b1⟩
      obtain rfl : n5 = m.length := by have := o5.len; rwa [nums_length] at this
      have P1 := Lib.hid (P1.out w1 b1)
      go_wp2_with fail
      refine P1.out.mono ?_
      rintro e w2 ⟨rfl, b2⟩
      have b02 := New.trans b1 b2
      have o5 := Lib.hid (fun (W : World) (hW : New w2 W) => o5.later (New.trans b2 hW))
      have z2 := b02.size
      clear P1 P2 b1 b2
      go_wp2
      go_loopw [10, 11, 12] (fun a j i wr => ∃ (k q : Nat) (A6 : Option Addr) (n6 c6 : Nat) (pre : List CellS), i = .int .i64 (k : Int) ∧ j = .int .i64 (q : Int) ∧ a = .slice A6 n6 c6 ∧ k ≤ m.length ∧ n6 = k ∧ pre.length = k ∧ Hid (q = (m.take k).sum) ∧
        wr.ownsRow w2.heap.size 34 5 (.slice A6 n6 c6) n6 (recs cellV pre) ∧ Hid (J = (joinL (m.drop k) (r.drop q)).map (pre ++ ·)) ∧ New w2 wr) (fun _ _ i _ => m.length - (intOf i).toNat)
      case atStart => exact ⟨0, 0, none, 0, 0, [], rfl, rfl, rfl, by omega, rfl, rfl, Lib.hid (by simp), row_nil, Lib.hid (by rw [HJ.out]; simp), New.refl _⟩
      case round =>
        obtain ⟨k, q, A6, n6, c6, pre, rfl, rfl, rfl, hk, hn6, hpre, HQ, u, HJJ, b3⟩ := hrel
        have b03 := New.trans b02 b3
        by_cases hlt : k < m.length
        · obtain ⟨ad, e5, _, c0⟩ := (o5.out wr b3).reads.num hlt
          subst e5
          have hy : m.getD k 0 < 2 := Q3.out _ (mem_getDC 0 hlt)
          have HSN := Lib.hid (sum_take hlt)
          have HSL := Lib.hid (sum_take_le (m := m) (k + 1))
          have JS := Lib.hid (joinL_step (r := r) (q := q) hlt)
          have JV := Lib.hid (fun (h0 : ¬ m.getD k 0 = 0) (hq : q < r.length) => joinL_val hlt h0 hq)
          have i1 : (k : Int) < (m.length : Int) := by omega
          have hz6 : n6 ≤ 65536 := by omega
          have HN6 := Lib.hid hn6
          have z3 := b3.size
          have RR := Lib.hid (fun (hq : q < r.length) => (Reads.later h2 b03).cell5 hq)
          generalize m.getD k 0 = y at *
          clear hn6
          by_cases h0 : y = 0
          · subst h0
            have JS := JS.out
            rw [if_pos rfl] at JS
            have HJ2 := Lib.hid (show J = (joinL (m.drop (k + 1)) (r.drop q)).map ((pre ++ [nullC]) ++ ·) by
              rw [HJJ.out, JS, Option.map_map]; congr 1; funext z; simp)
            have HQ2 := Lib.hid (show q = (m.take (k + 1)).sum by rw [HSN.out, ← HQ.out]; rfl)
            clear JS JV HJJ HSN HSL HQ RR
            go_wp2_with (refine wpList_pushR elCell rfl (.tmp 39) (.tmp 41) rfl (W := w2) (B := w2.heap.size) (base := w2.heap.size) (n := n6) u rfl rfl b3 (Nat.le_refl _) z3 rfl (by simp [Value.oneCell']) (by omega) (by simp only [maxLen]; omega) ?_
                         intro A7 c7 w7 _ _ u7 g7 b7 _ _)
            go_roundw
            case rel => exact ⟨k + 1, q, _, _, _, pre ++ [nullC], by go_num, rfl, rfl, by omega, by have := HN6.out; omega, by simp [hpre], HQ2, by rw [recs_append]; exact u7, HJ2, b7⟩
            case measure => simp [intOf]; omega
          · obtain rfl : y = 1 := by omega
            have hq : q < r.length := by have := HSN.out; have := HSL.out; have := HQ.out; have := HS.out; omega
            have JV := JV.out (by omega) hq
            obtain ⟨ad2, e6, _, d0, d1, d2, d3, d4⟩ := RR.out hq
            subst e6
            have HQ2 := Lib.hid (show q + 1 = (m.take (k + 1)).sum by rw [HSN.out, ← HQ.out])
            generalize r.getD q (false, 0, [], 0, 0) = x at *
            obtain ⟨xb, xn, xs, xx, xy⟩ := x
            simp only at d0 d1 d2 d3 d4 JV
            have i2 : (q : Int) < (r.length : Int) := by omega
            cases xb with
            | true =>
              have HJ2 := Lib.hid (show J = none by rw [HJJ.out, JV]; rfl)
              clear JV JS HJJ RR HSN HSL
              go_wp2
              go_ret2
              rw [HJ2.out]
              exact ⟨rfl, b03⟩
            | false =>
              have HJ2 := Lib.hid (show J = (joinL (m.drop (k + 1)) (r.drop (q + 1))).map ((pre ++ [(false, xn, xs, xx, xy)]) ++ ·) by
                rw [HJJ.out, JV, if_neg (by simp), Option.map_map]; congr 1; funext z; simp)
              clear JV JS HJJ HSN HSL HQ RR
              go_wp2_with (refine wpList_pushR elCell rfl (.tmp 48) (.tmp 53) rfl (W := w2) (B := w2.heap.size) (base := w2.heap.size) (n := n6) u rfl rfl b3 (Nat.le_refl _) z3 rfl (by simp [Value.oneCell']) (by omega) (by simp only [maxLen]; omega) ?_
                           intro A7 c7 w7 _ _ u7 g7 b7 _ _)
              go_roundw
              case rel => exact ⟨k + 1, q + 1, _, _, _, pre ++ [(false, xn, xs, xx, xy)], by go_num, by go_num, rfl, by omega, by have := HN6.out; omega, by simp [hpre], HQ2, by rw [recs_append]; exact u7, HJ2, b7⟩
              case measure => simp [intOf]; omega
        · obtain rfl : k = m.length := by omega
          subst hn6
          have HJ2 := Lib.hid (show J = some pre by rw [HJJ.out, joinL_end]; simp)
          have HP := Lib.hid hpre
          clear HJJ HQ hlt hpre
          go_wp2
          go_ret2
          rw [HJ2.out]
          refine ⟨A6, c6, by rw [HP.out]; rfl, ?_, b03⟩
          rw [HP.out]
          exact row_base u z2
    · rw [joinO_no hc]
      generalize cntN (some m) = cn at *
      have e1 : (cn != (r.length : Int)) = true := by simpa using hc
      clear hc HU
      go_enter Try.func13, Try.ntmps13
      go_wp2_with fail
      refine P2.out.mono ?_
      rintro e w1 ⟨A5, n5, c5, rfl, o5, b1⟩
      have P1 := Lib.hid (P1.out w1 b1)
      go_wp2_with fail
      refine P1.out.mono ?_
      rintro e w2 ⟨rfl, b2⟩
      go_wp2
      go_ret2
      exact ⟨rfl, New.trans b1 b2⟩

end Go.Proofs.Ytgjllfcnbkennaa
