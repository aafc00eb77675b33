/- Contracts on nulls.Join and its answer. -/
import Derived.Test.YtgjllfcnbkennaaNulR

namespace Go.Hm
open Go Go.RowKit
theorem madeCells5 (a b c d f : Value) (n : Nat) : (madeCells #[a, b, c, d, f] (n * 5)).toList = (List.replicate n [a, b, c, d, f]).flatten := by
  induction n with
  | zero => simp [madeCells]
  | succ n ih =>
    rw [List.replicate_succ', List.flatten_append, ← ih]
    have e : ∀ m, m % 5 = 0 → (madeCells #[a, b, c, d, f] (m + 5)).toList = (madeCells #[a, b, c, d, f] m).toList ++ [a, b, c, d, f] := by
      intro m hm
      simp only [madeCells, Array.toList_map, Array.toList_range, List.range_succ, List.map_append, List.map_cons, List.map_nil, List.append_assoc, List.cons_append, List.nil_append, List.size_toArray, List.length_cons, List.length_nil]
      rw [hm, show (m + 1) % 5 = 1 by omega, show (m + 2) % 5 = 2 by omega, show (m + 3) % 5 = 3 by omega, show (m + 4) % 5 = 4 by omega]
      rfl
    rw [Nat.succ_mul, e (n * 5) (by omega)]
    simp
theorem set5_app {A B : List Value} {x0 x1 x2 x3 x4 a b c d f : Value} {m : Nat} (h : A.length = m) : (((((A ++ ([x0, x1, x2, x3, x4] ++ B)).set m a).set (m + 1) b).set (m + 2) c).set (m + 3) d).set (m + 4) f = A ++ ([a, b, c, d, f] ++ B) := by
  subst h
  rw [List.set_append_right _ _ (Nat.le_refl _), List.set_append_right _ _ (by omega), List.set_append_right _ _ (by omega), List.set_append_right _ _ (by omega), List.set_append_right _ _ (by omega)]
  simp
/-- A cell of a row is stored. -/
theorem row_set5 {w : World} {base : Nat} {e : TypeId} {g n c m : Nat} {A B : List Value} {x0 x1 x2 x3 x4 a b d f k : Value} (h : w.ownsRow base e 5 (.slice (some ⟨g, 0, none⟩) n c) n (A ++ ([x0, x1, x2, x3, x4] ++ B))) (hm : A.length = m) :
    ∃ W, W = ((((w.setCell ⟨g, m, none⟩ a).setCell ⟨g, m + 1, none⟩ b).setCell ⟨g, m + 2, none⟩ d).setCell ⟨g, m + 3, none⟩ f).setCell ⟨g, m + 4, none⟩ k ∧ W.ownsRow base e 5 (.slice (some ⟨g, 0, none⟩) n c) n (A ++ ([a, b, d, f, k] ++ B)) ∧ w.grownBy W (some g) := by
  obtain ⟨h1, g1⟩ := h.stored m a
  obtain ⟨h2, g2⟩ := h1.stored (m + 1) b
  obtain ⟨h3, g3⟩ := h2.stored (m + 2) d
  obtain ⟨h4, g4⟩ := h3.stored (m + 3) f
  obtain ⟨h5, g5⟩ := h4.stored (m + 4) k
  rw [set5_app hm] at h5
  exact ⟨_, rfl, h5, (((g1.trans g2).trans g3).trans g4).trans g5⟩

section
variable {P : Program} {ops : Array Oper} {rest : List Oper} {o : Oper} {a : Act} {Q : Exit → Act → World → Prop}
/-- make([]T, n), T of five cells: the row is the call's own. -/
theorem wpList_mk5 {w : World} {t e : TypeId} {x0 x1 x2 x3 x4 : Value} {bytes : Nat} (E : ElT P t e (.agg #[x0, x1, x2, x3, x4]) 5 bytes) (hgd : o.guard = none) (lo co : Operand) (ho : o.op = Op.makeSlice t lo co)
    (h5 : (Value.agg #[x0, x1, x2, x3, x4]).cells = #[x0, x1, x2, x3, x4])
    {W : World} {B : Nat} {kl kc : IntKind} {L C : Int} (n : Nat) (hl : a.eval lo = .int kl L) (hc : a.eval co = .int kc C) (hL : L = (n : Int)) (hC : C = (n : Int)) (hb : Below B W w) (hbase : B ≤ w.heap.size)
    (hn : n * bytes ≤ 140737488355328) (hm : n ≤ maxLen)
    (h : ∀ w', w'.ownsRow w.heap.size e 5 (.slice (some ⟨w.heap.size, 0, none⟩) n n) n (List.replicate n [x0, x1, x2, x3, x4]).flatten → w.grownBy w' none → Below B W w' → w'.heap.size = w.heap.size + 1 → wpList P ops Q rest (a.put o.dst (.slice (some ⟨w.heap.size, 0, none⟩) n n)) w') :
    wpList P ops Q (o :: rest) a w := by
  obtain ⟨i, hi, hz0, hs1, hb1⟩ := info_parts E.hi
  subst hL hC
  have hmC : (n : Int) ≤ 9223372036854775807 := by have h := hm; simp only [maxLen] at h; omega
  have hbC : (i.bytes : Int) * (n : Int) ≤ 281474976710656 := by
    have h : ((i.bytes * n : Nat) : Int) ≤ 281474976710656 := by rw [hb1, Nat.mul_comm]; omega
    rwa [Int.natCast_mul] at h
  have hrun := run_make (P := P) w t e i (.agg #[x0, x1, x2, x3, x4]) E.ht hi hz0 kl kc (n : Int) (n : Int) (by omega) (by omega) hbC hmC
  rw [Int.toNat_natCast, hs1, h5] at hrun
  refine wpList_plain hgd fun K hK => ?_
  unfold Oper.wp
  simp [execOp, ho, hl, hc, hrun, Result.andThen]
  refine hK _ _ (h _ ?_ (World.grownBy_alloc _ _ _) (hb.alloc hbase _) (by simp))
  refine ⟨by simp, .inr ⟨_, n, _, rfl, Nat.le_refl _, heap_alloc_new w _, Nat.le_refl _, hm, by simp [size_madeCells], ?_⟩⟩
  rw [List.take_of_length_le (by simp [size_madeCells])]
  exact madeCells5 x0 x1 x2 x3 x4 n
end

end Go.Hm

namespace Go.Proofs.Ytgjllfcnbkennaa
open Go.RowKit Go.Hm
/-- What Join answers. -/
def JoinPost (o : Option (List CellS)) (w : World) (e : Ending) (w' : World) : Prop :=
  match o with
  | none => e = .returned (.tuple #[.slice none 0 0, .bool false]) ∧ New w w'
  | some x => ∃ A c, e = .returned (.tuple #[.slice A x.length c, .bool true]) ∧ w'.ownsRow w.heap.size 34 5 (.slice A x.length c) x.length (recs cellV x) ∧ New w w'
theorem joinO_eq {m : List Nat} {r : List CellS} (h : m.sum = r.length) : joinO (some m) r = joinL m r := by rw [joinO]; simp [h]
theorem joinO_no {U : Option (List Nat)} {r : List CellS} (h : cntN U ≠ (r.length : Int)) : joinO U r = none := by
  cases U with
  | none => rfl
  | some m =>
    rw [joinO]
    have : ¬ m.sum = r.length := fun e => h (by simp [cntN, e])
    simp [this]
theorem joinL_len {m : List Nat} : ∀ {r x : List CellS}, joinL m r = some x → x.length = m.length := by
  induction m with
  | nil => intro r x h; simp [joinL] at h; subst h; rfl
  | cons y m ih =>
    intro r x h
    rw [joinL_cons] at h
    split at h
    · cases hj : joinL m r with
      | none => rw [hj] at h; cases h
      | some x' => rw [hj] at h; simp at h; subst h; simp [ih hj]
    · cases r with
      | nil => cases h
      | cons c r =>
        simp only at h
        split at h
        · cases h
        · cases hj : joinL m r with
          | none => rw [hj] at h; cases h
          | some x' => rw [hj] at h; simp at h; subst h; simp [ih hj]
set_option maxHeartbeats 4000000 in
set_option maxRecDepth 100000 in
theorem join_any {w : World} {A : Option Addr} {mm c : Nat} {b : List Nat} {n : Int} {A2 : Option Addr} {nr c2 : Nat} {r : List CellS} (h : Reads w w.heap.size 1 A mm (nums .u8 b)) (h8 : ∀ x ∈ b, x < 256) (hm : mm ≤ 9223372036854775807) (hn0 : -9223372036854775808 ≤ n) (hn : n ≤ 9223372036854775807)
    (h2 : Reads w w.heap.size 5 A2 nr (recs cellV r)) (hnr : nr ≤ 9223372036854775807) :
    Calls Try.prog 12 #[.slice A mm c, .slice A2 nr c2, .int .i64 n] w (JoinPost (joinO (unpackO b 1 n) r) w) := by
  obtain rfl := h2.lenCell
  have P1 := Lib.hid (count_any (c := c) h h8 hm hn0 hn)
  have P2 := fun (W : World) (hW : New w W) => unpack_any (w := W) (c := c) 1 n (Reads.later h hW) h8 hm (by omega) (by omega) hn0 hn
  have HU := Lib.hid (fun (l : List Nat) (hh : unpackO b 1 n = some l) => unpack1 h8 hh)
  generalize unpackO b 1 n = U at *
  by_cases hc : cntN U = (r.length : Int)
  · cases U with
    | none => simp [cntN] at hc
    | some m =>
      have hs : m.sum = r.length := by simp [cntN] at hc; omega
      obtain ⟨_, q2, q3, q4⟩ := HU.out m rfl
      subst q2
      rw [joinO_eq hs]
      obtain ⟨J, hJ⟩ : ∃ J, J = joinL m r := ⟨_, rfl⟩
      rw [← hJ]
      have HJ := Lib.hid hJ
      have HS := Lib.hid hs
      have Q3 := Lib.hid q3
      have P2 := Lib.hid P2
      generalize cntN (some m) = cn at *
      subst hc
      clear HU hJ hs q3 hn0
      go_enter Try.func12, Try.ntmps12
      go_wp2_with fail
      refine P1.out.mono ?_
      rintro e w1 ⟨rfl, b1⟩
      have P2 := Lib.hid (P2.out w1 b1)
      go_wp2_with fail
      refine P2.out.mono ?_
      rintro e w2 ⟨A5, n5, c5, rfl, o5, b2⟩
      obtain rfl : n5 = m.length := by have := o5.len; rwa [nums_length] at this
      have b02 := New.trans b1 b2
      have o5 := Lib.hid (fun (W : World) (hW : New w2 W) => o5.later hW)
      have z2 := b02.size
      clear P1 P2 b1 b2
      go_wp2_with (refine wpList_mk5 elCell rfl (.tmp 26) (.tmp 26) rfl rfl (W := w2) (B := w2.heap.size) m.length rfl rfl rfl rfl (Below.refl _ _) (Nat.le_refl _) (by omega) (by simp only [maxLen]; omega) ?_
                   intro w3 u3 _ b3 s3)
      obtain ⟨gm, hgm⟩ : ∃ g, g = w2.heap.size := ⟨_, rfl⟩
      have HGM := Lib.hid hgm
      rw [← hgm] at u3 ⊢
      clear hgm
      go_loopw [11, 30] (fun a i wr => ∃ (k q : Nat) (pre : List CellS), i = .int .i64 (k : Int) ∧ a = .int .i64 (q : Int) ∧ k ≤ m.length ∧ pre.length = k ∧ Hid (q = (m.take k).sum) ∧
        wr.ownsRow gm 34 5 (.slice (some ⟨gm, 0, none⟩) m.length m.length) m.length (recs cellV (pre ++ List.replicate (m.length - k) (false, 0, [], 0, 0))) ∧ Hid (J = (joinL (m.drop k) (r.drop q)).map (pre ++ ·)) ∧ New w2 wr) (fun _ i _ => m.length - (intOf i).toNat)
      case atStart => exact ⟨0, 0, [], rfl, rfl, by omega, rfl, Lib.hid (by simp), by simpa [recs, List.flatMap_replicate, cellV, bstr] using u3, Lib.hid (by rw [HJ.out]; simp), b3⟩
      case round =>
        clear u3 b3 s3
        obtain ⟨k, q, pre, rfl, rfl, hk, hpre, HQ, u, HJJ, b3⟩ := hrel
        have b03 := New.trans b02 b3
        by_cases hlt : k < m.length
        · obtain ⟨ad, e5, _, c0⟩ := (o5.out wr b3).reads.num hlt
          subst e5
          have hy : m.getD k 0 < 2 := Q3.out _ (mem_getDC 0 hlt)
          have HSN := Lib.hid (sum_take hlt)
          have HSL := Lib.hid (sum_take_le (m := m) (k + 1))
          have JS := Lib.hid (joinL_step (r := r) (q := q) hlt)
          have JV := Lib.hid (fun (h0 : ¬ m.getD k 0 = 0) (hq : q < r.length) => joinL_val hlt h0 hq)
          have hrep : List.replicate (m.length - k) ((false, 0, [], 0, 0) : CellS) = (false, 0, [], 0, 0) :: List.replicate (m.length - (k + 1)) (false, 0, [], 0, 0) := by rw [show m.length - k = (m.length - (k + 1)) + 1 by omega]; rfl
          have hpl : (recs cellV pre).length = k * 5 := by rw [recs_length (sz := 5) (fun _ => rfl), hpre]
          rw [hrep, recs_append, recs_cons] at u
          have f0 := u.frozenAt (k * 5)
          have f1 := u.frozenAt (k * 5 + 1)
          have f2 := u.frozenAt (k * 5 + 2)
          have f3 := u.frozenAt (k * 5 + 3)
          have f4 := u.frozenAt (k * 5 + 4)
          have e0 := u.cellAt (k * 5) (by omega)
          have e1 := u.cellAt (k * 5 + 1) (by omega)
          have e2 := u.cellAt (k * 5 + 2) (by omega)
          have e3 := u.cellAt (k * 5 + 3) (by omega)
          have e4 := u.cellAt (k * 5 + 4) (by omega)
          rw [List.getElem?_append_right (by omega), hpl] at e0 e1 e2 e3 e4
          simp [cellV] at e0 e1 e2 e3 e4
          have HU := Lib.hid u
          have HPL := Lib.hid hpl
          have i1 : (k : Int) < (m.length : Int) := by omega
          have RR := Lib.hid (fun (hq : q < r.length) => (Reads.later h2 b03).cell5 hq)
          generalize m.getD k 0 = y at *
          clear u hrep hpl
          by_cases h0 : y = 0
          · subst h0
            have JS := JS.out
            rw [if_pos rfl] at JS
            have HJ2 := Lib.hid (show J = (joinL (m.drop (k + 1)) (r.drop q)).map ((pre ++ [nullC]) ++ ·) by
              rw [HJJ.out, JS, Option.map_map]; congr 1; funext z; simp)
            have HQ2 := Lib.hid (show q = (m.take (k + 1)).sum by rw [HSN.out, ← HQ.out]; rfl)
            clear JS JV HJJ HSN HSL HQ
            obtain ⟨W4, hW4, u4, g4⟩ := row_set5 (a := .bool true) (b := .int .i64 0) (d := .string (bstr [])) (f := .int .i64 0) (k := .int .i64 0) HU.out HPL.out
            have HW4 := Lib.hid (show W4 = ((((wr.setCell ⟨gm, k * 5, none⟩ (.bool true)).setCell ⟨gm, k * 5 + 1, none⟩ (.int .i64 0)).setCell ⟨gm, k * 5 + 2, none⟩ (.string ⟨#[]⟩)).setCell ⟨gm, k * 5 + 3, none⟩ (.int .i64 0)).setCell ⟨gm, k * 5 + 4, none⟩ (.int .i64 0) from hW4)
            have b4 : New w2 W4 := b3.grown g4 b3.size (fun k hk => by injection hk with hk; have := HGM.out; omega)
            clear hW4 HU RR
            go_wp2
            rw [← HW4.out]
            go_roundw
            case rel => exact ⟨k + 1, q, pre ++ [nullC], by go_num, rfl, by omega, by simp [hpre], HQ2, by rw [List.append_assoc, recs_append]; exact u4, HJ2, b4⟩
            case measure => simp [intOf]; omega
          · obtain rfl : y = 1 := by omega
            have hq : q < r.length := by have := HSN.out; have := HSL.out; have := HQ.out; have := HS.out; omega
            have JV := JV.out (by omega) hq
            obtain ⟨ad2, e6, _, d0, d1, d2, d3, d4⟩ := RR.out hq
            subst e6
            have HQ2 := Lib.hid (show q + 1 = (m.take (k + 1)).sum by rw [HSN.out, ← HQ.out])
            generalize r.getD q (false, 0, [], 0, 0) = x at *
            obtain ⟨xb, xn, xs, xx, xy⟩ := x
            simp only at d0 d1 d2 d3 d4 JV
            have i2 : (q : Int) < (r.length : Int) := by omega
            cases xb with
            | true =>
              have HJ2 := Lib.hid (show J = none by rw [HJJ.out, JV]; rfl)
              clear JV JS HJJ HU RR HSN HSL
              go_wp2
              go_ret2
              rw [HJ2.out]
              exact ⟨rfl, b03⟩
            | false =>
              have HJ2 := Lib.hid (show J = (joinL (m.drop (k + 1)) (r.drop (q + 1))).map ((pre ++ [(false, xn, xs, xx, xy)]) ++ ·) by
                rw [HJJ.out, JV, if_neg (by simp), Option.map_map]; congr 1; funext z; simp)
              clear JV JS HJJ HSN HSL HQ
              obtain ⟨W4, hW4, u4, g4⟩ := row_set5 (a := .bool false) (b := .int .i64 xn) (d := .string (bstr xs)) (f := .int .i64 xx) (k := .int .i64 xy) HU.out HPL.out
              have HW4 := Lib.hid hW4
              have b4 : New w2 W4 := b3.grown g4 b3.size (fun k hk => by injection hk with hk; have := HGM.out; omega)
              clear hW4 HU RR
              go_wp2
              rw [← HW4.out]
              go_roundw
              case rel => exact ⟨k + 1, q + 1, pre ++ [(false, xn, xs, xx, xy)], by go_num, by go_num, by omega, by simp [hpre], HQ2, by rw [List.append_assoc, recs_append]; exact u4, HJ2, b4⟩
              case measure => simp [intOf]; omega
        · obtain rfl : k = m.length := by omega
          rw [Nat.sub_self, List.replicate_zero, List.append_nil] at u
          have HJ2 := Lib.hid (show J = some pre by rw [HJJ.out, joinL_end]; simp)
          have HP := Lib.hid hpre
          clear HJJ HQ hlt hpre
          go_wp2
          go_ret2
          rw [HJ2.out]
          refine ⟨some ⟨gm, 0, none⟩, m.length, by rw [HP.out]; rfl, ?_, b03⟩
          rw [HP.out]
          exact row_base u (by have := HGM.out; omega)
  · rw [joinO_no hc]
    generalize cntN U = cn at *
    have e1 : (cn != (r.length : Int)) = true := by simpa using hc
    clear hc HU P2
    go_enter Try.func12, Try.ntmps12
    go_wp2_with fail
    refine P1.out.mono ?_
    rintro e w1 ⟨rfl, b1⟩
    go_wp2
    go_ret2
    exact ⟨rfl, b1⟩

end Go.Proofs.Ytgjllfcnbkennaa
