/- Contracts on rows of points: point.Walk, point.Steps. -/
import Derived.Test.YtbphmcinbckgbaaPtR
import Derived.Test.YtbphmcinbckgbaaCell
import Derived.Test.YtbphmcinbckgbaaRow

namespace Go.Hm
open Go Go.RowKit
/-- Where steps lead, if all that are met are right. -/
def walkP : Int × Int → List (Int × Int) → Option (List (Int × Int))
  | _, [] => some []
  | h, s :: r => if nearB s.1 s.2 && inBox (h.1 + s.1) (h.2 + s.2) then (walkP (h.1 + s.1, h.2 + s.2) r).map ((h.1 + s.1, h.2 + s.2) :: ·) else none
/-- The steps of right points. -/
def stepsP : Int × Int → List (Int × Int) → Option (List (Int × Int))
  | _, [] => some []
  | h, p :: r => if inBox p.1 p.2 then (stepsP p r).map ((p.1 - h.1, p.2 - h.2) :: ·) else none
theorem inBox_iff {x y : Int} : inBox x y = true ↔ (-1048576 ≤ x ∧ x ≤ 1048576) ∧ (-1048576 ≤ y ∧ y ≤ 1048576) := by
  simp [inBox]
  omega
theorem pairs_snoc2 (l : List (Int × Int)) (p : Int × Int) : pairs (l ++ [p]) = pairs l ++ [.int .i64 p.1, .int .i64 p.2] := by simp [pairs]
theorem walk_step {h : Int × Int} {l : List (Int × Int)} {k : Nat} (hk : k < l.length) :
    walkP h (l.drop k) = if nearB (l.getD k (0, 0)).1 (l.getD k (0, 0)).2 && inBox (h.1 + (l.getD k (0, 0)).1) (h.2 + (l.getD k (0, 0)).2) then (walkP (h.1 + (l.getD k (0, 0)).1, h.2 + (l.getD k (0, 0)).2) (l.drop (k + 1))).map ((h.1 + (l.getD k (0, 0)).1, h.2 + (l.getD k (0, 0)).2) :: ·) else none := by
  rw [drop_cons_getD l k (0, 0) hk, walkP]
theorem steps_step {h : Int × Int} {l : List (Int × Int)} {k : Nat} (hk : k < l.length) :
    stepsP h (l.drop k) = if inBox (l.getD k (0, 0)).1 (l.getD k (0, 0)).2 then (stepsP (l.getD k (0, 0)) (l.drop (k + 1))).map (((l.getD k (0, 0)).1 - h.1, (l.getD k (0, 0)).2 - h.2) :: ·) else none := by
  rw [drop_cons_getD l k (0, 0) hk, stepsP]
theorem map_cons_acc {α : Type} {o : Option (List α)} {x : α} {acc : List α} : (o.map (x :: ·)).map (acc ++ ·) = o.map ((acc ++ [x]) ++ ·) := by
  cases o <;> simp

section
variable {P : Program} {ops : Array Oper} {rest : List Oper} {o : Oper} {a : Act} {Q : Exit → Act → World → Prop}
/-- make([]T, 0, n), whatever T's size. -/
theorem wpList_mkE {w : World} {t e : TypeId} {z : Value} {sz bytes : Nat} (E : ElT P t e z sz bytes) (hgd : o.guard = none) (lo co : Operand) (ho : o.op = Op.makeSlice t lo co)
    {W : World} {B : Nat} {kl kc : IntKind} {L C : Int} (n : Nat) (hl : a.eval lo = .int kl L) (hc : a.eval co = .int kc C) (hL : L = 0) (hC : C = (n : Int)) (hb : Below B W w) (hbase : B ≤ w.heap.size)
    (hn : n * bytes ≤ 140737488355328) (hm : n ≤ maxLen)
    (h : ∀ w', w'.ownsRow w.heap.size e sz (.slice (some ⟨w.heap.size, 0, none⟩) 0 n) 0 [] → w.grownBy w' none → Below B W w' → w'.heap.size = w.heap.size + 1 → wpList P ops Q rest (a.put o.dst (.slice (some ⟨w.heap.size, 0, none⟩) 0 n)) w') :
    wpList P ops Q (o :: rest) a w := by
  obtain ⟨i, hi, hz0, hs1, hb1⟩ := info_parts E.hi
  subst hL hC
  have hmC : (n : Int) ≤ 9223372036854775807 := by have h := hm; simp only [maxLen] at h; omega
  have hbC : (i.bytes : Int) * (n : Int) ≤ 281474976710656 := by
    have h : ((i.bytes * n : Nat) : Int) ≤ 281474976710656 := by rw [hb1, Nat.mul_comm]; omega
    rwa [Int.natCast_mul] at h
  have hrun := run_make (P := P) w t e i z E.ht hi hz0 kl kc 0 (n : Int) (by omega) (by omega) hbC hmC
  rw [Int.toNat_natCast, hs1] at hrun
  refine wpList_plain hgd fun K hK => ?_
  unfold Oper.wp
  simp [execOp, ho, hl, hc, hrun, Result.andThen]
  refine hK _ _ (h _ ?_ (World.grownBy_alloc _ _ _) (hb.alloc hbase _) (by simp))
  exact ⟨by simp, .inr ⟨_, n, _, rfl, Nat.le_refl _, heap_alloc_new w _, Nat.zero_le _, hm, by simp [size_madeCells], by simp⟩⟩
end

end Go.Hm

namespace Go.Proofs.Ytbphmcinbckgbaa
open Go.RowKit Go.Hm
theorem elPt : ElT Try.prog 34 23 (.agg #[.int .i64 0, .int .i64 0]) 2 16 := ⟨by kernel_rfl, by kernel_rfl, rfl, by omega⟩
/-- Points and true, or none and false. -/
def PtsPost (o : Option (List (Int × Int))) (w : World) (e : Ending) (w' : World) : Prop :=
  ∃ A n c, e = .returned (.tuple #[.slice A n c, .bool o.isSome]) ∧ w'.ownsRow w.heap.size 23 2 (.slice A n c) n (pairs (o.getD [])) ∧ New w w'
/-- Points, or none. -/
def PtPost (o : Option (List (Int × Int))) (w : World) (e : Ending) (w' : World) : Prop :=
  ∃ A n c, e = .returned (.slice A n c) ∧ w'.ownsRow w.heap.size 23 2 (.slice A n c) n (pairs (o.getD [])) ∧ New w w'
set_option maxHeartbeats 4000000 in
set_option maxRecDepth 100000 in
theorem pwalk_any {w : World} {A : Option Addr} {n c : Nat} {l : List (Int × Int)} (h : Reads w w.heap.size 2 A n (pairs l)) (hn : n ≤ 1000000) :
    Calls Try.prog 22 #[.slice A n c] w (PtsPost (walkP (0, 0) l) w) := by
  obtain rfl := h.lenP
  have Z := Lib.hid (show ∀ z, (walkP (0, 0) (l.drop 0)).map ([] ++ ·) = z → walkP (0, 0) l = z by
    intro z hz
    rw [← hz]
    cases hw : walkP (0, 0) l <;> simp [hw])
  generalize walkP (0, 0) l = O at *
  go_enter Try.func22, Try.ntmps22
  go_wp2_with (refine wpList_mkE elPt rfl _ _ rfl (W := w) (B := w.heap.size) l.length rfl rfl rfl rfl (Below.refl _ _) (Nat.le_refl _) (by omega) (by simp only [maxLen]; omega) ?_; intro w1 o1 g1 b1 z1)
  obtain ⟨W2, hW2⟩ : ∃ W, W = w1.alloc (.cells #[.int .i64 0, .int .i64 0] 23) := ⟨_, rfl⟩
  have B2 : Blk W2 (w.heap.size + 1) 23 #[.int .i64 0, .int .i64 0] := by rw [hW2, ← z1]; exact Blk.new _ _ _
  have b2 : New w W2 := by rw [hW2]; exact b1.alloc (by omega) _
  have o2 : W2.ownsRow w.heap.size 23 2 (.slice (some ⟨w.heap.size, 0, none⟩) 0 l.length) 0 (pairs []) := by rw [hW2]; exact World.ownsRow.alloc o1 _
  have HB2 := Lib.hid B2
  have HR := Lib.hid h
  have Z2 := Lib.hid z1
  rw [z1] at *
  have HW2 := Lib.hid hW2
  clear hW2 B2 h o1 g1 b1 z1
  go_wp2
  rw [← HW2.out]
  go_loopw [4, 13] (fun v i wr => ∃ (k : Nat) (A : Option Addr) (c : Nat) (acc : List (Int × Int)) (hx hy : Int), k ≤ l.length ∧ i = .int .i64 (k : Int) ∧ v = .slice A k c ∧ Hid (wr.ownsRow w.heap.size 23 2 (.slice A k c) k (pairs acc)) ∧ Hid ((Value.slice A k c).ownBlock ≠ some (w.heap.size + 1)) ∧ Hid (Blk wr (w.heap.size + 1) 23 #[.int .i64 hx, .int .i64 hy]) ∧ New w wr ∧ Hid (inBox hx hy = true) ∧ Hid ((walkP (hx, hy) (l.drop k)).map (acc ++ ·) = O)) (fun _ i _ => l.length - (intOf i).toNat)
  case atStart => exact ⟨0, _, _, [], 0, 0, by omega, rfl, rfl, Lib.hid o2, Lib.hid (by simp [Value.ownBlock]), HB2, b2, Lib.hid rfl, Lib.hid (Z.out _ rfl).symm⟩
  case round =>
    obtain ⟨k, A1, c1, acc, hx, hy, hk, rfl, rfl, o, N, B, b, I, E⟩ := hrel
    by_cases hlt : k < l.length
    · have hst := walk_step (h := (hx, hy)) hlt
      have E2 := Lib.hid (E.out.symm.trans (congrArg (fun z => z.map (acc ++ ·)) hst))
      obtain ⟨ad, rfl, hbk, x0, x1⟩ := (Reads.later HR.out b).pair2 hlt
      generalize (l.getD k (0, 0)).1 = x at *
      generalize (l.getD k (0, 0)).2 = y at *
      obtain ⟨W3, hW3⟩ : ∃ W, W = wr.alloc (.cells #[.int .i64 x, .int .i64 y] 23) := ⟨_, rfl⟩
      have b3 : New wr W3 := by rw [hW3]; exact (Below.refl _ _).alloc (Nat.le_refl _) _
      have T3 : Blk W3 wr.heap.size 23 #[.int .i64 x, .int .i64 y] := by rw [hW3]; exact Blk.new _ _ _
      have B3 := B.out.below b3 B.out.lt
      have F3 := Lib.hid (fun (W : World) (hW : New W3 W) => And.intro (cells2 (T3.below hW T3.lt)) (cells2 (B3.below hW B3.lt)))
      obtain ⟨⟨t0, t1⟩, y0, y1⟩ := F3.out W3 (New.refl _)
      have HW3 := Lib.hid hW3
      have HT3 := Lib.hid T3
      have HB3 := Lib.hid B3
      have WT := Lib.hid (fun W : World => within2_any (w := W) x y)
      rw [hW3] at t0 t1 y0 y1
      clear hst hW3 T3 B3
      go_wp2_with fail
      rw [← HW3.out]
      (with_reducible refine (WT.out _).mono ?_)
      rintro e w4 ⟨rfl, b4⟩
      clear x0 x1 t0 t1 y0 y1 WT HW3
      obtain ⟨⟨t0, t1⟩, y0, y1⟩ := F3.out w4 b4
      cases hnb : nearB x y with
      | false =>
        have hO : O = none := by rw [E2.out, hnb]; simp
        have HO := Lib.hid hO
        have bE := New.trans b (New.trans b3 b4)
        clear hO hnb
        go_wp2
        go_ret2
        exact ⟨_, _, _, by rw [HO.out]; rfl, by rw [HO.out]; exact row_nil, bE⟩
      | true =>
        have nb := nearB_iff.1 hnb
        have ib := inBox_iff.1 I.out
        have PA := Lib.hid (fun W : World => padd_any (w := W) (x := hx) (y := hy) (u := x) (v := y) (by omega) (by omega) (by omega) (by omega))
        rw [hnb] at E2
        have HNB := Lib.hid hnb
        clear nb ib hnb
        go_wp2_with fail
        (with_reducible refine (PA.out _).mono ?_)
        rintro e w5 ⟨rfl, b5⟩
        have b35 := New.trans b4 b5
        clear t0 t1 y0 y1 PA
        generalize hx + x = px at *
        generalize hy + y = py at *
        have T5 := HT3.out.below b35 HT3.out.lt
        have B5 := HB3.out.below b35 HB3.out.lt
        obtain ⟨y0, y1⟩ := cells2 B5
        have f0 := B5.frozen 0
        have f1 := B5.frozen 1
        obtain ⟨W6, hW6⟩ : ∃ W, W = ((w5.setCell ⟨w.heap.size + 1, 0, none⟩ (.int .i64 px)).setCell ⟨w.heap.size + 1, 1, none⟩ (.int .i64 py)) := ⟨_, rfl⟩
        have B6 : Blk W6 (w.heap.size + 1) 23 #[.int .i64 px, .int .i64 py] := by rw [hW6]; exact store2 B5
        have g6 : Far (w.heap.size + 1) w5 W6 := by rw [hW6]; exact far_set2 _ _ _
        have hle : w.heap.size + 1 < wr.heap.size := B.out.lt
        have T6 := T5.grown g6 (by simp; omega)
        have o5 := row_later o.out (New.trans b3 b35)
        have o6 := World.ownsRow.kept o5 g6 (.inr N.out)
        have b6 : New w W6 := (New.trans b (New.trans b3 b35)).grown g6 (by have := b.size; have := (New.trans b3 b35).size; omega) (fun k hk => by injection hk with hk; omega)
        have HB6 := Lib.hid B6
        have HT6 := Lib.hid T6
        have HO6 := Lib.hid o6
        have HW6 := Lib.hid hW6
        have z6 := g6.size
        have z35 := (New.trans b3 b35).size
        clear T5 B5 hW6 B6 g6 T6 o5 o6 b35 b3 b4 b5 HT3 HB3
        have PR := Lib.hid (fun W : World => pright_any (w := W) px py)
        obtain ⟨q0, q1⟩ := cells2 HB6.out
        rw [HW6.out] at q0 q1
        go_wp2_with fail
        rw [← HW6.out]
        (with_reducible refine (PR.out _).mono ?_)
        rintro e w7 ⟨rfl, b7⟩
        clear y0 y1 f0 f1 q0 q1 PR HW6
        have o7 := row_later HO6.out b7
        have B7 := HB6.out.below b7 HB6.out.lt
        obtain ⟨q0, q1⟩ := cells2 B7
        have b07 := New.trans b6 b7
        cases hnb : inBox px py with
        | false =>
          have hO : O = none := by rw [E2.out, hnb]; simp
          have HO := Lib.hid hO
          clear hO hnb
          go_wp2
          go_ret2
          exact ⟨_, _, _, by rw [HO.out]; rfl, by rw [HO.out]; exact row_nil, b07⟩
        | true =>
          have E3 := Lib.hid (show (walkP (px, py) (l.drop (k + 1))).map ((acc ++ [(px, py)]) ++ ·) = O by rw [E2.out, hnb, ← map_cons_acc]; simp)
          have HI := Lib.hid hnb
          have z0 := b07.size
          have HB7 := Lib.hid B7
          have hz7 : w.heap.size + 1 < w7.heap.size := by have := b7.size; omega
          clear hnb E2 E B7
          go_wp2_with (refine wpList_pushR elPt rfl (.tmp 26) (.tmp 28) rfl (W := w) (B := w.heap.size) (base := w.heap.size) (n := k) o7 rfl rfl b07 (Nat.le_refl _) z0 rfl (by simp [Value.oneCell']) (by omega) (by simp only [maxLen]; omega) ?_
                       intro A' c' w8 _ _ o' g' b' hsz hat)
          have N8 : (Value.slice A' (k + 1) c').ownBlock ≠ some (w.heap.size + 1) := by
            rcases hat with e1 | ⟨gg, e1, e2⟩
            · rw [e1]; exact N.out
            · rw [e1]; simp; omega
          have B8 := HB7.out.grown g' (fun e => N.out e.symm)
          go_roundw
          case rel => exact ⟨k + 1, A', c', acc ++ [(px, py)], px, py, by omega, by go_num, rfl, Lib.hid (by rw [pairs_snoc2]; exact o'), Lib.hid N8, Lib.hid B8, b', HI, E3⟩
          case measure => simp [intOf]; omega
    · obtain rfl : k = l.length := by omega
      have HO := Lib.hid (show O = some acc by rw [← E.out, List.drop_length, walkP]; simp)
      clear E
      go_wp2
      go_ret2
      exact ⟨_, _, _, by rw [HO.out]; rfl, by rw [HO.out]; exact o.out, b⟩
set_option maxHeartbeats 4000000 in
set_option maxRecDepth 100000 in
theorem psteps_any {w : World} {A : Option Addr} {n c : Nat} {l : List (Int × Int)} (h : Reads w w.heap.size 2 A n (pairs l)) (hn : n ≤ 1000000) :
    Calls Try.prog 23 #[.slice A n c] w (PtPost (stepsP (0, 0) l) w) := by
  obtain rfl := h.lenP
  have Z := Lib.hid (show ∀ z, (stepsP (0, 0) (l.drop 0)).map ([] ++ ·) = z → stepsP (0, 0) l = z by
    intro z hz
    rw [← hz]
    cases hw : stepsP (0, 0) l <;> simp [hw])
  generalize stepsP (0, 0) l = O at *
  go_enter Try.func23, Try.ntmps23
  go_wp2_with (refine wpList_mkE elPt rfl _ _ rfl (W := w) (B := w.heap.size) l.length rfl rfl rfl rfl (Below.refl _ _) (Nat.le_refl _) (by omega) (by simp only [maxLen]; omega) ?_; intro w1 o1 g1 b1 z1)
  obtain ⟨W2, hW2⟩ : ∃ W, W = w1.alloc (.cells #[.int .i64 0, .int .i64 0] 23) := ⟨_, rfl⟩
  have B2 : Blk W2 (w.heap.size + 1) 23 #[.int .i64 0, .int .i64 0] := by rw [hW2, ← z1]; exact Blk.new _ _ _
  have b2 : New w W2 := by rw [hW2]; exact b1.alloc (by omega) _
  have o2 : W2.ownsRow w.heap.size 23 2 (.slice (some ⟨w.heap.size, 0, none⟩) 0 l.length) 0 (pairs []) := by rw [hW2]; exact World.ownsRow.alloc o1 _
  have HB2 := Lib.hid B2
  have HR := Lib.hid h
  have Z2 := Lib.hid z1
  rw [z1] at *
  have HW2 := Lib.hid hW2
  clear hW2 B2 h o1 g1 b1 z1
  go_wp2
  rw [← HW2.out]
  go_loopw [3, 12] (fun v i wr => ∃ (k : Nat) (A : Option Addr) (c : Nat) (acc : List (Int × Int)) (hx hy : Int), k ≤ l.length ∧ i = .int .i64 (k : Int) ∧ v = .slice A k c ∧ Hid (wr.ownsRow w.heap.size 23 2 (.slice A k c) k (pairs acc)) ∧ Hid ((Value.slice A k c).ownBlock ≠ some (w.heap.size + 1)) ∧ Hid (Blk wr (w.heap.size + 1) 23 #[.int .i64 hx, .int .i64 hy]) ∧ New w wr ∧ Hid (inBox hx hy = true) ∧ Hid ((stepsP (hx, hy) (l.drop k)).map (acc ++ ·) = O)) (fun _ i _ => l.length - (intOf i).toNat)
  case atStart => exact ⟨0, _, _, [], 0, 0, by omega, rfl, rfl, Lib.hid o2, Lib.hid (by simp [Value.ownBlock]), HB2, b2, Lib.hid rfl, Lib.hid (Z.out _ rfl).symm⟩
  case round =>
    obtain ⟨k, A1, c1, acc, hx, hy, hk, rfl, rfl, o, N, B, b, I, E⟩ := hrel
    by_cases hlt : k < l.length
    · have hst := steps_step (h := (hx, hy)) hlt
      have E2 := Lib.hid (E.out.symm.trans (congrArg (fun z => z.map (acc ++ ·)) hst))
      obtain ⟨ad, rfl, hbk, x0, x1⟩ := (Reads.later HR.out b).pair2 hlt
      have hpp : l.getD k (0, 0) = ((l.getD k (0, 0)).1, (l.getD k (0, 0)).2) := rfl
      rw [hpp] at E2
      generalize (l.getD k (0, 0)).1 = x at *
      generalize (l.getD k (0, 0)).2 = y at *
      obtain ⟨W3, hW3⟩ : ∃ W, W = wr.alloc (.cells #[.int .i64 x, .int .i64 y] 23) := ⟨_, rfl⟩
      have b3 : New wr W3 := by rw [hW3]; exact (Below.refl _ _).alloc (Nat.le_refl _) _
      have T3 : Blk W3 wr.heap.size 23 #[.int .i64 x, .int .i64 y] := by rw [hW3]; exact Blk.new _ _ _
      have B3 := B.out.below b3 B.out.lt
      have F3 := Lib.hid (fun (W : World) (hW : New W3 W) => And.intro (cells2 (T3.below hW T3.lt)) (cells2 (B3.below hW B3.lt)))
      obtain ⟨⟨t0, t1⟩, y0, y1⟩ := F3.out W3 (New.refl _)
      have HW3 := Lib.hid hW3
      have HT3 := Lib.hid T3
      have HB3 := Lib.hid B3
      have WT := Lib.hid (fun W : World => pright_any (w := W) x y)
      rw [hW3] at t0 t1 y0 y1
      clear hst hW3 T3 B3 hpp
      go_wp2_with fail
      rw [← HW3.out]
      (with_reducible refine (WT.out _).mono ?_)
      rintro e w4 ⟨rfl, b4⟩
      clear x0 x1 t0 t1 y0 y1 WT HW3
      obtain ⟨⟨t0, t1⟩, y0, y1⟩ := F3.out w4 b4
      cases hnb : inBox x y with
      | false =>
        have hO : O = none := by rw [E2.out, hnb]; simp
        have HO := Lib.hid hO
        have bE := New.trans b (New.trans b3 b4)
        clear hO hnb
        go_wp2
        go_ret
        exact ⟨_, _, _, rfl, by rw [HO.out]; exact row_nil, bE⟩
      | true =>
        have nb := inBox_iff.1 hnb
        have ib := inBox_iff.1 I.out
        have PA := Lib.hid (fun W : World => psub_any (w := W) (x := x) (y := y) (u := hx) (v := hy) (by omega) (by omega) (by omega) (by omega))
        have HNB := Lib.hid hnb
        have E3 := Lib.hid (show (stepsP (x, y) (l.drop (k + 1))).map ((acc ++ [(x - hx, y - hy)]) ++ ·) = O by rw [E2.out, hnb, ← map_cons_acc]; simp)
        clear nb ib hnb E2 E
        go_wp2_with fail
        (with_reducible refine (PA.out _).mono ?_)
        rintro e w5 ⟨rfl, b5⟩
        have b35 := New.trans b4 b5
        clear t0 t1 y0 y1 PA
        generalize x - hx = px at *
        generalize y - hy = py at *
        have o5 := row_later o.out (New.trans b3 b35)
        have b05 := New.trans b (New.trans b3 b35)
        have z0 := b05.size
        have hle : w.heap.size + 1 < wr.heap.size := B.out.lt
        have hz5 : wr.heap.size < w5.heap.size := by have := HT3.out.lt; have := b35.size; omega
        obtain ⟨W6, hW6⟩ : ∃ W, W = w5.alloc (.cells #[.int .i64 px, .int .i64 py] 23) := ⟨_, rfl⟩
        have T5 := HT3.out.below b35 HT3.out.lt
        have B5 := HB3.out.below b35 HB3.out.lt
        have HT5 := Lib.hid T5
        have HB5 := Lib.hid B5
        clear T5 B5 hW6
        have NT : (Value.slice A1 k c1).ownBlock ≠ some wr.heap.size := by
          intro e
          have := (World.ownsRow.lt o.out _ e).2
          omega
        have FT := Lib.hid (fun (W : World) (hW : w5.grownBy W (Value.slice A1 k c1).ownBlock) => And.intro (HT5.out.grown hW (fun e => NT e.symm)) (HB5.out.grown hW (fun e => N.out e.symm)))
        clear NT
        go_wp2_with (refine wpList_pushR elPt rfl (.tmp 19) (.tmp 23) rfl (W := w) (B := w.heap.size) (base := w.heap.size) (n := k) o5 rfl rfl b05 (Nat.le_refl _) z0 rfl (by simp [Value.oneCell']) (by omega) (by simp only [maxLen]; omega) ?_
                     intro A' c' w8 _ _ o' g' b' hsz hat
                     obtain ⟨t0, t1⟩ := cells2 (FT.out w8 g').1
                     obtain ⟨y0, y1⟩ := cells2 (FT.out w8 g').2
                     have f0 := (FT.out w8 g').2.frozen 0
                     have f1 := (FT.out w8 g').2.frozen 1)
        have N8 : (Value.slice A' (k + 1) c').ownBlock ≠ some (w.heap.size + 1) := by
          rcases hat with e1 | ⟨gg, e1, e2⟩
          · rw [e1]; exact N.out
          · rw [e1]; simp; omega
        have g6 := far_set2 (g := w.heap.size + 1) (.int .i64 x) (.int .i64 y) w8
        have o9 := World.ownsRow.kept o' g6 (.inr N8)
        have B9 := store2 (FT.out w8 g').2 (a := .int .i64 x) (b := .int .i64 y)
        have b9 := New.far b' g6 (by omega)
        go_roundw
        case rel => exact ⟨k + 1, A', c', acc ++ [(px, py)], x, y, by omega, by go_num, rfl, Lib.hid (by rw [pairs_snoc2]; exact o9), Lib.hid N8, Lib.hid B9, b9, HNB, E3⟩
        case measure => simp [intOf]; omega
    · obtain rfl : k = l.length := by omega
      have HO := Lib.hid (show O = some acc by rw [← E.out, List.drop_length, stepsP]; simp)
      clear E
      go_wp2
      go_ret
      exact ⟨_, _, _, rfl, by rw [HO.out]; exact o.out, b⟩

end Go.Proofs.Ytbphmcinbckgbaa
