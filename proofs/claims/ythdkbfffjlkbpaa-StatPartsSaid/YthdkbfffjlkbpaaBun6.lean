/- Texts merged, for a claim has at most 60 files: StaF, Rec, OpenCl, CellE, Law15. -/
import Derived.Outline
import Derived.Test.YthdkbfffjlkbpaaBun1
import Derived.Test.YthdkbfffjlkbpaaBun2
import Derived.Test.YthdkbfffjlkbpaaBun5
/- The contracts of law15.Cells and law08.Few. -/

namespace Go.Hm
open Go Go.RowKit
def cellsB (t : Int) (l : List CellS) : Bool := (l.all fun c => rightB c t true) && (decide (0 ≤ t) && decide (t ≤ 3))
theorem cellsB_iff {t : Int} {l : List CellS} : cellsB t l = true ↔ (∀ c ∈ l, rightB c t true = true) ∧ 0 ≤ t ∧ t ≤ 3 := by
  unfold cellsB
  simp

end Go.Hm

namespace Go.Proofs.Ythdkbfffjlkbpaa
open Go.RowKit Go.Hm
set_option maxHeartbeats 2000000 in
set_option maxRecDepth 100000 in
theorem cells_any {w : World} {t : Int} {A : Option Addr} {n c : Nat} {L : List CellS} (h : Reads w w.heap.size 5 A n (recs cellV L)) (hL : ∀ y ∈ L, y.2.2.1.length ≤ 140737488351232) (hn : n ≤ 4611686018427387903) :
    Calls Try.prog 11 #[.int .i64 t, .slice A n c] w (NewPost (.bool (cellsB t L)) w) := by
  obtain rfl := h.lenCell
  have HR := Lib.hid h
  have HL := Lib.hid hL
  clear h hL
  obtain ⟨M, hM⟩ : ∃ M, M = cellsB t L := ⟨_, rfl⟩
  rw [← hM]
  have HM := Lib.hid hM
  clear hM
  go_enter Try.func11, Try.ntmps11
  go_wp2_with fail
  go_loopw [5] (fun i wr => ∃ k : Nat, k ≤ L.length ∧ i = .int .i64 (k : Int) ∧ New w wr ∧ Hid (∀ c ∈ L.take k, rightB c t true = true)) (fun i _ => L.length - (intOf i).toNat)
  case atStart => exact ⟨0, Nat.zero_le _, rfl, New.refl _, Lib.hid (by simp)⟩
  case round =>
    obtain ⟨k, hk, rfl, hW, hr⟩ := hrel
    by_cases hlt : k < L.length
    · obtain ⟨ad, rfl, hb, d0, d1, d2, d3, d4⟩ := (Reads.later HR.out hW).cell5 hlt
      have htk := take_snoc L k (false, 0, [], 0, 0) hlt
      have hmem : L.getD k (false, 0, [], 0, 0) ∈ L := by rw [List.getD_eq_getElem?_getD, List.getElem?_eq_getElem hlt]; exact List.getElem_mem hlt
      have hy := HL.out _ hmem
      have R1 := fun (W : World) => rcright_any (w := W) (b := (L.getD k (false, 0, [], 0, 0)).1) (n := (L.getD k (false, 0, [], 0, 0)).2.1) (s := (L.getD k (false, 0, [], 0, 0)).2.2.1) (x := (L.getD k (false, 0, [], 0, 0)).2.2.2.1) (y := (L.getD k (false, 0, [], 0, 0)).2.2.2.2) (cn := []) (t := t) (nu := true) hy
      have hno : rightB (L.getD k (false, 0, [], 0, 0)) t true = false → M = false := fun e => by
        rw [HM.out]
        refine Bool.eq_false_iff.2 fun e2 => ?_
        have := (cellsB_iff.1 e2).1 _ hmem
        rw [e] at this
        cases this
      have hyes : rightB (L.getD k (false, 0, [], 0, 0)) t true = true → ∀ c ∈ L.take (k + 1), rightB c t true = true := fun e c hc => by
        rw [htk] at hc
        rcases List.mem_append.1 hc with hc | hc
        · exact hr.out c hc
        · rw [List.mem_singleton.1 hc]; exact e
      clear htk hmem hy hr
      generalize L.getD k (false, 0, [], 0, 0) = y at *
      obtain ⟨y0, y1, y2, y3, y4⟩ := y
      dsimp only at R1 d0 d1 d2 d3 d4
      generalize rightB (y0, y1, y2, y3, y4) t true = m at *
      have R1 : Hid (∀ W, Calls Try.prog 28 #[.agg #[.bool y0, .int .i64 y1, .string (bstr y2), .int .i64 y3, .int .i64 y4], .agg #[.string ⟨#[]⟩, .int .i64 t, .bool true]] W (NewPost (.bool m) W)) := Lib.hid R1
      have hno := Lib.hid hno
      have hyes := Lib.hid hyes
      go_wp2_with fail
      refine (R1.out _).mono ?_
      rintro e w1 ⟨rfl, b1⟩
      have hl := New.trans hW b1
      cases m with
      | false =>
        have hm := hno.out (by trivial)
        have HM2 := Lib.hid hm
        clear hno hyes hm
        go_wp2_with fail
        go_ret
        exact ⟨by rw [HM2.out]; rfl, hl⟩
      | true =>
        have hy2 := hyes.out (by trivial)
        have HY2 := Lib.hid hy2
        clear hno hyes hy2
        go_wp2_with fail
        go_roundw
        case rel => exact ⟨k + 1, by omega, by go_num, hl, HY2⟩
        case measure => simp [intOf]; omega
    · obtain rfl : k = L.length := by omega
      have hr2 := hr.out
      rw [List.take_length] at hr2
      have HM2 : Hid (M = (decide (0 ≤ t) && decide (t ≤ 3))) := Lib.hid (by
        rw [HM.out]
        unfold cellsB
        rw [List.all_eq_true.2 hr2, Bool.true_and])
      clear hr hr2
      by_cases h0 : 0 ≤ t
      · have d0 : decide (0 ≤ t) = true := decide_eq_true h0
        go_wp2_with fail
        go_ret
        exact ⟨by rw [HM2.out, d0]; rfl, hW⟩
      · have d0 : decide (0 ≤ t) = false := decide_eq_false h0
        have H0 := Lib.hid d0
        go_wp2_with fail
        go_ret
        exact ⟨by rw [HM2.out, H0.out]; rfl, hW⟩
/-- Whether cells are few; nothing at all is turned. -/
def FewP (l : List CellS) (w : World) (e : Ending) (w' : World) : Prop := ∃ b, e = .returned (.bool b) ∧ (b = true → l.length ≤ 300) ∧ w = w'
set_option maxHeartbeats 1000000 in
set_option maxRecDepth 100000 in
theorem fewP_any {w : World} {A : Option Addr} {n c : Nat} {l : List CellS} (h : Reads w w.heap.size 5 A n (recs cellV l)) (hL : ∀ y ∈ l, y.2.2.1.length ≤ 140737488351232) (hn : n ≤ 4611686018427387903) :
    Calls Try.prog 10 #[.slice A n c] w (FewP l w) := by
  obtain rfl := h.lenCell
  go_enter Try.func10, Try.ntmps10
  go_wp2
  go_loopw [3, 4] (fun v i wr => ∃ (k : Nat) (x : Int), i = .int .i64 (k : Int) ∧ v = .int .i64 x ∧ k ≤ l.length ∧ w = wr) (fun _ i _ => l.length - (intOf i).toNat)
  case atStart => exact ⟨0, 0, rfl, rfl, by omega, rfl⟩
  case round =>
    obtain ⟨k, x, rfl, rfl, hk, rfl⟩ := hrel
    by_cases hlt : k < l.length
    · obtain ⟨ad, rfl, hbk, d0, d1, d2, d3, d4⟩ := h.cell5 hlt
      have hx := hL (l.getD k (false, 0, [], 0, 0)) (by rw [List.getD_eq_getElem?_getD, List.getElem?_eq_getElem hlt]; exact List.getElem_mem hlt)
      generalize (l.getD k (false, 0, [], 0, 0)).2.2.1 = s2 at *
      have zs := bstr_size s2
      have hiz : (k : Int) < (l.length : Int) := by omega
      generalize hy : IntKind.i64.wrap (x + (s2.length : Int)) = y
      clear d0 d1 d3 d4
      go_wp2
      go_roundw
      case rel => exact ⟨k + 1, _, by go_num, rfl, by omega, trivial⟩
      case measure => simp [intOf]; omega
    · obtain rfl : k = l.length := by omega
      by_cases h3 : l.length ≤ 300
      · have t1 : decide ((l.length : Int) ≤ 300) = true := by simp; omega
        go_wp2
        go_ret
        exact ⟨_, rfl, fun _ => h3, rfl⟩
      · have t1 : decide ((l.length : Int) ≤ 300) = false := by simp; omega
        go_wp2
        go_ret
        exact ⟨_, rfl, fun hh => by simp at hh, rfl⟩

end Go.Proofs.Ythdkbfffjlkbpaa
/- Structs that came in, part by part. No program is named here. -/

namespace Go.Hm
open Go Go.RowKit Go.WideShapes Go.ChangeShapes Go.Deep

section
variable {H : Type} {enc : TypeId × Value → H} {P : Program} {W : World} {t e : TypeId} {cs : List Value} {n : Nat}
def fieldsOf (P : Program) (t : TypeId) : Array Field := match P.underlying t with | some (.struct fs) => fs | _ => #[]
theorem Held.part (h : Held enc P W t cs) (hs : P.underlying t = some (.struct (fieldsOf P t))) (i off n : Nat) {ft : TypeId} (hf : ((fieldsOf P t)[i]?.map fun f => (f.type, f.offset)) = some (ft, off)) (hn : P.cellsOf ft = n) : Held enc P W ft ((cs.drop off).take n) := by
  obtain ⟨_, hall⟩ := h.field hs
  cases hfi : (fieldsOf P t)[i]? with
  | none => rw [hfi] at hf; cases hf
  | some f =>
    rw [hfi] at hf
    simp only [Option.map_some, Option.some.injEq, Prod.mk.injEq] at hf
    obtain ⟨h1, h2⟩ := hf
    have := hall i f hfi
    rw [h1, h2, hn] at this
    exact this
theorem Held.partLen (h : Held enc P W t cs) (hs : P.underlying t = some (.struct (fieldsOf P t))) (hn : P.cellsOf t = n) : cs.length = n := (h.field hs).1.trans hn
theorem ints_recs (l : List Int) : recs (fun n : Int => [.int .i64 n]) l = ints .i64 l := by
  induction l with
  | nil => rfl
  | cons x l ih => rw [recs_cons, ih]; rfl
/-- A slice of numbers within what came in. -/
theorem Held.ints_ {te : TypeId} (ht : P.underlying t = some (.slice te)) (hC : P.cellsOf te = 1) (hby : P.bytesOf te = 8) (hi : P.underlying te = some (.int .i64)) (h : Held enc P W t cs) :
    ∃ A c, ∃ l : List Int, cs = [.slice A l.length c] ∧ l.length ≤ c ∧ c * 8 ≤ 140737488351232 ∧ Reads W W.heap.size 1 A l.length (ints .i64 l) ∧ ∀ x ∈ l, -9223372036854775808 ≤ x ∧ x ≤ 9223372036854775807 := by
  obtain ⟨A, c, l, h1, h2, _, h4, h5, h6⟩ := h.recs (f := fun n : Int => [.int .i64 n]) (sz := 1) (by_ := 8) (Q := fun x => -9223372036854775808 ≤ x ∧ x ≤ 9223372036854775807) 0 ht hC hby (fun _ => rfl) (by omega) (fun cs hh => by
    obtain ⟨n, e1, e2, e3⟩ := hh.i64 hi
    exact ⟨n, e1, e2, e3⟩)
  exact ⟨A, c, l, h1, h2, by unfold reachBytes at h4; omega, by rw [← ints_recs]; exact h5, h6⟩
/-- Only the header of a slice within what came in. -/
theorem Held.head {te : TypeId} (ht : P.underlying t = some (.slice te)) (h : Held enc P W t cs) : ∃ A n c, cs = [.slice A n c] ∧ n ≤ c ∧ c ≤ maxLen := by
  rcases h.slice ht with rfl | ⟨a, len, cap, rfl, hl, hm, _⟩
  · exact ⟨none, 0, 0, rfl, by omega, by simp [maxLen]⟩
  · exact ⟨some a, len, cap, rfl, hl, hm⟩
theorem list3 {α : Type} {l : List α} (h : l.length = 3) : ∃ a b c, l = [a, b, c] := by
  match l, h with
  | [a, b, c], _ => exact ⟨a, b, c, rfl⟩
end

end Go.Hm
/- Cells opened. -/
set_option maxRecDepth 100000

namespace Go.Hm
open Go Go.RowKit
/-- A column's cells as they lie: where, how many may, and what. -/
abbrev ColD := Option Addr × Nat × List CellS
def dataV (d : ColD) : List Value := [.slice d.1 d.2.2.length d.2.1]
theorem list5 {α : Type} {l : List α} (h : l.length = 5) : ∃ a b c d e, l = [a, b, c, d, e] := by
  match l, h with
  | [a, b, c, d, e], _ => exact ⟨a, b, c, d, e, rfl⟩
theorem list2 {α : Type} {l : List α} (h : l.length = 2) : ∃ a b, l = [a, b] := by
  match l, h with
  | [a, b], _ => exact ⟨a, b, rfl⟩
/-- A cell that may come in. -/
def CellFine (c : CellS) : Prop := (c.2.2.1.length ≤ 140737488351232 ∧ ∀ z ∈ c.2.2.1, z < 256) ∧ (-9223372036854775808 ≤ c.2.1 ∧ c.2.1 ≤ 9223372036854775807) ∧ (-9223372036854775808 ≤ c.2.2.2.1 ∧ c.2.2.2.1 ≤ 9223372036854775807) ∧ (-9223372036854775808 ≤ c.2.2.2.2 ∧ c.2.2.2.2 ≤ 9223372036854775807)

end Go.Hm

namespace Go.Proofs.Ythdkbfffjlkbpaa
open Go.RowKit Go.Hm Go.WideShapes Go.ChangeShapes

section
variable {H : Type} {enc : TypeId × Value → H} {W : World} {base : Nat} {v : Value} {d : DataW H} {ps : List MemPlace}
theorem held_cell {cs : List Value} (h : Held enc Try.prog W 29 cs) : ∃ c : CellS, cs = cellV c ∧ CellFine c := by
  have ht : Try.prog.underlying 29 = some (.struct (fieldsOf Try.prog 29)) := by kernel_rfl
  have ht2 : Try.prog.underlying 27 = some (.struct (fieldsOf Try.prog 27)) := by kernel_rfl
  obtain ⟨x0, x1, x2, x3, x4, rfl⟩ := list5 (h.partLen ht (n := 5) (by kernel_rfl))
  have p0 := h.part ht 0 0 1 (ft := 4) (by kernel_rfl) (by kernel_rfl)
  have p1 := h.part ht 1 1 1 (ft := 3) (by kernel_rfl) (by kernel_rfl)
  have p2 := h.part ht 2 2 1 (ft := 9) (by kernel_rfl) (by kernel_rfl)
  have p3 := h.part ht 3 3 2 (ft := 27) (by kernel_rfl) (by kernel_rfl)
  have q0 := p3.part ht2 0 0 1 (ft := 3) (by kernel_rfl) (by kernel_rfl)
  have q1 := p3.part ht2 1 1 1 (ft := 3) (by kernel_rfl) (by kernel_rfl)
  obtain ⟨b, e0⟩ := p0.bool (by kernel_rfl)
  obtain ⟨n, e1, n1, n2⟩ := p1.i64 (by kernel_rfl)
  obtain ⟨s, e2, s1, s2⟩ := p2.string (by kernel_rfl)
  obtain ⟨x, e3, g1, g2⟩ := q0.i64 (by kernel_rfl)
  obtain ⟨y, e4, g3, g4⟩ := q1.i64 (by kernel_rfl)
  simp only [List.drop_succ_cons, List.drop_zero, List.take_succ_cons, List.take_zero, List.cons.injEq, and_true] at e0 e1 e2 e3 e4
  subst e0 e1 e2 e3 e4
  exact ⟨(b, n, s, x, y), rfl, ⟨s2, s1⟩, ⟨n1, n2⟩, ⟨g1, g2⟩, g3, g4⟩
theorem open_C (hval : Value.okWide Try.prog W .any base 29 v) (h : DataW.Trod enc Try.prog W 0 (fun _ => true) true 29 v d ps) (hlt : ∀ p ∈ ps, p.block < W.heap.size) (hw : ∀ n ∈ d.weights Try.prog 29, n ≤ reachBytes) :
    ∃ c : CellS, v = .agg (cellV c).toArray ∧ CellFine c := by
  have ht : Try.prog.underlying 29 = some (.struct (fieldsOf Try.prog 29)) := by kernel_rfl
  obtain ⟨⟨cs⟩, rfl, hsz⟩ := okWide_struct ht hval
  have hh := Held.of h hlt hw
  simp only [Value.cells] at hh
  obtain ⟨c, rfl, hc⟩ := held_cell hh
  exact ⟨c, rfl, hc⟩
theorem held_cells {cs : List Value} (h : Held enc Try.prog W 22 cs) : ∃ x : ColD, cs = dataV x ∧ (Reads W W.heap.size 5 x.1 x.2.2.length (recs cellV x.2.2) ∧ (∀ y ∈ x.2.2, CellFine y) ∧ x.2.2.length ≤ x.2.1 ∧ x.2.1 ≤ 9223372036854775807 ∧ (x.1 = none → x.2.1 = 0)) := by
  have ht : Try.prog.underlying 22 = some (.slice 29) := by kernel_rfl
  obtain ⟨A, c, l, h1, h2, _, h4, h5, h6⟩ := h.recs (f := cellV) (sz := 5) (by_ := 48) (Q := CellFine) (false, 0, [], 0, 0) ht (by kernel_rfl) (by kernel_rfl) (fun _ => rfl) (by omega) (fun cs hh => held_cell hh)
  subst h1
  refine ⟨(A, c, l), rfl, h5, h6, h2, (show c ≤ 9223372036854775807 by unfold reachBytes at h4; omega), ?_⟩
  rcases h.slice ht with e | ⟨a, len, cap, e, _⟩
  · simp only [List.cons.injEq, Value.slice.injEq, and_true] at e
    exact fun _ => e.2.2
  · simp only [List.cons.injEq, Value.slice.injEq, and_true] at e
    intro hh
    rw [e.1] at hh
    cases hh
theorem open_Cells (hval : Value.okWide Try.prog W .any base 22 v) (h : DataW.Trod enc Try.prog W 0 (fun _ => true) true 22 v d ps) (hlt : ∀ p ∈ ps, p.block < W.heap.size) (hw : ∀ n ∈ d.weights Try.prog 22, n ≤ reachBytes) :
    ∃ (A : Option Addr) (c : Nat) (l : List CellS), v = .slice A l.length c ∧ Reads W W.heap.size 5 A l.length (recs cellV l) ∧ (∀ y ∈ l, CellFine y) ∧ l.length ≤ c ∧ l.length ≤ 2932031007317 := by
  have ht : Try.prog.underlying 22 = some (.slice 29) := by kernel_rfl
  obtain ⟨a0, len, cap, rfl⟩ := okWide_slice ht hval
  obtain ⟨A, c, l, h1, h2, _, h4, h5, h6⟩ := (Held.of h hlt hw).recs (f := cellV) (sz := 5) (by_ := 48) (Q := CellFine) (false, 0, [], 0, 0) ht (by kernel_rfl) (by kernel_rfl) (fun _ => rfl) (by omega) (fun cs hh => held_cell hh)
  simp only [Value.cells, List.cons.injEq, and_true] at h1
  rw [h1]
  exact ⟨A, c, l, rfl, h5, h6, h2, by unfold reachBytes at h4; omega⟩
end

end Go.Proofs.Ythdkbfffjlkbpaa
/- Equality of cells, as an equation for every world. -/

namespace Go.Proofs.Ythdkbfffjlkbpaa
open Go.RowKit Go.Hm
set_option maxHeartbeats 1000000 in
set_option maxRecDepth 100000 in
theorem neqCell {b b' : Bool} {n n' : Int} {s s' : ByteArray} {x x' y y' : Int} (W : World) :
    (binOp .neq 29 (.agg #[.bool b, .int .i64 n, .string s, .int .i64 x, .int .i64 y]) (.agg #[.bool b', .int .i64 n', .string s', .int .i64 x', .int .i64 y'])).run Try.prog W = .ok (.bool (!(b == b' && n == n' && s.toList == s'.toList && x == x' && y == y'))) W := by
  by_cases h1 : b = b' <;> by_cases h2 : n = n' <;> by_cases h3 : s.toList = s'.toList <;> by_cases h4 : x = x' <;> by_cases h5 : y = y'
  all_goals go_simp

end Go.Proofs.Ythdkbfffjlkbpaa
/- What layer 15's laws share. -/

namespace Go.Hm
open Go Go.RowKit
theorem recs_split5 (L : List CellS) (k : Nat) (hk : k ≤ L.length) : (recs cellV L).take (k * 5) = recs cellV (L.take k) ∧ (recs cellV L).drop (k * 5) = recs cellV (L.drop k) := by
  have e : recs cellV L = recs cellV (L.take k) ++ recs cellV (L.drop k) := by rw [← recs_append, List.take_append_drop]
  have l : (recs cellV (L.take k)).length = k * 5 := by rw [recs_length (sz := 5) (fun _ => rfl), List.length_take, Nat.min_eq_left hk]
  rw [e]
  exact ⟨List.take_left' l, List.drop_left' l⟩
theorem fineNear {t : Int} {L : List CellS} (h : cellsB t L = true) : ∀ y ∈ L, near y := fun y hy => right_near ((cellsB_iff.1 h).1 y hy)
/-- Stats of few cells have few nulls. -/
theorem IsStat.few {t : Int} {L : List CellS} {s : StatS} (h : IsStat t L s) (hl : L.length ≤ 300) : 0 ≤ s.1 ∧ s.1 ≤ 1000000 := by
  have a := h.nulls
  have b := nullsL_le L
  omega

end Go.Hm

namespace Go.Proofs.Ythdkbfffjlkbpaa
open Go.RowKit Go.Hm
attribute [local go_sem] Oper.semAt_some
theorem sC : Try.prog.underlying 22 = some (.slice (Try.prog.elem 22)) := by kernel_rfl
theorem zC (w : World) : (sizeOf (Try.prog.elem 22)).run Try.prog w = .ok 5 w := by kernel_rfl
theorem cslice_h (A : Option Addr) (n c m : Nat) (hc : m ≤ c) (w : World) : (Instr.sliceAt 22 (.slice A n c) none (some (.int .i64 (m : Int))) none).run Try.prog w = .ok (.slice A m c) w := by
  rw [run_sliceAt_slice w _ _ _ _ _ sC, run_slice_h w _ A n c sC .i64 (m : Int) (by omega) (by omega), zC]
  cases A <;> simp [Result.andThen, sliced, Addr.add]
theorem cslice_l (A : Option Addr) (n c l : Nat) (h1 : l ≤ n) (w : World) : (Instr.sliceAt 22 (.slice A n c) (some (.int .i64 (l : Int))) none none).run Try.prog w = .ok (.slice (if c = l then A else A.map (·.add (l * 5))) (n - l) (c - l)) w := by
  rw [run_sliceAt_slice w _ _ _ _ _ sC, run_slice_l w _ A n c sC .i64 (l : Int) (by omega) (by omega), zC]
  simp [Result.andThen, sliced]
theorem eqS_self (s : StatS) (w : World) : (binOp .eql 31 (statA s) (statA s)).run Try.prog w = .ok (.bool true) w := by
  have := eqStat_any (n := s.1) (n' := s.1) (b := s.2.1) (b' := s.2.1) (p := s.2.2.1) (q := s.2.2.2) (p' := s.2.2.1) (q' := s.2.2.2) w
  rw [show eqS (s.1, s.2.1, s.2.2.1, s.2.2.2) (s.1, s.2.1, s.2.2.1, s.2.2.2) = true by simp [eqS, eqC]] at this
  exact this
theorem guardS (x y : Operand) (a b : StatS) (w : World) : (eqGuard .eql 31 x y (statA a) (statA b)).run Try.prog w = .ok () w := by
  unfold statA statV cellV
  go_simp

end Go.Proofs.Ythdkbfffjlkbpaa
