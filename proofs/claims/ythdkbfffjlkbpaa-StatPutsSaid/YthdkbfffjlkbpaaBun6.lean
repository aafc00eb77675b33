/- Texts merged, for a claim has at most 60 files: StaF, Rec, OpenCl, CellE, Law15, PlnF, PlnG, PlnH, PlnC, PlnD, PlnE, PlnI, PlnJ, PlnK, StaH, StaI. -/
import Derived.BigRegion
import Derived.Deep.DeepCutAuto
import Derived.Outline
import Derived.RegionTactic
import Derived.Test.YthdkbfffjlkbpaaBun1
import Derived.Test.YthdkbfffjlkbpaaBun2
import Derived.Test.YthdkbfffjlkbpaaBun4
import Derived.Test.YthdkbfffjlkbpaaBun5
/- The contracts of law15.Cells and law08.Few. -/

namespace Go.Hm
open Go Go.RowKit
def cellsB (t : Int) (l : List CellS) : Bool := (l.all fun c => rightB c t true) && (decide (0 ≤ t) && decide (t ≤ 3))
theorem cellsB_iff {t : Int} {l : List CellS} : cellsB t l = true ↔ (∀ c ∈ l, rightB c t true = true) ∧ 0 ≤ t ∧ t ≤ 3 := by
  unfold cellsB
  simp

end Go.Hm

namespace Go.Proofs.Ythdkbfffjlkbpaa
open Go.RowKit Go.Hm
set_option maxHeartbeats 2000000 in
set_option maxRecDepth 100000 in
theorem cells_any {w : World} {t : Int} {A : Option Addr} {n c : Nat} {L : List CellS} (h : Reads w w.heap.size 5 A n (recs cellV L)) (hL : ∀ y ∈ L, y.2.2.1.length ≤ 140737488351232) (hn : n ≤ 4611686018427387903) :
    Calls Try.prog 11 #[.int .i64 t, .slice A n c] w (NewPost (.bool (cellsB t L)) w) := by
  obtain rfl := h.lenCell
  have HR := Lib.hid h
  have HL := Lib.hid hL
  clear h hL
  obtain ⟨M, hM⟩ : ∃ M, M = cellsB t L := ⟨_, rfl⟩
  rw [← hM]
  have HM := Lib.hid hM
  clear hM
  go_enter Try.func11, Try.ntmps11
  go_wp2_with fail
  go_loopw [5] (fun i wr => ∃ k : Nat, k ≤ L.length ∧ i = .int .i64 (k : Int) ∧ New w wr ∧ Hid (∀ c ∈ L.take k, rightB c t true = true)) (fun i _ => L.length - (intOf i).toNat)
  case atStart => exact ⟨0, Nat.zero_le _, rfl, New.refl _, Lib.hid (by simp)⟩
  case round =>
    obtain ⟨k, hk, rfl, hW, hr⟩ := hrel
    by_cases hlt : k < L.length
    · obtain ⟨ad, rfl, hb, d0, d1, d2, d3, d4⟩ := (Reads.later HR.out hW).cell5 hlt
      have htk := take_snoc L k (false, 0, [], 0, 0) hlt
      have hmem : L.getD k (false, 0, [], 0, 0) ∈ L := by rw [List.getD_eq_getElem?_getD, List.getElem?_eq_getElem hlt]; exact List.getElem_mem hlt
      have hy := HL.out _ hmem
      have R1 := fun (W : World) => rcright_any (w := W) (b := (L.getD k (false, 0, [], 0, 0)).1) (n := (L.getD k (false, 0, [], 0, 0)).2.1) (s := (L.getD k (false, 0, [], 0, 0)).2.2.1) (x := (L.getD k (false, 0, [], 0, 0)).2.2.2.1) (y := (L.getD k (false, 0, [], 0, 0)).2.2.2.2) (cn := []) (t := t) (nu := true) hy
      have hno : rightB (L.getD k (false, 0, [], 0, 0)) t true = false → M = false := fun e => by
        rw [HM.out]
        refine Bool.eq_false_iff.2 fun e2 => ?_
        have := (cellsB_iff.1 e2).1 _ hmem
        rw [e] at this
        cases this
      have hyes : rightB (L.getD k (false, 0, [], 0, 0)) t true = true → ∀ c ∈ L.take (k + 1), rightB c t true = true := fun e c hc => by
        rw [htk] at hc
        rcases List.mem_append.1 hc with hc | hc
        · exact hr.out c hc
        · rw [List.mem_singleton.1 hc]; exact e
      clear htk hmem hy hr
      generalize L.getD k (false, 0, [], 0, 0) = y at *
      obtain ⟨y0, y1, y2, y3, y4⟩ := y
      dsimp only at R1 d0 d1 d2 d3 d4
      generalize rightB (y0, y1, y2, y3, y4) t true = m at *
      have R1 : Hid (∀ W, Calls Try.prog 28 #[.agg #[.bool y0, .int .i64 y1, .string (bstr y2), .int .i64 y3, .int .i64 y4], .agg #[.string ⟨#[]⟩, .int .i64 t, .bool true]] W (NewPost (.bool m) W)) := Lib.hid R1
      have hno := Lib.hid hno
      have hyes := Lib.hid hyes
      go_wp2_with fail
      refine (R1.out _).mono ?_
      rintro e w1 ⟨rfl, b1⟩
      have hl := New.trans hW b1
      cases m with
      | false =>
        have hm := hno.out (by trivial)
        have HM2 := Lib.hid hm
        clear hno hyes hm
        go_wp2_with fail
        go_ret
        exact ⟨by rw [HM2.out]; rfl, hl⟩
      | true =>
        have hy2 := hyes.out (by trivial)
        have HY2 := Lib.hid hy2
        clear hno hyes hy2
        go_wp2_with fail
        go_roundw
        case rel => exact ⟨k + 1, by omega, by go_num, hl, HY2⟩
        case measure => simp [intOf]; omega
    · obtain rfl : k = L.length := by omega
      have hr2 := hr.out
      rw [List.take_length] at hr2
      have HM2 : Hid (M = (decide (0 ≤ t) && decide (t ≤ 3))) := Lib.hid (by
        rw [HM.out]
        unfold cellsB
        rw [List.all_eq_true.2 hr2, Bool.true_and])
      clear hr hr2
      by_cases h0 : 0 ≤ t
      · have d0 : decide (0 ≤ t) = true := decide_eq_true h0
        go_wp2_with fail
        go_ret
        exact ⟨by rw [HM2.out, d0]; rfl, hW⟩
      · have d0 : decide (0 ≤ t) = false := decide_eq_false h0
        have H0 := Lib.hid d0
        go_wp2_with fail
        go_ret
        exact ⟨by rw [HM2.out, H0.out]; rfl, hW⟩
/-- Whether cells are few; nothing at all is turned. -/
def FewP (l : List CellS) (w : World) (e : Ending) (w' : World) : Prop := ∃ b, e = .returned (.bool b) ∧ (b = true → l.length ≤ 300) ∧ w = w'
set_option maxHeartbeats 1000000 in
set_option maxRecDepth 100000 in
theorem fewP_any {w : World} {A : Option Addr} {n c : Nat} {l : List CellS} (h : Reads w w.heap.size 5 A n (recs cellV l)) (hL : ∀ y ∈ l, y.2.2.1.length ≤ 140737488351232) (hn : n ≤ 4611686018427387903) :
    Calls Try.prog 10 #[.slice A n c] w (FewP l w) := by
  obtain rfl := h.lenCell
  go_enter Try.func10, Try.ntmps10
  go_wp2
  go_loopw [3, 4] (fun v i wr => ∃ (k : Nat) (x : Int), i = .int .i64 (k : Int) ∧ v = .int .i64 x ∧ k ≤ l.length ∧ w = wr) (fun _ i _ => l.length - (intOf i).toNat)
  case atStart => exact ⟨0, 0, rfl, rfl, by omega, rfl⟩
  case round =>
    obtain ⟨k, x, rfl, rfl, hk, rfl⟩ := hrel
    by_cases hlt : k < l.length
    · obtain ⟨ad, rfl, hbk, d0, d1, d2, d3, d4⟩ := h.cell5 hlt
      have hx := hL (l.getD k (false, 0, [], 0, 0)) (by rw [List.getD_eq_getElem?_getD, List.getElem?_eq_getElem hlt]; exact List.getElem_mem hlt)
      generalize (l.getD k (false, 0, [], 0, 0)).2.2.1 = s2 at *
      have zs := bstr_size s2
      have hiz : (k : Int) < (l.length : Int) := by omega
      generalize hy : IntKind.i64.wrap (x + (s2.length : Int)) = y
      clear d0 d1 d3 d4
      go_wp2
      go_roundw
      case rel => exact ⟨k + 1, _, by go_num, rfl, by omega, trivial⟩
      case measure => simp [intOf]; omega
    · obtain rfl : k = l.length := by omega
      by_cases h3 : l.length ≤ 300
      · have t1 : decide ((l.length : Int) ≤ 300) = true := by simp; omega
        go_wp2
        go_ret
        exact ⟨_, rfl, fun _ => h3, rfl⟩
      · have t1 : decide ((l.length : Int) ≤ 300) = false := by simp; omega
        go_wp2
        go_ret
        exact ⟨_, rfl, fun hh => by simp at hh, rfl⟩

end Go.Proofs.Ythdkbfffjlkbpaa
/- Structs that came in, part by part. No program is named here. -/

namespace Go.Hm
open Go Go.RowKit Go.WideShapes Go.ChangeShapes Go.Deep

section
variable {H : Type} {enc : TypeId × Value → H} {P : Program} {W : World} {t e : TypeId} {cs : List Value} {n : Nat}
def fieldsOf (P : Program) (t : TypeId) : Array Field := match P.underlying t with | some (.struct fs) => fs | _ => #[]
theorem Held.part (h : Held enc P W t cs) (hs : P.underlying t = some (.struct (fieldsOf P t))) (i off n : Nat) {ft : TypeId} (hf : ((fieldsOf P t)[i]?.map fun f => (f.type, f.offset)) = some (ft, off)) (hn : P.cellsOf ft = n) : Held enc P W ft ((cs.drop off).take n) := by
  obtain ⟨_, hall⟩ := h.field hs
  cases hfi : (fieldsOf P t)[i]? with
  | none => rw [hfi] at hf; cases hf
  | some f =>
    rw [hfi] at hf
    simp only [Option.map_some, Option.some.injEq, Prod.mk.injEq] at hf
    obtain ⟨h1, h2⟩ := hf
    have := hall i f hfi
    rw [h1, h2, hn] at this
    exact this
theorem Held.partLen (h : Held enc P W t cs) (hs : P.underlying t = some (.struct (fieldsOf P t))) (hn : P.cellsOf t = n) : cs.length = n := (h.field hs).1.trans hn
theorem ints_recs (l : List Int) : recs (fun n : Int => [.int .i64 n]) l = ints .i64 l := by
  induction l with
  | nil => rfl
  | cons x l ih => rw [recs_cons, ih]; rfl
/-- A slice of numbers within what came in. -/
theorem Held.ints_ {te : TypeId} (ht : P.underlying t = some (.slice te)) (hC : P.cellsOf te = 1) (hby : P.bytesOf te = 8) (hi : P.underlying te = some (.int .i64)) (h : Held enc P W t cs) :
    ∃ A c, ∃ l : List Int, cs = [.slice A l.length c] ∧ l.length ≤ c ∧ c * 8 ≤ 140737488351232 ∧ Reads W W.heap.size 1 A l.length (ints .i64 l) ∧ ∀ x ∈ l, -9223372036854775808 ≤ x ∧ x ≤ 9223372036854775807 := by
  obtain ⟨A, c, l, h1, h2, _, h4, h5, h6⟩ := h.recs (f := fun n : Int => [.int .i64 n]) (sz := 1) (by_ := 8) (Q := fun x => -9223372036854775808 ≤ x ∧ x ≤ 9223372036854775807) 0 ht hC hby (fun _ => rfl) (by omega) (fun cs hh => by
    obtain ⟨n, e1, e2, e3⟩ := hh.i64 hi
    exact ⟨n, e1, e2, e3⟩)
  exact ⟨A, c, l, h1, h2, by unfold reachBytes at h4; omega, by rw [← ints_recs]; exact h5, h6⟩
/-- Only the header of a slice within what came in. -/
theorem Held.head {te : TypeId} (ht : P.underlying t = some (.slice te)) (h : Held enc P W t cs) : ∃ A n c, cs = [.slice A n c] ∧ n ≤ c ∧ c ≤ maxLen := by
  rcases h.slice ht with rfl | ⟨a, len, cap, rfl, hl, hm, _⟩
  · exact ⟨none, 0, 0, rfl, by omega, by simp [maxLen]⟩
  · exact ⟨some a, len, cap, rfl, hl, hm⟩
theorem list3 {α : Type} {l : List α} (h : l.length = 3) : ∃ a b c, l = [a, b, c] := by
  match l, h with
  | [a, b, c], _ => exact ⟨a, b, c, rfl⟩
end

end Go.Hm
/- Cells opened. -/
set_option maxRecDepth 100000

namespace Go.Hm
open Go Go.RowKit
/-- A column's cells as they lie: where, how many may, and what. -/
abbrev ColD := Option Addr × Nat × List CellS
def dataV (d : ColD) : List Value := [.slice d.1 d.2.2.length d.2.1]
theorem list5 {α : Type} {l : List α} (h : l.length = 5) : ∃ a b c d e, l = [a, b, c, d, e] := by
  match l, h with
  | [a, b, c, d, e], _ => exact ⟨a, b, c, d, e, rfl⟩
theorem list2 {α : Type} {l : List α} (h : l.length = 2) : ∃ a b, l = [a, b] := by
  match l, h with
  | [a, b], _ => exact ⟨a, b, rfl⟩
/-- A cell that may come in. -/
def CellFine (c : CellS) : Prop := (c.2.2.1.length ≤ 140737488351232 ∧ ∀ z ∈ c.2.2.1, z < 256) ∧ (-9223372036854775808 ≤ c.2.1 ∧ c.2.1 ≤ 9223372036854775807) ∧ (-9223372036854775808 ≤ c.2.2.2.1 ∧ c.2.2.2.1 ≤ 9223372036854775807) ∧ (-9223372036854775808 ≤ c.2.2.2.2 ∧ c.2.2.2.2 ≤ 9223372036854775807)

end Go.Hm

namespace Go.Proofs.Ythdkbfffjlkbpaa
open Go.RowKit Go.Hm Go.WideShapes Go.ChangeShapes

section
variable {H : Type} {enc : TypeId × Value → H} {W : World} {base : Nat} {v : Value} {d : DataW H} {ps : List MemPlace}
theorem held_cell {cs : List Value} (h : Held enc Try.prog W 29 cs) : ∃ c : CellS, cs = cellV c ∧ CellFine c := by
  have ht : Try.prog.underlying 29 = some (.struct (fieldsOf Try.prog 29)) := by kernel_rfl
  have ht2 : Try.prog.underlying 27 = some (.struct (fieldsOf Try.prog 27)) := by kernel_rfl
  obtain ⟨x0, x1, x2, x3, x4, rfl⟩ := list5 (h.partLen ht (n := 5) (by kernel_rfl))
  have p0 := h.part ht 0 0 1 (ft := 4) (by kernel_rfl) (by kernel_rfl)
  have p1 := h.part ht 1 1 1 (ft := 3) (by kernel_rfl) (by kernel_rfl)
  have p2 := h.part ht 2 2 1 (ft := 9) (by kernel_rfl) (by kernel_rfl)
  have p3 := h.part ht 3 3 2 (ft := 27) (by kernel_rfl) (by kernel_rfl)
  have q0 := p3.part ht2 0 0 1 (ft := 3) (by kernel_rfl) (by kernel_rfl)
  have q1 := p3.part ht2 1 1 1 (ft := 3) (by kernel_rfl) (by kernel_rfl)
  obtain ⟨b, e0⟩ := p0.bool (by kernel_rfl)
  obtain ⟨n, e1, n1, n2⟩ := p1.i64 (by kernel_rfl)
  obtain ⟨s, e2, s1, s2⟩ := p2.string (by kernel_rfl)
  obtain ⟨x, e3, g1, g2⟩ := q0.i64 (by kernel_rfl)
  obtain ⟨y, e4, g3, g4⟩ := q1.i64 (by kernel_rfl)
  simp only [List.drop_succ_cons, List.drop_zero, List.take_succ_cons, List.take_zero, List.cons.injEq, and_true] at e0 e1 e2 e3 e4
  subst e0 e1 e2 e3 e4
  exact ⟨(b, n, s, x, y), rfl, ⟨s2, s1⟩, ⟨n1, n2⟩, ⟨g1, g2⟩, g3, g4⟩
theorem open_C (hval : Value.okWide Try.prog W .any base 29 v) (h : DataW.Trod enc Try.prog W 0 (fun _ => true) true 29 v d ps) (hlt : ∀ p ∈ ps, p.block < W.heap.size) (hw : ∀ n ∈ d.weights Try.prog 29, n ≤ reachBytes) :
    ∃ c : CellS, v = .agg (cellV c).toArray ∧ CellFine c := by
  have ht : Try.prog.underlying 29 = some (.struct (fieldsOf Try.prog 29)) := by kernel_rfl
  obtain ⟨⟨cs⟩, rfl, hsz⟩ := okWide_struct ht hval
  have hh := Held.of h hlt hw
  simp only [Value.cells] at hh
  obtain ⟨c, rfl, hc⟩ := held_cell hh
  exact ⟨c, rfl, hc⟩
theorem held_cells {cs : List Value} (h : Held enc Try.prog W 22 cs) : ∃ x : ColD, cs = dataV x ∧ (Reads W W.heap.size 5 x.1 x.2.2.length (recs cellV x.2.2) ∧ (∀ y ∈ x.2.2, CellFine y) ∧ x.2.2.length ≤ x.2.1 ∧ x.2.1 ≤ 9223372036854775807 ∧ (x.1 = none → x.2.1 = 0)) := by
  have ht : Try.prog.underlying 22 = some (.slice 29) := by kernel_rfl
  obtain ⟨A, c, l, h1, h2, _, h4, h5, h6⟩ := h.recs (f := cellV) (sz := 5) (by_ := 48) (Q := CellFine) (false, 0, [], 0, 0) ht (by kernel_rfl) (by kernel_rfl) (fun _ => rfl) (by omega) (fun cs hh => held_cell hh)
  subst h1
  refine ⟨(A, c, l), rfl, h5, h6, h2, (show c ≤ 9223372036854775807 by unfold reachBytes at h4; omega), ?_⟩
  rcases h.slice ht with e | ⟨a, len, cap, e, _⟩
  · simp only [List.cons.injEq, Value.slice.injEq, and_true] at e
    exact fun _ => e.2.2
  · simp only [List.cons.injEq, Value.slice.injEq, and_true] at e
    intro hh
    rw [e.1] at hh
    cases hh
theorem open_Cells (hval : Value.okWide Try.prog W .any base 22 v) (h : DataW.Trod enc Try.prog W 0 (fun _ => true) true 22 v d ps) (hlt : ∀ p ∈ ps, p.block < W.heap.size) (hw : ∀ n ∈ d.weights Try.prog 22, n ≤ reachBytes) :
    ∃ (A : Option Addr) (c : Nat) (l : List CellS), v = .slice A l.length c ∧ Reads W W.heap.size 5 A l.length (recs cellV l) ∧ (∀ y ∈ l, CellFine y) ∧ l.length ≤ c ∧ l.length ≤ 2932031007317 := by
  have ht : Try.prog.underlying 22 = some (.slice 29) := by kernel_rfl
  obtain ⟨a0, len, cap, rfl⟩ := okWide_slice ht hval
  obtain ⟨A, c, l, h1, h2, _, h4, h5, h6⟩ := (Held.of h hlt hw).recs (f := cellV) (sz := 5) (by_ := 48) (Q := CellFine) (false, 0, [], 0, 0) ht (by kernel_rfl) (by kernel_rfl) (fun _ => rfl) (by omega) (fun cs hh => held_cell hh)
  simp only [Value.cells, List.cons.injEq, and_true] at h1
  rw [h1]
  exact ⟨A, c, l, rfl, h5, h6, h2, by unfold reachBytes at h4; omega⟩
end

end Go.Proofs.Ythdkbfffjlkbpaa
/- Equality of cells, as an equation for every world. -/

namespace Go.Proofs.Ythdkbfffjlkbpaa
open Go.RowKit Go.Hm
set_option maxHeartbeats 1000000 in
set_option maxRecDepth 100000 in
theorem neqCell {b b' : Bool} {n n' : Int} {s s' : ByteArray} {x x' y y' : Int} (W : World) :
    (binOp .neq 29 (.agg #[.bool b, .int .i64 n, .string s, .int .i64 x, .int .i64 y]) (.agg #[.bool b', .int .i64 n', .string s', .int .i64 x', .int .i64 y'])).run Try.prog W = .ok (.bool (!(b == b' && n == n' && s.toList == s'.toList && x == x' && y == y'))) W := by
  by_cases h1 : b = b' <;> by_cases h2 : n = n' <;> by_cases h3 : s.toList = s'.toList <;> by_cases h4 : x = x' <;> by_cases h5 : y = y'
  all_goals go_simp

end Go.Proofs.Ythdkbfffjlkbpaa
/- What layer 15's laws share. -/

namespace Go.Hm
open Go Go.RowKit
theorem recs_split5 (L : List CellS) (k : Nat) (hk : k ≤ L.length) : (recs cellV L).take (k * 5) = recs cellV (L.take k) ∧ (recs cellV L).drop (k * 5) = recs cellV (L.drop k) := by
  have e : recs cellV L = recs cellV (L.take k) ++ recs cellV (L.drop k) := by rw [← recs_append, List.take_append_drop]
  have l : (recs cellV (L.take k)).length = k * 5 := by rw [recs_length (sz := 5) (fun _ => rfl), List.length_take, Nat.min_eq_left hk]
  rw [e]
  exact ⟨List.take_left' l, List.drop_left' l⟩
theorem fineNear {t : Int} {L : List CellS} (h : cellsB t L = true) : ∀ y ∈ L, near y := fun y hy => right_near ((cellsB_iff.1 h).1 y hy)
/-- Stats of few cells have few nulls. -/
theorem IsStat.few {t : Int} {L : List CellS} {s : StatS} (h : IsStat t L s) (hl : L.length ≤ 300) : 0 ≤ s.1 ∧ s.1 ≤ 1000000 := by
  have a := h.nulls
  have b := nullsL_le L
  omega

end Go.Hm

namespace Go.Proofs.Ythdkbfffjlkbpaa
open Go.RowKit Go.Hm
attribute [local go_sem] Oper.semAt_some
theorem sC : Try.prog.underlying 22 = some (.slice (Try.prog.elem 22)) := by kernel_rfl
theorem zC (w : World) : (sizeOf (Try.prog.elem 22)).run Try.prog w = .ok 5 w := by kernel_rfl
theorem cslice_h (A : Option Addr) (n c m : Nat) (hc : m ≤ c) (w : World) : (Instr.sliceAt 22 (.slice A n c) none (some (.int .i64 (m : Int))) none).run Try.prog w = .ok (.slice A m c) w := by
  rw [run_sliceAt_slice w _ _ _ _ _ sC, run_slice_h w _ A n c sC .i64 (m : Int) (by omega) (by omega), zC]
  cases A <;> simp [Result.andThen, sliced, Addr.add]
theorem cslice_l (A : Option Addr) (n c l : Nat) (h1 : l ≤ n) (w : World) : (Instr.sliceAt 22 (.slice A n c) (some (.int .i64 (l : Int))) none none).run Try.prog w = .ok (.slice (if c = l then A else A.map (·.add (l * 5))) (n - l) (c - l)) w := by
  rw [run_sliceAt_slice w _ _ _ _ _ sC, run_slice_l w _ A n c sC .i64 (l : Int) (by omega) (by omega), zC]
  simp [Result.andThen, sliced]
theorem eqS_self (s : StatS) (w : World) : (binOp .eql 31 (statA s) (statA s)).run Try.prog w = .ok (.bool true) w := by
  have := eqStat_any (n := s.1) (n' := s.1) (b := s.2.1) (b' := s.2.1) (p := s.2.2.1) (q := s.2.2.2) (p' := s.2.2.1) (q' := s.2.2.2) w
  rw [show eqS (s.1, s.2.1, s.2.2.1, s.2.2.2) (s.1, s.2.1, s.2.2.1, s.2.2.2) = true by simp [eqS, eqC]] at this
  exact this
theorem guardS (x y : Operand) (a b : StatS) (w : World) : (eqGuard .eql 31 x y (statA a) (statA b)).run Try.prog w = .ok () w := by
  unfold statA statV cellV
  go_simp

end Go.Proofs.Ythdkbfffjlkbpaa
/- Cells read as they are: plain lists. -/

namespace Go.Hm
open Go Go.RowKit
/-- A number of eight bytes is read. -/
def u64S : St → Nat × St
  | some l => if 8 ≤ l.length then (num (l.take 8), some (l.drop 8)) else (0, none)
  | none => (0, none)
/-- Bits as a number. -/
def i64Z (n : Nat) : Int := if n < 9223372036854775808 then (n : Int) else (n : Int) - 18446744073709551616
/-- A cell of a type that is not 1 is read. -/
def rdC (t : Int) (S : St) : CellS × St :=
  if t = 0 then ((false, i64Z (u64S S).1, [], 0, 0), (u64S S).2)
  else if t = 3 then ((false, 0, [], zag (getS S).1, zag (getS (getS S).2).1), (getS (getS S).2).2)
  else ((false, 0, (takeS ((lenS 65536 S).1 : Int) (lenS 65536 S).2).1, 0, 0), (takeS ((lenS 65536 S).1 : Int) (lenS 65536 S).2).2)
/-- So many cells are read, till none can be. -/
def rdL (t : Int) : Nat → St → List CellS × St
  | 0, S => ([], S)
  | _ + 1, none => ([], none)
  | k + 1, some l => ((rdC t (some l)).1 :: (rdL t k (rdC t (some l)).2).1, (rdL t k (rdC t (some l)).2).2)
theorem i64Z_u64N {n : Int} (h : -9223372036854775808 ≤ n ∧ n ≤ 9223372036854775807) : i64Z (u64N n) = n := by
  unfold i64Z u64N
  split <;> omega
theorem u64N_i64Z {n : Nat} (h : n < 18446744073709551616) : u64N (i64Z n) = n := by
  unfold i64Z u64N
  split <;> omega
theorem rd_app {t : Int} {c : CellS} (hr : rightB c t false = true) (ht : t ≠ 1) (hi : -9223372036854775808 ≤ c.2.1 ∧ c.2.1 ≤ 9223372036854775807) (r : List Nat) : rdC t (some (plE t c ++ r)) = (c, some r) := by
  have h0 := right0 hr
  obtain ⟨y0, y1, y2, y3, y4⟩ := c
  dsimp only at h0 hi
  subst h0
  rcases rightB_t hr with rfl | rfl | rfl | rfl
  · have e : y2 = [] ∧ y3 = 0 ∧ y4 = 0 := by simpa [rightB] using hr
    obtain ⟨rfl, rfl, rfl⟩ := e
    have hl := low_len (u64N y1) 8
    have e1 : plE 0 (false, y1, [], 0, 0) = low (u64N y1) 8 := by unfold plE; rw [if_pos rfl]
    have e2 : u64S (some (low (u64N y1) 8 ++ r)) = (u64N y1, some r) := by
      unfold u64S
      dsimp only
      rw [if_pos (by rw [List.length_append]; omega), List.take_left' hl, List.drop_left' hl, num_low_of_lt (by have := u64N_lt y1; omega)]
    unfold rdC
    rw [if_pos rfl, e1, e2]
    dsimp only
    rw [i64Z_u64N hi]
  · exact absurd rfl ht
  · have e : (y1 = 0 ∧ y3 = 0 ∧ y4 = 0) ∧ y2.length ≤ 65536 := by simpa [rightB] using hr
    obtain ⟨⟨rfl, rfl, rfl⟩, hl⟩ := e
    have e1 : plE 2 (false, 0, y2, 0, 0) = vp y2.length ++ y2 := by unfold plE; rw [if_neg (by decide), if_pos rfl]
    unfold rdC
    rw [if_neg (by decide), if_neg (by decide), e1, List.append_assoc, lenS_app _ _ (by omega) (by omega)]
    dsimp only
    rw [takeS_app]
  · have h3 := right3 hr
    have e : y1 = 0 ∧ y2 = [] := by
      have := right20 hr
      have h := hr
      unfold rightB at h
      simp at h
      exact ⟨h.1.1, this⟩
    obtain ⟨rfl, rfl⟩ := e
    dsimp only at h3
    have e1 : plE 3 (false, 0, [], y3, y4) = vp (zig y3) ++ vp (zig y4) := by unfold plE; rw [if_neg (by decide), if_neg (by decide), if_pos rfl]
    unfold rdC
    rw [if_neg (by decide), if_pos rfl, e1, List.append_assoc, getS_app _ _ (by unfold zig; split <;> omega)]
    dsimp only
    rw [getS_app _ _ (by unfold zig; split <;> omega)]
    dsimp only
    rw [zag_zig, zag_zig]
theorem rdL_app {t : Int} (ht : t ≠ 1) : ∀ (l : List CellS) (r : List Nat), (∀ c ∈ l, rightB c t false = true) → (∀ c ∈ l, -9223372036854775808 ≤ c.2.1 ∧ c.2.1 ≤ 9223372036854775807) → rdL t l.length (some (l.flatMap (plE t) ++ r)) = (l, some r)
  | [], r, _, _ => rfl
  | c :: l, r, h, k => by
    have ih := rdL_app ht l r (fun d hd => h d (by simp [hd])) (fun d hd => k d (by simp [hd]))
    rw [List.flatMap_cons, List.append_assoc, List.length_cons, rdL, rd_app (h c (by simp)) ht (k c (by simp))]
    dsimp only
    rw [ih]
theorem rd_some {t : Int} {S : St} {c : CellS} {r : List Nat} (hS : S.ok) (ht : t = 0 ∨ t = 2 ∨ t = 3) (h : rdC t S = (c, some r)) : S = some (plE t c ++ r) := by
  rcases ht with rfl | rfl | rfl
  · unfold rdC at h
    rw [if_pos rfl] at h
    injection h with h1 h2
    cases S with
    | none => simp [u64S] at h2
    | some l =>
      unfold u64S at h1 h2
      dsimp only at h1 h2
      by_cases h8 : 8 ≤ l.length
      · rw [if_pos h8] at h1 h2
        injection h2 with h2
        have hb := hS l rfl
        have ht8 : (l.take 8).length = 8 := by rw [List.length_take]; omega
        have hb8 : ∀ x ∈ l.take 8, x < 256 := fun x hx => hb x (List.mem_of_mem_take hx)
        have hn := num_lt (l.take 8) hb8
        rw [ht8] at hn
        have hl := low_num (l.take 8) hb8
        rw [ht8] at hl
        rw [← h1, ← h2]
        unfold plE
        rw [if_pos rfl]
        dsimp only
        rw [u64N_i64Z (by omega), hl, List.take_append_drop]
      · rw [if_neg h8] at h2
        cases h2
  · unfold rdC at h
    rw [if_neg (by decide), if_neg (by decide)] at h
    injection h with h1 h2
    rcases lenS_cases 65536 S hS with e | ⟨N, q, rfl, hN, -, e⟩
    · rw [e] at h2
      simp [takeS] at h2
    · rw [e] at h1 h2
      dsimp only at h1 h2
      rcases takeS_cases (N : Int) (some q) with e2 | ⟨l, e3, -, hl, e2⟩
      · rw [e2] at h2
        cases h2
      · injection e3 with e3
        subst e3
        rw [e2] at h1 h2
        injection h2 with h2
        rw [← h1, ← h2]
        unfold plE
        rw [if_neg (by decide), if_pos rfl]
        dsimp only
        rw [Int.toNat_natCast, List.length_take, Nat.min_eq_left (by omega), List.append_assoc, List.take_append_drop]
  · unfold rdC at h
    rw [if_neg (by decide), if_pos rfl] at h
    injection h with h1 h2
    rcases getS_cases S hS with e | ⟨N, q, rfl, hN, e⟩
    · rw [e] at h2
      simp [getS] at h2
    · rw [e] at h1 h2
      dsimp only at h1 h2
      have hq : St.ok (some q) := by have := getS_ok hS; rwa [e] at this
      rcases getS_cases (some q) hq with e2 | ⟨N2, q2, e3, hN2, e2⟩
      · rw [e2] at h2
        cases h2
      · injection e3 with e3
        subst e3
        rw [e2] at h1 h2
        injection h2 with h2
        rw [← h1, ← h2]
        unfold plE
        rw [if_neg (by decide), if_neg (by decide), if_pos rfl]
        dsimp only
        rw [zig_zag, zig_zag, List.append_assoc]
theorem rd_ok {t : Int} {S : St} (hS : S.ok) : (rdC t S).2.ok := by
  unfold rdC
  split
  · cases S with
    | none => exact St.ok_none
    | some l =>
      unfold u64S
      dsimp only
      split
      · exact St.ok_some fun x hx => hS l rfl x (List.mem_of_mem_drop hx)
      · exact St.ok_none
  · split
    · exact getS_ok (getS_ok hS)
    · exact (takeS_ok (lenS_ok hS)).1
theorem rdL_some {t : Int} (ht : t = 0 ∨ t = 2 ∨ t = 3) : ∀ (n : Nat) (S : St) (l : List CellS) (r : List Nat), S.ok → rdL t n S = (l, some r) → S = some (l.flatMap (plE t) ++ r) ∧ l.length = n
  | 0, S, l, r, _, h => by
    unfold rdL at h
    injection h with h1 h2
    subst h1
    exact ⟨by simpa using h2, rfl⟩
  | n + 1, none, l, r, _, h => by
    unfold rdL at h
    injection h with _ h2
    cases h2
  | n + 1, some s, l, r, hS, h => by
    unfold rdL at h
    injection h with h1 h2
    have ho := rd_ok (t := t) hS
    match hq : rdC t (some s) with
    | (c, none) =>
      rw [hq] at h2
      cases n with
      | zero => unfold rdL at h2; cases h2
      | succ n => unfold rdL at h2; cases h2
    | (c, some q) =>
      rw [hq] at h1 h2 ho
      obtain ⟨e1, e2⟩ := rdL_some ht n (some q) (rdL t n (some q)).1 r ho (by rw [← h2])
      have e3 := rd_some hS ht hq
      subst h1
      refine ⟨?_, by rw [List.length_cons, e2]⟩
      injection e1 with e1
      rw [e3, List.flatMap_cons, List.append_assoc, ← e1]

end Go.Hm
/- The contract of plain.read. -/

namespace Go.Proofs.Ythdkbfffjlkbpaa
open Go.RowKit Go.Hm
theorem u64S_any {w : World} {g : Nat} {S : St} (h : CurS w g S) : Calls Try.prog 97 #[.pointer (some ⟨g, 0, none⟩)] w (CPost (.returned (.int .u64 ((u64S S).1 : Int))) g (u64S S).2 w) := by
  cases S with
  | none => exact u64_bad h (.inl rfl)
  | some l =>
    unfold u64S
    dsimp only
    split
    · exact u64_good h ‹_›
    · exact u64_bad h (.inr (by simp; omega))
theorem i64_wrapZ {n : Nat} (h : n < 18446744073709551616) : IntKind.i64.wrap (n : Int) = i64Z n := by
  unfold i64Z
  by_cases hn : n < 9223372036854775808
  · rw [if_pos hn]
    exact IntWalk.i64_in _ (by omega)
  · rw [if_neg hn]
    rw [IntKind.wrap_i64]
    omega
theorem u64S_lt {S : St} (hS : S.ok) : (u64S S).1 < 18446744073709551616 := by
  cases S with
  | none => simp [u64S]
  | some l =>
    unfold u64S
    dsimp only
    split
    · have := num_lt (l.take 8) (fun x hx => hS l rfl x (List.mem_of_mem_take hx))
      have h2 : (l.take 8).length = 8 := by rw [List.length_take]; omega
      rw [h2] at this
      omega
    · simp
def RdPost (c : CellS) (g : Nat) (S : St) (w : World) (e : Ending) (w' : World) : Prop := e = .returned (cellA c) ∧ CurS w' g S ∧ w.grownBy w' (some g)
set_option maxHeartbeats 4000000 in
set_option maxRecDepth 100000 in
theorem read_any {w : World} {g : Nat} {S : St} {t : Int} (h : CurS w g S) (ht : t = 0 ∨ t = 2 ∨ t = 3) :
    Calls Try.prog 88 #[.pointer (some ⟨g, 0, none⟩), .int .i64 t] w (RdPost (rdC t S).1 g (rdC t S).2 w) := by
  have hlt := h.lt
  have ha : New w (w.alloc (.cells (cellV cell0).toArray 29)) := (Below.refl _ _).alloc (Nat.le_refl _) _
  have h0 := h.below ha
  have BZ : Blk (w.alloc (.cells (cellV cell0).toArray 29)) w.heap.size 29 (cellV cell0).toArray := Blk.new _ _ _
  have G0 : w.grownBy (w.alloc (.cells (cellV cell0).toArray 29)) (some g) := Far.of_new ha
  obtain ⟨X, hX⟩ : ∃ X, X = rdC t S := ⟨_, rfl⟩
  rw [← hX]
  unfold rdC at hX
  rcases ht with rfl | rfl | rfl
  · rw [if_pos rfl] at hX
    have C1 := Lib.hid (u64S_any h0)
    have hw := i64_wrapZ (u64S_lt h.ok)
    generalize u64S S = Q at *
    obtain ⟨a, S1⟩ := Q
    dsimp only at *
    generalize i64Z a = z at *
    have HX := Lib.hid hX
    clear hX h h0 ha
    go_enter Try.func88, Try.ntmps88
    go_wp2_with fail
    refine C1.out.mono ?_
    rintro e w1 ⟨rfl, s1, g1⟩
    have hz1 := g1.size
    simp only [World.size_alloc] at hz1
    have BZ1 := BZ.grown g1 (by intro e; injection e with e; omega)
    have G1 := G0.trans g1
    go_wp2_with (refine wpList_storeG rfl 29 (.tmp 4) (.tmp 13) rfl w.heap.size _ rfl rfl BZ1 (by kernel_rfl) (by simp [cellV]) (by simp [Value.oneCell']) ?_
                 intro W5 BR G5
                 obtain ⟨s0, s1', s2, s3, s4⟩ := cells5 BR)
    have hX := HX.out
    subst hX
    exact bodyPost_ret (v := cellA (false, z, [], 0, 0)) (by simp [results, Try.results88, go_sem, s0, s1', s2, s3, s4, cellA, cellV, show bstr [] = ⟨#[]⟩ from rfl]) rfl ⟨rfl, s1.keep G5 BZ1 (by omega) (by decide), grown_then G1 G5 (Nat.le_refl _)⟩
  · rw [if_neg (by decide), if_neg (by decide)] at hX
    have C1 := Lib.hid (lenS_any (m := 65536) h0 (by omega) (by omega))
    have hle := lenS_le (m := 65536) S (by omega) h.ok
    generalize lenS 65536 S = Q at *
    obtain ⟨a, S1⟩ := Q
    dsimp only at *
    obtain ⟨Q2, hQ2⟩ : ∃ Q, Q = takeS (a : Int) S1 := ⟨_, rfl⟩
    rw [← hQ2] at hX
    have HQ2 := Lib.hid hQ2
    have HX := Lib.hid hX
    clear hX h h0 ha hQ2
    go_enter Try.func88, Try.ntmps88
    go_wp2_with fail
    refine C1.out.mono ?_
    rintro e w1 ⟨rfl, s1, g1⟩
    have hz1 := g1.size
    simp only [World.size_alloc] at hz1
    have BZ1 := BZ.grown g1 (by intro e; injection e with e; omega)
    have G1 := G0.trans g1
    have C2 := takeS_any (n := (a : Int)) s1 (by omega) (by omega)
    rw [← HQ2.out] at C2
    have C2 := Lib.hid C2
    clear C1 BZ G0 g1 s1
    go_wp2_with fail
    refine C2.out.mono ?_
    rintro e w2 ⟨A2, n2, c2, rfl, e2, k2, s2, g2⟩
    have hz2 := g2.size
    have BZ2 := BZ1.grown g2 (by intro e; injection e with e; omega)
    have G2 := G1.trans g2
    have q2 := run_strB (c := c2) k2.reads
    obtain ⟨x2, S2⟩ := Q2
    dsimp only at e2 k2 s2 q2
    subst e2
    clear C2 BZ1 G1 g2 HQ2
    go_wp2_with (refine wpList_storeG rfl 29 (.tmp 4) (.tmp 31) rfl w.heap.size _ rfl rfl BZ2 (by kernel_rfl) (by simp [cellV]) (by simp [Value.oneCell']) ?_
                 intro W5 BR G5
                 obtain ⟨s0, s1', s2', s3, s4⟩ := cells5 BR)
    have hX := HX.out
    subst hX
    exact bodyPost_ret (v := cellA (false, 0, x2, 0, 0)) (by simp [results, Try.results88, go_sem, s0, s1', s2', s3, s4, cellA, cellV]) rfl ⟨rfl, s2.keep G5 BZ2 (by omega) (by decide), grown_then G2 G5 (Nat.le_refl _)⟩
  · rw [if_neg (by decide), if_pos rfl] at hX
    have C1 := Lib.hid (getS_any h0)
    have hlt1 := getS_lt h.ok
    have hok1 := getS_ok h.ok
    generalize getS S = Q at *
    obtain ⟨a, S1⟩ := Q
    dsimp only at *
    have hlt2 := getS_lt hok1
    obtain ⟨Q2, hQ2⟩ : ∃ Q, Q = getS S1 := ⟨_, rfl⟩
    rw [← hQ2] at hX hlt2
    have HQ2 := Lib.hid hQ2
    have Z1 := Lib.hid (fun (W : World) => zag_any a W hlt1)
    have Z2 := Lib.hid (fun (W : World) => zag_any Q2.1 W hlt2)
    have HX := Lib.hid hX
    clear hX h h0 ha hQ2
    go_enter Try.func88, Try.ntmps88
    go_wp2_with fail
    refine C1.out.mono ?_
    rintro e w1 ⟨rfl, s1, g1⟩
    have hz1 := g1.size
    simp only [World.size_alloc] at hz1
    have BZ1 := BZ.grown g1 (by intro e; injection e with e; omega)
    have G1 := G0.trans g1
    have C2 := getS_any s1
    rw [← HQ2.out] at C2
    have C2 := Lib.hid C2
    clear C1 BZ G0 g1 s1
    go_wp2_with fail
    refine (Z1.out _).mono ?_
    rintro e w2 ⟨rfl, rfl⟩
    go_wp2_with fail
    refine C2.out.mono ?_
    rintro e w2 ⟨rfl, s2, g2⟩
    have hz2 := g2.size
    have BZ2 := BZ1.grown g2 (by intro e; injection e with e; omega)
    have G2 := G1.trans g2
    clear C2 BZ1 G1 g2 HQ2
    go_wp2_with fail
    refine (Z2.out _).mono ?_
    rintro e w3 ⟨rfl, rfl⟩
    go_wp2_with (refine wpList_storeG rfl 29 (.tmp 4) (.tmp 25) rfl w.heap.size _ rfl rfl BZ2 (by kernel_rfl) (by simp [cellV]) (by simp [Value.oneCell']) ?_
                 intro W5 BR G5
                 obtain ⟨s0, s1', s2', s3, s4⟩ := cells5 BR)
    have hX := HX.out
    subst hX
    exact bodyPost_ret (v := cellA (false, 0, [], zag a, zag Q2.1)) (by simp [results, Try.results88, go_sem, s0, s1', s2', s3, s4, cellA, cellV, show bstr [] = ⟨#[]⟩ from rfl]) rfl ⟨rfl, s2.keep G5 BZ2 (by omega) (by decide), grown_then G2 G5 (Nat.le_refl _)⟩

end Go.Proofs.Ythdkbfffjlkbpaa
/- The contract of plain.Decode, of the types that are read cell by cell. -/

namespace Go.Hm
open Go Go.RowKit
/-- What b is decoded to. -/
structure IsPl (Q : CellS → Prop) (t : Int) (b : List Nat) (n : Int) (o : Option (List CellS)) : Prop where
  sound : ∀ l, o = some l → (l.length : Int) = n ∧ plO t l = some b ∧ ∀ c ∈ l, Q c
  compl : ∀ l, (∀ c ∈ l, Q c) → (l.length : Int) = n → plO t l = some b → o = some l
theorem row_own {w : World} {base sz n : Nat} {e : TypeId} {v : Value} {xs : List Value} {g : Nat} (h : w.ownsRow base e sz v n xs) (hv : v.ownBlock = some g) : ∃ cs, Blk w g e cs := by
  rcases h.2 with ⟨rfl, _⟩ | ⟨g', cap, cur, rfl, _, hh, _⟩
  · simp [Value.ownBlock] at hv
  · have : g' = g := by simpa [Value.ownBlock] using hv
    subst this
    exact ⟨_, hh⟩
theorem plO_iff {t : Int} {l : List CellS} {b : List Nat} : plO t l = some b ↔ plOk t l = true ∧ plB t l = b := by
  unfold plO
  by_cases h : plOk t l = true
  · rw [if_pos h]
    simp [h]
  · rw [if_neg h]
    simp [h]
theorem plB_flat {t : Int} (ht : t = 0 ∨ t = 2 ∨ t = 3) (l : List CellS) : plB t l = l.flatMap (plE t) := by
  unfold plB
  rw [if_neg (by omega)]

end Go.Hm

namespace Go.Proofs.Ythdkbfffjlkbpaa
open Go.RowKit Go.Hm
theorem CurS.pushRow {w w' : World} {g base sz n : Nat} {S : St} {e : TypeId} {v : Value} {xs : List Value} (h : CurS w g S) (o : w.ownsRow base e sz v n xs) (hg : w.grownBy w' v.ownBlock) (he1 : e ≠ 62) (he2 : 5 ≠ e) : CurS w' g S := by
  cases hv : v.ownBlock with
  | none =>
    rw [hv] at hg
    exact h.below ((Turns.of_none (T := []) hg).new (by simp))
  | some g' =>
    obtain ⟨cs, hB⟩ := row_own o hv
    rw [hv] at hg
    obtain ⟨cs2, hC⟩ := h.blk
    exact h.keep hg hB (fun e' => by subst e'; exact Blk.ne_ hB hC he1 rfl) he2
theorem elC9 : ElT Try.prog 22 29 (.agg #[.bool false, .int .i64 0, .string ⟨#[]⟩, .int .i64 0, .int .i64 0]) 5 48 := ⟨by kernel_rfl, by kernel_rfl, rfl, by omega⟩
/-- Cells, or none. -/
def OptC (o : Option (List CellS)) (w : World) (e : Ending) (w' : World) : Prop :=
  match o with
  | none => e = .returned (.tuple #[.slice none 0 0, .bool false]) ∧ New w w'
  | some l => ∃ A n c, e = .returned (.tuple #[.slice A n c, .bool true]) ∧ w'.ownsRow w.heap.size 29 5 (.slice A n c) n (recs cellV l) ∧ New w w'
def PDec (t : Int) (b : List Nat) (n : Int) (w : World) (e : Ending) (w' : World) : Prop := ∃ o, IsPl cellData t b n o ∧ OptC o w e w'
theorem rd_data {t : Int} {s : List Nat} (hs : St.ok (some s)) : cellData (rdC t (some s)).1 := by
  unfold rdC cellData
  split
  · have h := u64S_lt hs
    dsimp only
    refine ⟨⟨by simp, by simp⟩, ?_⟩
    unfold i64Z
    split <;> omega
  · split
    · dsimp only
      exact ⟨⟨by simp, by simp⟩, by omega⟩
    · dsimp only
      have h1 := lenS_le (m := 65536) (some s) (by omega) hs
      have h2 := takeS_len (n := ((lenS 65536 (some s)).1 : Int)) (S := (lenS 65536 (some s)).2) (by omega)
      exact ⟨⟨by omega, (takeS_ok (lenS_ok hs)).2⟩, by omega⟩
theorem rdL_none (t : Int) (j : Nat) : rdL t j none = ([], none) := by cases j <;> rfl
theorem isPl_fin {t : Int} {b : List Nat} {n : Nat} {out : List CellS} {S : St} (ht : t = 0 ∨ t = 2 ∨ t = 3) (hn : n ≤ 65536) (h8 : St.ok (some b)) (hfin : rdL t n (some b) = (out, S)) (hda : ∀ c ∈ out, cellData c) :
    IsPl cellData t b (n : Int) (if S = some [] ∧ (out.all fun c => rightB c t false) = true then some out else none) := by
  constructor
  · intro l hl
    split at hl
    · rename_i hc
      injection hl with hl
      subst hl
      obtain ⟨rfl, hR⟩ := hc
      obtain ⟨e, hlen⟩ := rdL_some ht n (some b) out [] h8 hfin
      injection e with e
      rw [List.append_nil] at e
      refine ⟨by omega, plO_iff.2 ⟨plOk_iff.2 ⟨by omega, List.all_eq_true.1 hR⟩, ?_⟩, hda⟩
      rw [plB_flat ht, e]
    · cases hl
  · intro l hd hlen hp
    obtain ⟨hok, hb⟩ := plO_iff.1 hp
    rw [plB_flat ht] at hb
    have hr := (plOk_iff.1 hok).2
    have := rdL_app (t := t) (by omega) l [] hr (fun c hc => (hd c hc).2)
    rw [List.append_nil, hb, show l.length = n by omega, hfin] at this
    injection this with e1 e2
    subst e1 e2
    rw [if_pos ⟨rfl, List.all_eq_true.2 hr⟩]
set_option maxHeartbeats 4000000 in
set_option maxRecDepth 100000 in
theorem pdecode_any {w : World} {A : Option Addr} {c m : Nat} {b : List Nat} {t : Int} {n : Nat} (h : Reads w w.heap.size 1 A m (nums .u8 b)) (h8 : ∀ x ∈ b, x < 256) (hm : m ≤ 140737488351232) (ht : t = 0 ∨ t = 2 ∨ t = 3) (hn : n ≤ 65536) :
    Calls Try.prog 67 #[.int .i64 t, .slice A m c, .int .i64 (n : Int)] w (PDec t b (n : Int) w) := by
  obtain rfl : m = b.length := h.len
  have KN := known_any (w := w) (t := t) (n := (n : Int))
  rw [decide_eq_true (show 0 ≤ t ∧ t ≤ 3 ∧ 0 ≤ (n : Int) ∧ (n : Int) ≤ 65536 by omega)] at KN
  have KN := Lib.hid KN
  have OV := Lib.hid (over_any (c := c) h (by omega) h8)
  have t1 : (t == 1) = false := beq_eq_false_iff_ne.2 (by omega)
  have H8 := Lib.hid h8
  have HT := Lib.hid ht
  clear h h8
  go_enter Try.func67, Try.ntmps67
  go_wp2_with fail
  refine KN.out.mono ?_
  rintro e w1 ⟨rfl, rfl⟩
  go_wp2_with fail
  refine OV.out.mono ?_
  rintro e w1 ⟨g, rfl, hg, hc, b1⟩
  have s1 := CurS.of hc
  clear hc KN OV t1
  go_wp2_with fail
  go_loopw [9, 10] (fun v i wr => ∃ (k : Nat) (out : List CellS) (S : St) (AA : Option Addr) (cc : Nat), k ≤ n ∧ out.length = k ∧ i = .int .i64 (k : Int) ∧ v = .slice AA k cc ∧ wr.ownsRow w.heap.size 29 5 (.slice AA k cc) k (recs cellV out) ∧ CurS wr g S ∧ Below w.heap.size w wr ∧ Hid (rdL t n (some b) = (out ++ (rdL t (n - k) S).1, (rdL t (n - k) S).2)) ∧ Hid (∀ c ∈ out, cellData c)) (fun _ i _ => n - (intOf i).toNat)
  case atStart => exact ⟨0, [], some b, none, 0, Nat.zero_le _, rfl, rfl, rfl, by simpa [recs] using row_nil, s1, b1, Lib.hid (by simp), Lib.hid (by simp)⟩
  case round =>
    obtain ⟨k, out, S, AA, cc, hk, hol, rfl, rfl, o, hs, hbl, hrd, hda⟩ := hrel
    have hz := hbl.size
    have hb8 : St.ok (some b) := St.ok_some H8.out
    by_cases hgo : k < n ∧ S ≠ none
    · obtain ⟨hlt, hSn⟩ := hgo
      obtain ⟨s, rfl⟩ := Option.ne_none_iff_exists'.1 hSn
      have hok := hs.ok
      have BD := Lib.hid (badS hs)
      rw [Option.isNone_some] at BD
      have RD := Lib.hid (read_any hs HT.out)
      have hdat := rd_data (t := t) hok
      have hst := hrd.out
      rw [show n - k = (n - (k + 1)) + 1 by omega, rdL] at hst
      dsimp only at hst
      obtain ⟨cs, hT⟩ := hs.blk
      have o' := o
      generalize rdC t (some s) = R at *
      obtain ⟨⟨y0, y1, y2, y3, y4⟩, S2⟩ := R
      dsimp only at *
      have HST := Lib.hid hst
      have HDT := Lib.hid hdat
      have HOL := Lib.hid hol
      have hlt' : (k : Int) < (n : Int) := by omega
      clear hst hdat hrd hSn hs hok hol
      go_wp2_with fail
      refine BD.out.mono ?_
      rintro e w2 ⟨rfl, rfl⟩
      go_wp2_with fail
      refine RD.out.mono ?_
      rintro e w3 ⟨rfl, s3, g3⟩
      rw [show cellA (y0, y1, y2, y3, y4) = .agg #[.bool y0, .int .i64 y1, .string (bstr y2), .int .i64 y3, .int .i64 y4] from rfl]
      have o3 := World.ownsRow.kept o' g3 (.inr (row_blk_ne o' hT (by decide)))
      have b3 : Below w.heap.size w w3 := hbl.grown g3 hz (fun k e => by injection e with e; omega)
      have hz3 := b3.size
      have S3 := Lib.hid s3
      clear BD RD o o' g3 hbl s3 hT
      go_wp2_with (refine wpList_pushR elC9 rfl (.tmp 34) (.tmp 38) rfl (W := w) (B := w.heap.size) (base := w.heap.size) (n := k) o3 rfl rfl b3 (Nat.le_refl _) hz3 rfl (by simp [Value.oneCell']) (by omega) (by simp only [maxLen]; omega) ?_
                   intro A5 c5 w5 _ _ o5 g5 b5 _ _)
      have s5 := S3.out.pushRow o3 g5 (by decide) (by decide)
      go_roundw
      case rel => exact ⟨k + 1, out ++ [(y0, y1, y2, y3, y4)], S2, A5, c5, by omega, by rw [List.length_append, HOL.out]; rfl, by go_num, rfl, by rw [recs_append]; simpa [recs, cellV] using o5, s5, b5, Lib.hid (by rw [HST.out, List.append_assoc]; rfl), Lib.hid (fun c hc => by
          rcases List.mem_append.1 hc with hc | hc
          · exact hda.out c hc
          · rw [List.mem_singleton.1 hc]; exact HDT.out)⟩
      case measure => simp [intOf]; omega
    · have hfin : rdL t n (some b) = (out, S) := by
        rw [hrd.out]
        by_cases hkn : k < n
        · have : S = none := Classical.byContradiction fun e => hgo ⟨hkn, e⟩
          subst this
          rw [rdL_none, List.append_nil]
        · rw [show n - k = 0 by omega]
          simp [rdL]
      have hI := isPl_fin HT.out hn hb8 hfin hda.out
      have EN := Lib.hid (endS_any hs)
      have AR := Lib.hid (allright_any (t := t) (c := cc) (Reads.of_own o) (fun y hy => (hda.out y hy).1.1) (by omega))
      have BD := Lib.hid (badS hs)
      have HI := Lib.hid hI
      clear hI hfin hrd hs
      by_cases hS : S = some []
      · subst hS
        have hkn : ¬ k < n := fun e => hgo ⟨e, by simp⟩
        obtain rfl : k = n := by omega
        rw [show endS (some []) = true from rfl] at EN
        clear BD hgo
        go_wp2_with fail
        refine EN.out.mono ?_
        rintro e w2 ⟨rfl, rfl⟩
        go_wp2_with fail
        refine AR.out.mono ?_
        rintro e w3 ⟨rfl, b3⟩
        have hI := HI.out
        have o3 := row_later o b3
        have hl := New.trans hbl b3
        cases hall : (out.all fun c => rightB c t false) with
        | true =>
          rw [if_pos ⟨by trivial, hall⟩] at hI
          have HI := Lib.hid hI
          clear hI EN AR
          go_wp2_with fail
          go_ret2
          exact ⟨some out, HI.out, _, _, _, rfl, o3, hl⟩
        | false =>
          rw [if_neg (by rw [hall]; simp)] at hI
          have HI := Lib.hid hI
          clear hI EN AR
          go_wp2_with fail
          go_ret2
          exact ⟨none, HI.out, rfl, hl⟩
      · have hI := HI.out
        rw [if_neg (fun e => hS e.1)] at hI
        have HI := Lib.hid hI
        rw [show endS S = false from decide_eq_false hS] at EN
        clear hI AR hS
        by_cases hkn : k < n
        · have : S = none := Classical.byContradiction fun e => hgo ⟨hkn, e⟩
          subst this
          rw [show (Option.isNone (none : St)) = true from rfl] at BD
          have hkn' : (k : Int) < (n : Int) := by omega
          clear hgo
          go_wp2_with fail
          refine BD.out.mono ?_
          rintro e w2 ⟨rfl, rfl⟩
          go_wp2_with fail
          refine EN.out.mono ?_
          rintro e w2 ⟨rfl, rfl⟩
          go_wp2_with fail
          go_ret2
          exact ⟨none, HI.out, rfl, hbl⟩
        · obtain rfl : k = n := by omega
          clear hgo BD
          go_wp2_with fail
          refine EN.out.mono ?_
          rintro e w2 ⟨rfl, rfl⟩
          go_wp2_with fail
          go_ret2
          exact ⟨none, HI.out, rfl, hbl⟩

end Go.Proofs.Ythdkbfffjlkbpaa
/- The contract of hypostyleref09.fine. -/

namespace Go.Proofs.Ythdkbfffjlkbpaa
open Go.RowKit Go.Hm
theorem plOk_and {t : Int} {L : List CellS} : plOk t L = ((L.all fun c => rightB c t false) && (decide ((L.length : Int) ≤ 65536) && (decide (0 ≤ t) && decide (t ≤ 3)))) := by
  rw [Bool.eq_iff_iff, plOk_iff]
  simp only [Bool.and_eq_true, List.all_eq_true, decide_eq_true_eq]
  constructor
  · rintro ⟨⟨a, b, c⟩, d⟩
    exact ⟨d, by omega, a, b⟩
  · rintro ⟨d, c, a, b⟩
    exact ⟨⟨a, b, by omega⟩, d⟩
set_option maxHeartbeats 2000000 in
set_option maxRecDepth 100000 in
theorem rfine_any {w : World} {t : Int} {A : Option Addr} {n c : Nat} {L : List CellS} (h : Reads w w.heap.size 5 A n (recs cellV L)) (hL : ∀ y ∈ L, y.2.2.1.length ≤ 140737488351232) (hn : n ≤ 4611686018427387903) :
    Calls Try.prog 61 #[.int .i64 t, .slice A n c] w (NewPost (.bool (plOk t L)) w) := by
  obtain rfl := h.lenCell
  have HR := Lib.hid h
  have HL := Lib.hid hL
  clear h hL
  obtain ⟨M, hM⟩ : ∃ M, M = plOk t L := ⟨_, rfl⟩
  rw [← hM]
  rw [plOk_and] at hM
  have HM := Lib.hid hM
  clear hM
  go_enter Try.func61, Try.ntmps61
  go_wp2_with fail
  go_loopw [5] (fun i wr => ∃ k : Nat, k ≤ L.length ∧ i = .int .i64 (k : Int) ∧ New w wr ∧ Hid (∀ c ∈ L.take k, rightB c t false = true)) (fun i _ => L.length - (intOf i).toNat)
  case atStart => exact ⟨0, Nat.zero_le _, rfl, New.refl _, Lib.hid (by simp)⟩
  case round =>
    obtain ⟨k, hk, rfl, hW, hr⟩ := hrel
    by_cases hlt : k < L.length
    · obtain ⟨ad, rfl, hb, d0, d1, d2, d3, d4⟩ := (Reads.later HR.out hW).cell5 hlt
      have htk := take_snoc L k (false, 0, [], 0, 0) hlt
      have hmem : L.getD k (false, 0, [], 0, 0) ∈ L := by rw [List.getD_eq_getElem?_getD, List.getElem?_eq_getElem hlt]; exact List.getElem_mem hlt
      have hy := HL.out _ hmem
      have R1 := fun (W : World) => rcright_any (w := W) (b := (L.getD k (false, 0, [], 0, 0)).1) (n := (L.getD k (false, 0, [], 0, 0)).2.1) (s := (L.getD k (false, 0, [], 0, 0)).2.2.1) (x := (L.getD k (false, 0, [], 0, 0)).2.2.2.1) (y := (L.getD k (false, 0, [], 0, 0)).2.2.2.2) (cn := []) (t := t) (nu := false) hy
      have hno : rightB (L.getD k (false, 0, [], 0, 0)) t false = false → M = false := fun e => by
        rw [HM.out]
        have : (L.all fun c => rightB c t false) = false := Bool.eq_false_iff.2 fun e2 => by
          have := (List.all_eq_true.1 e2) _ hmem
          rw [e] at this
          cases this
        rw [this, Bool.false_and]
      have hyes : rightB (L.getD k (false, 0, [], 0, 0)) t false = true → ∀ c ∈ L.take (k + 1), rightB c t false = true := fun e c hc => by
        rw [htk] at hc
        rcases List.mem_append.1 hc with hc | hc
        · exact hr.out c hc
        · rw [List.mem_singleton.1 hc]; exact e
      clear htk hmem hy hr
      generalize L.getD k (false, 0, [], 0, 0) = y at *
      obtain ⟨y0, y1, y2, y3, y4⟩ := y
      dsimp only at R1 d0 d1 d2 d3 d4
      generalize rightB (y0, y1, y2, y3, y4) t false = m at *
      have R1 : Hid (∀ W, Calls Try.prog 28 #[.agg #[.bool y0, .int .i64 y1, .string (bstr y2), .int .i64 y3, .int .i64 y4], .agg #[.string ⟨#[]⟩, .int .i64 t, .bool false]] W (NewPost (.bool m) W)) := Lib.hid R1
      have hno := Lib.hid hno
      have hyes := Lib.hid hyes
      go_wp2_with fail
      refine (R1.out _).mono ?_
      rintro e w1 ⟨rfl, b1⟩
      have hl := New.trans hW b1
      cases m with
      | false =>
        have hm := hno.out (by trivial)
        have HM2 := Lib.hid hm
        clear hno hyes hm
        go_wp2_with fail
        go_ret
        exact ⟨by rw [HM2.out]; rfl, hl⟩
      | true =>
        have hy2 := hyes.out (by trivial)
        have HY2 := Lib.hid hy2
        clear hno hyes hy2
        go_wp2_with fail
        go_roundw
        case rel => exact ⟨k + 1, by omega, by go_num, hl, HY2⟩
        case measure => simp [intOf]; omega
    · obtain rfl : k = L.length := by omega
      have hr2 := hr.out
      rw [List.take_length] at hr2
      have HM2 : Hid (M = (decide ((L.length : Int) ≤ 65536) && (decide (0 ≤ t) && decide (t ≤ 3)))) := Lib.hid (by
        rw [HM.out, List.all_eq_true.2 hr2, Bool.true_and])
      clear hr hr2
      by_cases h1 : (L.length : Int) ≤ 65536
      all_goals have g1 := Lib.hid h1
      all_goals by_cases h0 : 0 ≤ t
      all_goals have g2 := Lib.hid h0
      all_goals
        go_wp2_with fail
        go_ret
        refine ⟨?_, hW⟩
        rw [HM2.out]
        have g1 := g1.out
        have g2 := g2.out
        first
          | (rw [decide_eq_true (show (L.length : Int) ≤ 65536 by omega)]
             first
               | (rw [decide_eq_true (show 0 ≤ t by omega)]; rfl)
               | (rw [decide_eq_false (show ¬ 0 ≤ t by omega)]; rfl))
          | (rw [decide_eq_false (show ¬ (L.length : Int) ≤ 65536 by omega)]; rfl)

end Go.Proofs.Ythdkbfffjlkbpaa
/- The contract of hypostyleref09.Encode. -/

namespace Go.Proofs.Ythdkbfffjlkbpaa
open Go.RowKit Go.Hm
set_option maxHeartbeats 4000000 in
set_option maxRecDepth 100000 in
theorem rplain0 {w : World} {A : Option Addr} {c : Nat} {L : List CellS} (h : Reads w w.heap.size 5 A L.length (recs cellV L)) (hL : ∀ y ∈ L, cellData y) (hn : L.length ≤ 65536) (hR : ∀ c ∈ L, rightB c 0 false = true) (hok : plOk 0 L = true) :
    Calls Try.prog 37 #[.int .i64 0, .slice A L.length c] w (OptB (some (plB 0 L)) w) := by
  have FN := Lib.hid (rfine_any (t := 0) (c := c) h (fun y hy => (hL y hy).1.1) (by omega))
  rw [hok] at FN
  have HR := Lib.hid h
  have HD := Lib.hid hL
  have HR2 := Lib.hid hR
  have HX := Lib.hid (fun c (hc : c ∈ L) => right_text (hR c hc))
  have hp : plB 0 L = L.flatMap (plE 0) := by unfold plB; rw [if_neg (by decide)]
  rw [hp]
  clear hp
  clear h hL hR hok
  go_enter Try.func37, Try.ntmps37
  go_wp2_with fail
  refine FN.out.mono ?_
  rintro e w1 ⟨rfl, b1⟩
  clear FN
  go_wp2_with fail
  go_loopw [7, 9] (fun v i wr => ∃ (k m cc : Nat) (AA : Option Addr), k ≤ L.length ∧ i = .int .i64 (k : Int) ∧ v = .slice AA m cc ∧ Own wr w.heap.size 5 (.slice AA m cc) (nums .u8 ((L.take k).flatMap (plE 0))) ∧ Below w.heap.size w wr) (fun _ i _ => L.length - (intOf i).toNat)
  case atStart => exact ⟨0, 0, 0, none, Nat.zero_le _, rfl, rfl, Own.nil_, b1⟩
  case round =>
    obtain ⟨k, m, cc, AA, hk2, rfl, rfl, o, b⟩ := hrel
    by_cases hlt : k < L.length
    · obtain ⟨ad, rfl, hb, -⟩ := (Reads.later HR.out b).cell5 hlt
      have hmem : (L.getD k (false, 0, [], 0, 0)) ∈ L := by rw [List.getD_eq_getElem?_getD, List.getElem?_eq_getElem hlt]; exact List.getElem_mem hlt
      have HY : ∀ W, New w W → W.cell? (ad.add (k * 5)) = some (.bool (L.getD k (false, 0, [], 0, 0)).1) ∧ W.cell? ⟨(ad.add (k * 5)).block, (ad.add (k * 5)).off + 1, none⟩ = some (.int .i64 (L.getD k (false, 0, [], 0, 0)).2.1) ∧ W.cell? ⟨(ad.add (k * 5)).block, (ad.add (k * 5)).off + 2, none⟩ = some (.string (bstr (L.getD k (false, 0, [], 0, 0)).2.2.1))
          ∧ W.cell? ⟨(ad.add (k * 5)).block, (ad.add (k * 5)).off + 3, none⟩ = some (.int .i64 (L.getD k (false, 0, [], 0, 0)).2.2.2.1) ∧ W.cell? ⟨(ad.add (k * 5)).block, (ad.add (k * 5)).off + 4, none⟩ = some (.int .i64 (L.getD k (false, 0, [], 0, 0)).2.2.2.2) := fun W hN => by
        obtain ⟨ad', e, _, d⟩ := (Reads.later HR.out hN).cell5 hlt
        injection e with e
        subst e
        exact d
      have hfs := flat_snoc (t := 0) hlt
      have hfl := flat_len (L.take k) (fun c hc => HR2.out c (List.mem_of_mem_take hc)) (fun c hc => HX.out c (List.mem_of_mem_take hc))
      rw [List.length_take] at hfl
      have hm : m ≤ 100000000000 := by have := o.len; rw [nums_length] at this; have := Nat.min_le_left k L.length; omega
      have h8 := HD.out _ hmem
      have hry := HR2.out _ hmem
      clear hmem hfl
      generalize L.getD k (false, 0, [], 0, 0) = y at *
      obtain ⟨y0, y1, y2, y3, y4⟩ := y
      dsimp only at HY
      have zs := bstr_size y2
      have hz := b.size
      have HY := Lib.hid HY
      obtain ⟨z0, z1, z2, z3, z4⟩ := HY.out _ b
      have HFS := Lib.hid hfs
      clear hfs
      have hw := u64_wrapN y1
      have hu := u64N_lt y1
      have U := rlow_any (c := cc) (u64N y1) 8 o.reads (by omega) (by omega) (by omega)
      have e0 : plE 0 (y0, y1, y2, y3, y4) = low (u64N y1) 8 := by unfold plE; rw [if_pos rfl]
      rw [← e0] at U
      have U := Lib.hid U
      clear e0 hu
      generalize u64N y1 = z at *
      go_wp2_with fail
      refine U.out.mono ?_
      rintro e w3 ⟨A3, n3, c3, rfl, k3, b3⟩
      clear z0 z1 z2 z3 z4
      go_wp2_with fail
      go_roundw
      case rel => exact ⟨k + 1, _, _, _, by omega, by go_num, rfl, by rw [HFS.out]; exact k3.base_le hz, b.trans (Below.mono b3 hz)⟩
      case measure => simp [intOf]; omega
    · obtain rfl : k = L.length := by omega
      rw [List.take_length] at o
      go_wp2_with fail
      go_ret2
      exact ⟨_, _, _, rfl, o, b⟩
set_option maxHeartbeats 4000000 in
set_option maxRecDepth 100000 in
theorem rplain2 {w : World} {A : Option Addr} {c : Nat} {L : List CellS} (h : Reads w w.heap.size 5 A L.length (recs cellV L)) (hL : ∀ y ∈ L, cellData y) (hn : L.length ≤ 65536) (hR : ∀ c ∈ L, rightB c 2 false = true) (hok : plOk 2 L = true) :
    Calls Try.prog 37 #[.int .i64 2, .slice A L.length c] w (OptB (some (plB 2 L)) w) := by
  have FN := Lib.hid (rfine_any (t := 2) (c := c) h (fun y hy => (hL y hy).1.1) (by omega))
  rw [hok] at FN
  have HR := Lib.hid h
  have HD := Lib.hid hL
  have HR2 := Lib.hid hR
  have HX := Lib.hid (fun c (hc : c ∈ L) => right_text (hR c hc))
  have hp : plB 2 L = L.flatMap (plE 2) := by unfold plB; rw [if_neg (by decide)]
  rw [hp]
  clear hp
  clear h hL hR hok
  go_enter Try.func37, Try.ntmps37
  go_wp2_with fail
  refine FN.out.mono ?_
  rintro e w1 ⟨rfl, b1⟩
  clear FN
  go_wp2_with fail
  go_loopw [7, 9] (fun v i wr => ∃ (k m cc : Nat) (AA : Option Addr), k ≤ L.length ∧ i = .int .i64 (k : Int) ∧ v = .slice AA m cc ∧ Own wr w.heap.size 5 (.slice AA m cc) (nums .u8 ((L.take k).flatMap (plE 2))) ∧ Below w.heap.size w wr) (fun _ i _ => L.length - (intOf i).toNat)
  case atStart => exact ⟨0, 0, 0, none, Nat.zero_le _, rfl, rfl, Own.nil_, b1⟩
  case round =>
    obtain ⟨k, m, cc, AA, hk2, rfl, rfl, o, b⟩ := hrel
    by_cases hlt : k < L.length
    · obtain ⟨ad, rfl, hb, -⟩ := (Reads.later HR.out b).cell5 hlt
      have hmem : (L.getD k (false, 0, [], 0, 0)) ∈ L := by rw [List.getD_eq_getElem?_getD, List.getElem?_eq_getElem hlt]; exact List.getElem_mem hlt
      have HY : ∀ W, New w W → W.cell? (ad.add (k * 5)) = some (.bool (L.getD k (false, 0, [], 0, 0)).1) ∧ W.cell? ⟨(ad.add (k * 5)).block, (ad.add (k * 5)).off + 1, none⟩ = some (.int .i64 (L.getD k (false, 0, [], 0, 0)).2.1) ∧ W.cell? ⟨(ad.add (k * 5)).block, (ad.add (k * 5)).off + 2, none⟩ = some (.string (bstr (L.getD k (false, 0, [], 0, 0)).2.2.1))
          ∧ W.cell? ⟨(ad.add (k * 5)).block, (ad.add (k * 5)).off + 3, none⟩ = some (.int .i64 (L.getD k (false, 0, [], 0, 0)).2.2.2.1) ∧ W.cell? ⟨(ad.add (k * 5)).block, (ad.add (k * 5)).off + 4, none⟩ = some (.int .i64 (L.getD k (false, 0, [], 0, 0)).2.2.2.2) := fun W hN => by
        obtain ⟨ad', e, _, d⟩ := (Reads.later HR.out hN).cell5 hlt
        injection e with e
        subst e
        exact d
      have hfs := flat_snoc (t := 2) hlt
      have hfl := flat_len (L.take k) (fun c hc => HR2.out c (List.mem_of_mem_take hc)) (fun c hc => HX.out c (List.mem_of_mem_take hc))
      rw [List.length_take] at hfl
      have hm : m ≤ 100000000000 := by have := o.len; rw [nums_length] at this; have := Nat.min_le_left k L.length; omega
      have h8 := HD.out _ hmem
      have hry := HR2.out _ hmem
      clear hmem hfl
      generalize L.getD k (false, 0, [], 0, 0) = y at *
      obtain ⟨y0, y1, y2, y3, y4⟩ := y
      dsimp only at HY
      have zs := bstr_size y2
      have hz := b.size
      have HY := Lib.hid HY
      obtain ⟨z0, z1, z2, z3, z4⟩ := HY.out _ b
      have HFS := Lib.hid hfs
      clear hfs
      have hl2 := right2 hry
      have hw : IntKind.u64.wrap (y2.length : Int) = (y2.length : Int) := by dsimp only at hl2; rw [IntKind.wrap_u64]; omega
      have V := vp_len10 (n := y2.length) (by dsimp only at hl2; omega)
      have U := Lib.hid (rput_any (c := cc) y2.length o.reads (by omega) (by dsimp only at hl2; omega))
      have e0 : plE 2 (y0, y1, y2, y3, y4) = vp y2.length ++ y2 := by unfold plE; rw [if_neg (by decide), if_pos rfl]
      rw [e0, ← List.append_assoc] at HFS
      dsimp only at hl2
      have h82 := h8.1.2
      dsimp only at h82
      clear e0
      go_wp2_with fail
      refine U.out.mono ?_
      rintro e w2 ⟨A2, n2, c2, rfl, k2, b2⟩
      have hn2 : n2 ≤ 100000000010 := by have a := k2.len; have b' := o.len; rw [nums_length] at a b'; rw [List.length_append] at a; omega
      have b02 := b.trans (Below.mono b2 hz)
      have hz2 := b02.size
      clear z0 z1 z2 z3 z4
      obtain ⟨z0, z1, z2, z3, z4⟩ := HY.out _ b02
      go_wp2_with (refine wpList_pushStr elB strT rfl (.tmp 54) (.tmp 59) rfl (W := w) (B := w.heap.size) (k2.base_le hz) h82 rfl rfl b02 (Nat.le_refl _) hz2 (by omega) ?_
                   intro A3 c3 w3 _ _ k3 _ b3)
      go_wp2_with fail
      go_roundw
      case rel => exact ⟨k + 1, _, _, _, by omega, by go_num, rfl, by rw [HFS.out]; exact k3, b3⟩
      case measure => simp [intOf]; omega
    · obtain rfl : k = L.length := by omega
      rw [List.take_length] at o
      go_wp2_with fail
      go_ret2
      exact ⟨_, _, _, rfl, o, b⟩
set_option maxHeartbeats 4000000 in
set_option maxRecDepth 100000 in
theorem rplain3 {w : World} {A : Option Addr} {c : Nat} {L : List CellS} (h : Reads w w.heap.size 5 A L.length (recs cellV L)) (hL : ∀ y ∈ L, cellData y) (hn : L.length ≤ 65536) (hR : ∀ c ∈ L, rightB c 3 false = true) (hok : plOk 3 L = true) :
    Calls Try.prog 37 #[.int .i64 3, .slice A L.length c] w (OptB (some (plB 3 L)) w) := by
  have FN := Lib.hid (rfine_any (t := 3) (c := c) h (fun y hy => (hL y hy).1.1) (by omega))
  rw [hok] at FN
  have HR := Lib.hid h
  have HD := Lib.hid hL
  have HR2 := Lib.hid hR
  have HX := Lib.hid (fun c (hc : c ∈ L) => right_text (hR c hc))
  have hp : plB 3 L = L.flatMap (plE 3) := by unfold plB; rw [if_neg (by decide)]
  rw [hp]
  clear hp
  clear h hL hR hok
  go_enter Try.func37, Try.ntmps37
  go_wp2_with fail
  refine FN.out.mono ?_
  rintro e w1 ⟨rfl, b1⟩
  clear FN
  go_wp2_with fail
  go_loopw [7, 9] (fun v i wr => ∃ (k m cc : Nat) (AA : Option Addr), k ≤ L.length ∧ i = .int .i64 (k : Int) ∧ v = .slice AA m cc ∧ Own wr w.heap.size 5 (.slice AA m cc) (nums .u8 ((L.take k).flatMap (plE 3))) ∧ Below w.heap.size w wr) (fun _ i _ => L.length - (intOf i).toNat)
  case atStart => exact ⟨0, 0, 0, none, Nat.zero_le _, rfl, rfl, Own.nil_, b1⟩
  case round =>
    obtain ⟨k, m, cc, AA, hk2, rfl, rfl, o, b⟩ := hrel
    by_cases hlt : k < L.length
    · obtain ⟨ad, rfl, hb, -⟩ := (Reads.later HR.out b).cell5 hlt
      have hmem : (L.getD k (false, 0, [], 0, 0)) ∈ L := by rw [List.getD_eq_getElem?_getD, List.getElem?_eq_getElem hlt]; exact List.getElem_mem hlt
      have HY : ∀ W, New w W → W.cell? (ad.add (k * 5)) = some (.bool (L.getD k (false, 0, [], 0, 0)).1) ∧ W.cell? ⟨(ad.add (k * 5)).block, (ad.add (k * 5)).off + 1, none⟩ = some (.int .i64 (L.getD k (false, 0, [], 0, 0)).2.1) ∧ W.cell? ⟨(ad.add (k * 5)).block, (ad.add (k * 5)).off + 2, none⟩ = some (.string (bstr (L.getD k (false, 0, [], 0, 0)).2.2.1))
          ∧ W.cell? ⟨(ad.add (k * 5)).block, (ad.add (k * 5)).off + 3, none⟩ = some (.int .i64 (L.getD k (false, 0, [], 0, 0)).2.2.2.1) ∧ W.cell? ⟨(ad.add (k * 5)).block, (ad.add (k * 5)).off + 4, none⟩ = some (.int .i64 (L.getD k (false, 0, [], 0, 0)).2.2.2.2) := fun W hN => by
        obtain ⟨ad', e, _, d⟩ := (Reads.later HR.out hN).cell5 hlt
        injection e with e
        subst e
        exact d
      have hfs := flat_snoc (t := 3) hlt
      have hfl := flat_len (L.take k) (fun c hc => HR2.out c (List.mem_of_mem_take hc)) (fun c hc => HX.out c (List.mem_of_mem_take hc))
      rw [List.length_take] at hfl
      have hm : m ≤ 100000000000 := by have := o.len; rw [nums_length] at this; have := Nat.min_le_left k L.length; omega
      have h8 := HD.out _ hmem
      have hry := HR2.out _ hmem
      clear hmem hfl
      generalize L.getD k (false, 0, [], 0, 0) = y at *
      obtain ⟨y0, y1, y2, y3, y4⟩ := y
      dsimp only at HY
      have zs := bstr_size y2
      have hz := b.size
      have HY := Lib.hid HY
      obtain ⟨z0, z1, z2, z3, z4⟩ := HY.out _ b
      have HFS := Lib.hid hfs
      clear hfs
      obtain ⟨⟨p1, p2⟩, p3, p4⟩ := right3 hry
      dsimp only at p1 p2 p3 p4
      have Z1 := Lib.hid (fun (W : World) => rzig_any y3 W (by omega) (by omega))
      have Z2 := Lib.hid (fun (W : World) => rzig_any y4 W (by omega) (by omega))
      have q3 : zig y3 ≤ 18446744073709551615 := by unfold zig; split <;> omega
      have q4 : zig y4 ≤ 18446744073709551615 := by unfold zig; split <;> omega
      have V1 := vp_len10 (n := zig y3) (by omega)
      have e0 : plE 3 (y0, y1, y2, y3, y4) = vp (zig y3) ++ vp (zig y4) := by unfold plE; rw [if_neg (by decide), if_neg (by decide), if_pos rfl]
      rw [e0, ← List.append_assoc] at HFS
      clear e0
      generalize zig y3 = s3 at *
      generalize zig y4 = s4 at *
      have U := Lib.hid (rput_any (c := cc) s3 o.reads (by omega) q3)
      go_wp2_with fail
      refine (Z1.out _).mono ?_
      rintro e w2 ⟨rfl, rfl⟩
      go_wp2_with fail
      refine U.out.mono ?_
      rintro e w2 ⟨A2, n2, c2, rfl, k2, b2⟩
      have hn2 : n2 ≤ 100000000010 := by have a := k2.len; have b' := o.len; rw [nums_length] at a b'; rw [List.length_append] at a; omega
      have b02 := b.trans (Below.mono b2 hz)
      have hz2 := b02.size
      have U2 := Lib.hid (rput_any (c := c2) s4 k2.reads (by omega) q4)
      clear z0 z1 z2 z3 z4
      obtain ⟨z0, z1, z2, z3, z4⟩ := HY.out _ b02
      go_wp2_with fail
      refine (Z2.out _).mono ?_
      rintro e w3 ⟨rfl, rfl⟩
      go_wp2_with fail
      refine U2.out.mono ?_
      rintro e w3 ⟨A3, n3, c3, rfl, k3, b3⟩
      go_wp2_with fail
      go_roundw
      case rel => exact ⟨k + 1, _, _, _, by omega, by go_num, rfl, by rw [HFS.out]; exact k3.base_le hz2, b02.trans (Below.mono b3 hz2)⟩
      case measure => simp [intOf]; omega
    · obtain rfl : k = L.length := by omega
      rw [List.take_length] at o
      go_wp2_with fail
      go_ret2
      exact ⟨_, _, _, rfl, o, b⟩

end Go.Proofs.Ythdkbfffjlkbpaa
/- The contract of hypostyleref09.Encode, of every type. -/

namespace Go.Proofs.Ythdkbfffjlkbpaa
open Go.RowKit Go.Hm
theorem bits_snoc {L : List CellS} {k : Nat} (h : k < L.length) : bitsP (L.take (k + 1)) = bitsP (L.take k) ++ [u64N (L.getD k (false, 0, [], 0, 0)).2.1] := by
  unfold bitsP
  rw [take_snoc L k (false, 0, [], 0, 0) h, List.map_append]
  rfl
theorem pack_plB {L : List CellS} (hR : ∀ c ∈ L, rightB c 1 false = true) (hn : L.length ≤ 65536) : packO (bitsP L) 1 = some (plB 1 L) := by
  refine (packO_some (bitsP L) 1 (by omega) (by unfold bitsP; rw [List.length_map]; omega) (bitsP_wid hR)).trans ?_
  unfold plB
  rw [if_pos rfl]
  unfold bitsP
  rw [List.length_map]
set_option maxHeartbeats 4000000 in
set_option maxRecDepth 100000 in
theorem rplain1 {w : World} {A : Option Addr} {c : Nat} {L : List CellS} (h : Reads w w.heap.size 5 A L.length (recs cellV L)) (hL : ∀ y ∈ L, cellData y) (hn : L.length ≤ 65536) (hR : ∀ c ∈ L, rightB c 1 false = true) (hok : plOk 1 L = true) :
    Calls Try.prog 37 #[.int .i64 1, .slice A L.length c] w (OptB (some (plB 1 L)) w) := by
  have FN := Lib.hid (rfine_any (t := 1) (c := c) h (fun y hy => (hL y hy).1.1) (by omega))
  rw [hok] at FN
  have HR := Lib.hid h
  have HP := Lib.hid (pack_plB hR hn)
  clear h hL hR hok
  go_enter Try.func37, Try.ntmps37
  go_wp2_with fail
  refine FN.out.mono ?_
  rintro e w1 ⟨rfl, b1⟩
  clear FN
  go_wp2_with fail
  go_loopw [8, 9] (fun v i wr => ∃ (k cc : Nat) (AA : Option Addr), k ≤ L.length ∧ i = .int .i64 (k : Int) ∧ v = .slice AA k cc ∧ Own wr w.heap.size 58 (.slice AA k cc) (nums .u64 (bitsP (L.take k))) ∧ Below w.heap.size w wr) (fun _ i _ => L.length - (intOf i).toNat)
  case atStart => exact ⟨0, 0, none, Nat.zero_le _, rfl, rfl, Own.nil_, b1⟩
  case round =>
    obtain ⟨k, cc, AA, hk2, rfl, rfl, o, b⟩ := hrel
    by_cases hlt : k < L.length
    · obtain ⟨ad, rfl, hb, d0, d1, d2, d3, d4⟩ := (Reads.later HR.out b).cell5 hlt
      have HS := Lib.hid (bits_snoc hlt)
      generalize L.getD k (false, 0, [], 0, 0) = y at *
      obtain ⟨y0, y1, y2, y3, y4⟩ := y
      dsimp only at d0 d1 d2 d3 d4 HS
      have hz := b.size
      have hw := u64_wrapN y1
      generalize u64N y1 = z at *
      go_wp2_with (refine wpList_pushN elW rfl (.tmp 34) (.tmp 41) rfl (W := w) (B := w.heap.size) o rfl rfl z rfl b (Nat.le_refl _) hz (by omega) (by simp only [maxLen]; omega) ?_
                   intro A3 c3 w3 _ _ k3 _ b3 _ _)
      go_roundw
      case rel => exact ⟨k + 1, c3, A3, by omega, by go_num, rfl, by rw [HS.out]; exact k3, b3⟩
      case measure => simp [intOf]; omega
    · obtain rfl : k = L.length := by omega
      rw [List.take_length] at o
      have P := rpack_any (c := cc) 1 o.reads (fun x hx => by unfold bitsP at hx; obtain ⟨y, _, rfl⟩ := List.mem_map.1 hx; have := u64N_lt y.2.1; omega) (by omega) (by omega) (by omega)
      rw [HP.out] at P
      have P := Lib.hid P
      go_wp2_with fail
      refine P.out.mono ?_
      rintro e w5 ⟨A5, n5, c5, rfl, o5, b5⟩
      have hz := b.size
      go_wp2_with fail
      go_ret2
      exact ⟨_, _, _, rfl, o5.base_le hz, b.trans (Below.mono b5 hz)⟩
set_option maxHeartbeats 2000000 in
set_option maxRecDepth 100000 in
theorem rplain_any {w : World} {t : Int} {A : Option Addr} {n c : Nat} {L : List CellS} (h : Reads w w.heap.size 5 A n (recs cellV L)) (hL : ∀ y ∈ L, cellData y) (hn : n ≤ 4611686018427387903) :
    Calls Try.prog 37 #[.int .i64 t, .slice A n c] w (OptB (plO t L) w) := by
  obtain rfl := h.lenCell
  unfold plO
  by_cases hok : plOk t L = true
  · rw [if_pos hok]
    obtain ⟨⟨h1, h2, h3⟩, h4⟩ := plOk_iff.1 hok
    rcases (show t = 0 ∨ t = 1 ∨ t = 2 ∨ t = 3 by omega) with rfl | rfl | rfl | rfl
    · exact rplain0 h hL h3 h4 hok
    · exact rplain1 h hL h3 h4 hok
    · exact rplain2 h hL h3 h4 hok
    · exact rplain3 h hL h3 h4 hok
  · rw [if_neg hok]
    have FN := Lib.hid (rfine_any (t := t) (c := c) h (fun y hy => (hL y hy).1.1) hn)
    rw [Bool.eq_false_iff.2 hok] at FN
    clear h hL hok
    go_enter Try.func37, Try.ntmps37
    go_wp2_with fail
    refine FN.out.mono ?_
    rintro e w1 ⟨rfl, b1⟩
    go_wp2_with fail
    go_ret2
    exact ⟨rfl, b1⟩

end Go.Proofs.Ythdkbfffjlkbpaa
/- Cells of type 1 as bits: which decoding answers. Plain lists. -/

namespace Go.Hm
open Go Go.RowKit
def bitC (x : Nat) : CellS := (false, (x : Int), [], 0, 0)
theorem bits_bitC {l : List Nat} (h : ∀ x ∈ l, x < 2) : bitsP (l.map bitC) = l := by
  unfold bitsP
  rw [List.map_map]
  conv => rhs; rw [← List.map_id l]
  refine List.map_congr_left fun x hx => ?_
  have := h x hx
  show u64N (x : Int) = x
  unfold u64N
  omega
theorem bitC_bits {l : List CellS} (h : ∀ c ∈ l, rightB c 1 false = true) : (bitsP l).map bitC = l := by
  unfold bitsP
  rw [List.map_map]
  conv => rhs; rw [← List.map_id l]
  refine List.map_congr_left fun c hc => ?_
  have hr := h c hc
  have h0 := right0 hr
  have h1 := right1 hr
  obtain ⟨y0, y1, y2, y3, y4⟩ := c
  dsimp only at h0 h1
  subst h0
  have e : (y2 = [] ∧ y3 = 0 ∧ y4 = 0) ∧ (y1 = 0 ∨ y1 = 1) := by simpa [rightB] using hr
  obtain ⟨⟨rfl, rfl, rfl⟩, -⟩ := e
  show bitC (u64N y1) = (false, y1, [], 0, 0)
  unfold bitC u64N
  rcases h1 with rfl | rfl <;> rfl
theorem right_bitC {x : Nat} (h : x < 2) : rightB (bitC x) 1 false = true := by
  have : x = 0 ∨ x = 1 := by omega
  rcases this with rfl | rfl <;> simp [rightB, bitC]

end Go.Hm

namespace Go.Proofs.Ythdkbfffjlkbpaa
open Go.RowKit Go.Hm
theorem isPl_bits {b : List Nat} {n : Int} (h8 : ∀ x ∈ b, x < 256) : IsPl cellData 1 b n ((unpackO b 1 n).map fun l => l.map bitC) := by
  constructor
  · intro l hl
    cases hu : unpackO b 1 n with
    | none => rw [hu] at hl; cases hl
    | some k =>
      rw [hu] at hl
      injection hl with hl
      subst hl
      obtain ⟨hp, hlen, hw, hk, hf⟩ := pack_unpack h8 hu
      have h2 : ∀ x ∈ k, x < 2 := by
        have := (wid_iff k 1 (by omega) hk).1 (by omega)
        simpa using this
      have hR : ∀ c ∈ k.map bitC, rightB c 1 false = true := fun c hc => by
        obtain ⟨x, hx, rfl⟩ := List.mem_map.1 hc
        exact right_bitC (h2 x hx)
      have hpb := pack_plB hR (by rw [List.length_map]; exact hf)
      rw [bits_bitC h2, hp] at hpb
      injection hpb with hpb
      refine ⟨by rw [List.length_map]; exact hlen, plO_iff.2 ⟨plOk_iff.2 ⟨⟨by omega, by omega, by rw [List.length_map]; exact hf⟩, hR⟩, hpb.symm⟩, fun c hc => ?_⟩
      obtain ⟨x, hx, rfl⟩ := List.mem_map.1 hc
      have := h2 x hx
      unfold cellData bitC
      exact ⟨⟨by simp, by simp⟩, by dsimp only; omega⟩
  · intro l _ hlen hp
    obtain ⟨hok, hb⟩ := plO_iff.1 hp
    obtain ⟨⟨_, _, hf⟩, hR⟩ := plOk_iff.1 hok
    have hbl : (bitsP l).length = l.length := by unfold bitsP; rw [List.length_map]
    have hu := unpack_pack (bitsP l) 1 (by omega) (by omega) (bitsP_wid hR) (fun x hx => by unfold bitsP at hx; obtain ⟨y, _, rfl⟩ := List.mem_map.1 hx; have := u64N_lt y.2.1; omega)
    have e : low (pk 1 (bitsP l)) ((1 * (bitsP l).length + 7) / 8) = b := by
      rw [← hb]
      unfold plB
      rw [if_pos rfl, hbl]
    rw [e, hbl, hlen] at hu
    have hu : unpackO b 1 n = some (bitsP l) := hu
    rw [hu]
    show some ((bitsP l).map bitC) = some l
    rw [bitC_bits hR]

end Go.Proofs.Ythdkbfffjlkbpaa
/- The contracts of plain.unpackBools and of plain.Decode, of every type. -/

namespace Go.Hm
open Go Go.RowKit
theorem madeCells5 (a b c d f : Value) (n : Nat) : (madeCells #[a, b, c, d, f] (n * 5)).toList = (List.replicate n [a, b, c, d, f]).flatten := by
  induction n with
  | zero => simp [madeCells]
  | succ n ih =>
    rw [List.replicate_succ', List.flatten_append, ← ih]
    have e : ∀ m, m % 5 = 0 → (madeCells #[a, b, c, d, f] (m + 5)).toList = (madeCells #[a, b, c, d, f] m).toList ++ [a, b, c, d, f] := by
      intro m hm
      simp only [madeCells, Array.toList_map, Array.toList_range, List.range_succ, List.map_append, List.map_cons, List.map_nil, List.append_assoc, List.cons_append, List.nil_append, List.size_toArray, List.length_cons, List.length_nil]
      rw [hm, show (m + 1) % 5 = 1 by omega, show (m + 2) % 5 = 2 by omega, show (m + 3) % 5 = 3 by omega, show (m + 4) % 5 = 4 by omega]
      rfl
    rw [Nat.succ_mul, e (n * 5) (by omega)]
    simp

section
variable {P : Program} {ops : Array Oper} {rest : List Oper} {o : Oper} {a : Act} {Q : Exit → Act → World → Prop}
/-- make of a row of records of five cells. -/
theorem wpList_mkR5 {w : World} {t e : TypeId} {x y z u v : Value} {bytes : Nat} (E : ElT P t e (.agg #[x, y, z, u, v]) 5 bytes) (hgd : o.guard = none) (lo co : Operand) (ho : o.op = Op.makeSlice t lo co)
    {W : World} {B : Nat} {kl kc : IntKind} {L C : Int} (n : Nat) (hl : a.eval lo = .int kl L) (hc : a.eval co = .int kc C) (hL : L = (n : Int)) (hC : C = (n : Int)) (hb : Below B W w) (hbase : B ≤ w.heap.size)
    (hn : n * bytes ≤ 140737488355328) (hm : n ≤ maxLen)
    (h : ∀ w', w'.ownsRow w.heap.size e 5 (.slice (some ⟨w.heap.size, 0, none⟩) n n) n (List.replicate n [x, y, z, u, v]).flatten → w.grownBy w' none → Below B W w' → w'.heap.size = w.heap.size + 1 → wpList P ops Q rest (a.put o.dst (.slice (some ⟨w.heap.size, 0, none⟩) n n)) w') :
    wpList P ops Q (o :: rest) a w := by
  obtain ⟨i, hi, hz0, hs1, hb1⟩ := info_parts E.hi
  subst hL hC
  have hmC : (n : Int) ≤ 9223372036854775807 := by have h := hm; simp only [maxLen] at h; omega
  have hbC : (i.bytes : Int) * (n : Int) ≤ 281474976710656 := by
    have h : ((i.bytes * n : Nat) : Int) ≤ 281474976710656 := by rw [hb1, Nat.mul_comm]; omega
    rwa [Int.natCast_mul] at h
  have hrun := run_make (P := P) w t e i (.agg #[x, y, z, u, v]) E.ht hi hz0 kl kc (n : Int) (n : Int) (by omega) (by omega) hbC hmC
  rw [Int.toNat_natCast, hs1] at hrun
  refine wpList_plain hgd fun K hK => ?_
  unfold Oper.wp
  simp [execOp, ho, hl, hc, hrun, Result.andThen]
  refine hK _ _ (h _ ?_ (World.grownBy_alloc _ _ _) (hb.alloc hbase _) (by simp))
  refine ⟨by simp, .inr ⟨_, n, _, rfl, Nat.le_refl _, heap_alloc_new w _, Nat.le_refl _, hm, by simp [size_madeCells], ?_⟩⟩
  rw [List.take_of_length_le (by simp [size_madeCells])]
  exact madeCells5 x y z u v n
end
theorem recs_set {A B : List CellS} {z : Nat} : (recs cellV (A ++ cell0 :: B)).set (A.length * 5 + 1) (.int .i64 (z : Int)) = recs cellV (A ++ bitC z :: B) := by
  have l : (recs cellV A).length = A.length * 5 := recs_length (sz := 5) (fun _ => rfl) A
  rw [recs_append, recs_append, List.set_append_right _ _ (by omega), l, show A.length * 5 + 1 - A.length * 5 = 1 by omega]
  congr 1
theorem recs_rep0 (n : Nat) : (List.replicate n [Value.bool false, .int .i64 0, .string ⟨#[]⟩, .int .i64 0, .int .i64 0]).flatten = recs cellV (List.replicate n cell0) := by
  induction n with
  | zero => rfl
  | succ n ih =>
    rw [List.replicate_succ, List.flatten_cons, ih, List.replicate_succ]
    rfl

end Go.Hm

namespace Go.Proofs.Ythdkbfffjlkbpaa
open Go.RowKit Go.Hm
set_option maxHeartbeats 2000000 in
set_option maxRecDepth 100000 in
theorem unpackBools_any {w : World} {A : Option Addr} {c m : Nat} {b : List Nat} {n : Nat} (h : Reads w w.heap.size 1 A m (nums .u8 b)) (h8 : ∀ x ∈ b, x < 256) (hm : m ≤ 140737488351232) (hn : n ≤ 65536) :
    Calls Try.prog 87 #[.slice A m c, .int .i64 (n : Int)] w (OptC ((unpackO b 1 (n : Int)).map fun l => l.map bitC) w) := by
  obtain rfl : m = b.length := h.len
  have U := Lib.hid (unpack_any (c := c) 1 (n : Int) h h8 (by omega) (by omega) (by omega) (by omega) (by omega))
  have hpu := fun l => pack_unpack (l := l) (x := 1) (n := (n : Int)) h8
  clear h h8
  generalize unpackO b 1 (n : Int) = O at *
  cases O with
  | none =>
    go_enter Try.func87, Try.ntmps87
    go_wp2_with fail
    refine U.out.mono ?_
    rintro e w1 ⟨rfl, b1⟩
    go_wp2_with fail
    go_ret2
    exact ⟨rfl, b1⟩
  | some l =>
    obtain ⟨-, hlen, hw, hk, hf⟩ := hpu l rfl
    have h2 : ∀ x ∈ l, x < 2 := by
      have := (wid_iff l 1 (by omega) hk).1 (by omega)
      simpa using this
    obtain rfl : n = l.length := by omega
    have H2 := Lib.hid h2
    clear hpu hlen hw hk h2
    go_enter Try.func87, Try.ntmps87
    go_wp2_with fail
    refine U.out.mono ?_
    rintro e w1 ⟨A1, n1, c1, rfl, k1, b1⟩
    obtain rfl : n1 = l.length := by have := k1.len; rwa [nums_length] at this
    have hz1 := b1.size
    have R1 := Lib.hid k1.reads
    clear U k1
    go_wp2_with (refine wpList_mkR5 elC9 rfl (.tmp 19) (.tmp 19) rfl (W := w) (B := w.heap.size) l.length rfl rfl rfl rfl b1 hz1 (by omega) (by simp only [maxLen]; omega) ?_
                 intro w2 o2 g2 b2 hs2)
    rw [recs_rep0] at o2
    have b12 : New w1 w2 := (Turns.of_none (T := []) g2).new (by simp)
    go_loopw [23] (fun i wr => ∃ k : Nat, k ≤ l.length ∧ i = .int .i64 (k : Int) ∧ wr.ownsRow w1.heap.size 29 5 (.slice (some ⟨w1.heap.size, 0, none⟩) l.length l.length) l.length (recs cellV ((l.take k).map bitC ++ List.replicate (l.length - k) cell0)) ∧ New w1 wr) (fun i _ => l.length - (intOf i).toNat)
    case atStart => exact ⟨0, Nat.zero_le _, rfl, by simpa using o2, b12⟩
    case round =>
      obtain ⟨k, hk, rfl, o, hb⟩ := hrel
      clear o2 g2 b2 b12 hs2
      by_cases hlt : k < l.length
      · obtain ⟨ax, rfl, hbx, qx⟩ := (Reads.later R1.out hb).num (i := k) hlt
        have hx2 := H2.out (l.getD k 0) (by rw [List.getD_eq_getElem?_getD, List.getElem?_eq_getElem hlt]; exact List.getElem_mem hlt)
        have htk := take_snoc l k 0 hlt
        generalize l.getD k 0 = x at *
        have hwr : IntKind.i64.wrap (x : Int) = (x : Int) := IntWalk.i64_in _ (by omega)
        obtain ⟨ad, ea, _, -, d1, -⟩ := (Reads.of_own o).cell5 (i := k) hlt
        injection ea with ea
        subst ea
        obtain ⟨cs, BR⟩ := row_blk o
        have f1 := BR.frozen (k * 5 + 1)
        have ead : (⟨w1.heap.size, 0, none⟩ : Addr).add (k * 5) = ⟨w1.heap.size, k * 5, none⟩ := by
          unfold Addr.add
          split <;> simp_all
        rw [ead] at d1
        dsimp only at d1
        have hA : ((l.take k).map bitC).length = k := by rw [List.length_map, List.length_take]; omega
        obtain ⟨o', -⟩ := World.ownsRow.stored o (k * 5 + 1) (.int .i64 (x : Int))
        have ers := recs_set (A := (l.take k).map bitC) (B := List.replicate (l.length - (k + 1)) cell0) (z := x)
        rw [hA] at ers
        rw [show l.length - k = (l.length - (k + 1)) + 1 by omega, List.replicate_succ, ers] at o'
        have o' : (wr.setCell ⟨w1.heap.size, k * 5 + 1, none⟩ (.int .i64 (x : Int))).ownsRow w1.heap.size 29 5 (.slice (some ⟨w1.heap.size, 0, none⟩) l.length l.length) l.length (recs cellV ((l.take (k + 1)).map bitC ++ List.replicate (l.length - (k + 1)) cell0)) := by
          rw [htk, List.map_append, List.append_assoc]
          exact o'
        have O' := Lib.hid o'
        have HB := Lib.hid (hb.setCell (p := ⟨w1.heap.size, k * 5 + 1, none⟩) (Nat.le_refl _) (.int .i64 (x : Int)))
        clear o' ers o htk hA BR
        go_wp2_with fail
        go_roundw
        case rel => exact ⟨k + 1, by omega, by go_num, O'.out, HB.out⟩
        case measure => simp [intOf]; omega
      · obtain rfl : k = l.length := by omega
        rw [Nat.sub_self, List.replicate_zero, List.append_nil, List.take_length] at o
        go_wp2_with fail
        go_ret2
        exact ⟨_, _, _, rfl, row_base o hz1, New.trans b1 hb⟩

end Go.Proofs.Ythdkbfffjlkbpaa
/- The contract of plain.Decode, of every type. -/

namespace Go.Proofs.Ythdkbfffjlkbpaa
open Go.RowKit Go.Hm
theorem isPl_no {t : Int} {b : List Nat} {n : Int} (h : ¬ (0 ≤ t ∧ t ≤ 3 ∧ 0 ≤ n ∧ n ≤ 65536)) : IsPl cellData t b n none :=
  ⟨fun l e => (by cases e), fun l _ hl hp => by
    have := (plOk_iff.1 (plO_iff.1 hp).1).1
    omega⟩
set_option maxHeartbeats 400000 in
set_option maxRecDepth 100000 in
theorem pdecode_all {w : World} {A : Option Addr} {c m : Nat} {b : List Nat} {t n : Int} (h : Reads w w.heap.size 1 A m (nums .u8 b)) (h8 : ∀ x ∈ b, x < 256) (hm : m ≤ 140737488351232) :
    Calls Try.prog 67 #[.int .i64 t, .slice A m c, .int .i64 n] w (PDec t b n w) := by
  by_cases hk : 0 ≤ t ∧ t ≤ 3 ∧ 0 ≤ n ∧ n ≤ 65536
  · obtain ⟨n, rfl⟩ := Int.eq_ofNat_of_zero_le hk.2.2.1
    by_cases h1 : t = 1
    · subst h1
      have KN := known_any (w := w) (t := 1) (n := (n : Int))
      rw [decide_eq_true hk] at KN
      have KN := Lib.hid KN
      have U := Lib.hid (unpackBools_any (c := c) (n := n) h h8 hm (by omega))
      have HI := Lib.hid (isPl_bits (n := (n : Int)) h8)
      clear h h8 hk
      generalize (unpackO b 1 (n : Int)).map (fun l => l.map bitC) = O at *
      go_enter Try.func67, Try.ntmps67
      go_wp2_with fail
      refine KN.out.mono ?_
      rintro e w1 ⟨rfl, rfl⟩
      go_wp2_with fail
      refine U.out.mono ?_
      intro e w2 h2
      cases O with
      | none =>
        obtain ⟨rfl, b2⟩ := h2
        go_wp2_with fail
        go_ret2
        exact ⟨none, HI.out, rfl, b2⟩
      | some l =>
        obtain ⟨A2, n2, c2, rfl, o2, b2⟩ := h2
        go_wp2_with fail
        go_ret2
        exact ⟨some l, HI.out, _, _, _, rfl, o2, b2⟩
    · exact pdecode_any h h8 hm (by omega) (by omega)
  · have KN := known_any (w := w) (t := t) (n := n)
    rw [decide_eq_false hk] at KN
    have KN := Lib.hid KN
    have HI := Lib.hid (isPl_no (b := b) hk)
    clear h h8 hk
    go_enter Try.func67, Try.ntmps67
    go_wp2_with fail
    refine KN.out.mono ?_
    rintro e w1 ⟨rfl, rfl⟩
    go_wp2_with fail
    go_ret2
    exact ⟨none, HI.out, rfl, New.refl _⟩

end Go.Proofs.Ythdkbfffjlkbpaa
/- What two ends are read as, as a plain function; the contract of stat.getEnds. -/

namespace Go.Proofs.Ythdkbfffjlkbpaa
open Go.RowKit Go.Hm
open Classical in
/-- What b is decoded to, of n cells. -/
noncomputable def plD (t : Int) (b : List Nat) (n : Int) : Option (List CellS) :=
  if h : ∃ l : List CellS, (∀ c ∈ l, cellData c) ∧ (l.length : Int) = n ∧ plO t l = some b then some h.choose else none
theorem isPl_is {t : Int} {b : List Nat} {n : Int} {o : Option (List CellS)} (h : IsPl cellData t b n o) : o = plD t b n := by
  unfold plD
  split
  · rename_i hx
    obtain ⟨h1, h2, h3⟩ := hx.choose_spec
    exact h.compl _ h1 h2 h3
  · rename_i hx
    cases o with
    | none => rfl
    | some l =>
      obtain ⟨h1, h2, h3⟩ := h.sound l rfl
      exact absurd ⟨l, h3, h1, h2⟩ hx
theorem plD_some {t : Int} {b : List Nat} {n : Int} {l : List CellS} (h : plD t b n = some l) : (∀ c ∈ l, cellData c) ∧ (l.length : Int) = n ∧ plO t l = some b := by
  unfold plD at h
  split at h
  · rename_i hx
    injection h with h
    subst h
    exact hx.choose_spec
  · cases h
/-- Two ends are read. -/
noncomputable def endsS (t : Int) (S : St) : (CellS × CellS) × St :=
  match plD t (takeS ((lenS ((S.getD []).length : Int) S).1 : Int) (lenS ((S.getD []).length : Int) S).2).1 2 with
  | some [a, b] => ((a, b), (takeS ((lenS ((S.getD []).length : Int) S).1 : Int) (lenS ((S.getD []).length : Int) S).2).2)
  | _ => ((cell0, cell0), none)
theorem endsS_data (t : Int) (S : St) : cellData (endsS t S).1.1 ∧ cellData (endsS t S).1.2 := by
  have h0 : cellData cell0 := ⟨⟨by simp [cell0], by simp [cell0]⟩, by simp [cell0], by simp [cell0]⟩
  unfold endsS
  split
  · rename_i a b h
    have := (plD_some h).1
    exact ⟨this a (by simp), this b (by simp)⟩
  · exact ⟨h0, h0⟩
theorem row_touch {w w' : World} {T : List Nat} {base sz n : Nat} {e : TypeId} {v : Value} {xs : List Value} (h : w.ownsRow base e sz v n xs) (k : Turns T w w') (hT : ∀ x ∈ T, x < base) : w'.ownsRow base e sz v n xs := by
  refine ⟨h.1, ?_⟩
  rcases h.2 with hn | ⟨g, cap, cur, rfl, hbg, hgg, rest⟩
  · exact .inl hn
  · refine .inr ⟨g, cap, cur, rfl, hbg, ?_, rest⟩
    rw [k.block g (Array.getElem?_eq_some_iff.1 hgg).1 (fun hm => by have := hT g hm; omega)]
    exact hgg
/-- Two cells of a row of two. -/
theorem row2_cells {W : World} {base c : Nat} {e : TypeId} {ad : Addr} {p q : CellS} (h : W.ownsRow base e 5 (.slice (some ad) 2 c) 2 (recs cellV [p, q])) :
    (W.cell? ad = some (.bool p.1) ∧ W.cell? ⟨ad.block, ad.off + 1, none⟩ = some (.int .i64 p.2.1) ∧ W.cell? ⟨ad.block, ad.off + 2, none⟩ = some (.string (bstr p.2.2.1)) ∧ W.cell? ⟨ad.block, ad.off + 3, none⟩ = some (.int .i64 p.2.2.2.1) ∧ W.cell? ⟨ad.block, ad.off + 4, none⟩ = some (.int .i64 p.2.2.2.2))
    ∧ W.cell? ⟨ad.block, ad.off + 5, none⟩ = some (.bool q.1) ∧ W.cell? ⟨ad.block, ad.off + 5 + 1, none⟩ = some (.int .i64 q.2.1) ∧ W.cell? ⟨ad.block, ad.off + 5 + 2, none⟩ = some (.string (bstr q.2.2.1)) ∧ W.cell? ⟨ad.block, ad.off + 5 + 3, none⟩ = some (.int .i64 q.2.2.2.1) ∧ W.cell? ⟨ad.block, ad.off + 5 + 4, none⟩ = some (.int .i64 q.2.2.2.2) := by
  have r := Reads.of_own h
  obtain ⟨a1, e1, _, d⟩ := r.cell5 (i := 0) (by omega)
  obtain ⟨a2, e2, _, d'⟩ := r.cell5 (i := 1) (by omega)
  injection e1 with e1
  injection e2 with e2
  subst e1 e2
  rw [Nat.zero_mul, add_zero'] at d
  exact ⟨d, d'⟩
theorem far_setRow' {w : World} {g : Nat} (cells : Array Value) : w.grownBy (w.setRow g cells) (some g) :=
  ⟨rfl, rfl, rfl, by simp [World.setRow], fun k _ hne => by
    simp [World.setRow, Array.getElem?_modify]
    intro e
    exact absurd (by rw [e]) hne⟩
/-- A whole block is stored, at the operation; no other is turned. -/
theorem wp_storeG {P : Program} {o : Oper} {a : Act} {w : World} {K : Act → World → Prop} {Q : Exit → Act → World → Prop} (ty : TypeId) (x y : Operand) (ho : o.op = .store ty x y)
    (g : Nat) (cells : Array Value) (hx : a.eval x = .pointer (some ⟨g, 0, none⟩)) (hy : a.eval y = .agg cells) {t : TypeId} {old : Array Value} (hB : Blk w g t old) (hi : (P.info? ty).map (·.size) = some cells.size)
    (hold : old.size = cells.size) (h1 : cells.all (·.oneCell') = true)
    (h : ∀ W, Blk W g t cells → w.grownBy W (some g) → K (a.put o.dst undef) W) : o.wp P a w K Q := by
  refine wp_store_row ty x y ho g cells hx hy t old hB hi hold h1 ?_
  refine h _ ?_ (far_setRow' cells)
  unfold Blk at hB ⊢
  simp [World.setRow, Array.getElem?_modify, hB]
def EndsPost (p : CellS × CellS) (g : Nat) (S : St) (w : World) (e : Ending) (w' : World) : Prop := e = .returned (.tuple #[cellA p.1, cellA p.2]) ∧ CurS w' g S ∧ w.grownBy w' (some g)
set_option maxHeartbeats 2000000 in
set_option maxRecDepth 100000 in
theorem ends_any {w : World} {g : Nat} {S : St} {t : Int} (h : CurS w g S) (hl : (S.getD []).length ≤ 140737488351232) :
    Calls Try.prog 40 #[.pointer (some ⟨g, 0, none⟩), .int .i64 t] w (EndsPost (endsS t S).1 g (endsS t S).2 w) := by
  obtain ⟨X, hX⟩ : ∃ X, X = endsS t S := ⟨_, rfl⟩
  rw [← hX]
  unfold endsS at hX
  have hle := lenS_le (m := ((S.getD []).length : Int)) S (by omega) h.ok
  have hok1 := lenS_ok (m := ((S.getD []).length : Int)) h.ok
  have hlt := h.lt
  have ha : New w ((w.alloc (.cells #[.bool false, .int .i64 0, .string ⟨#[]⟩, .int .i64 0, .int .i64 0] 29)).alloc (.cells #[.bool false, .int .i64 0, .string ⟨#[]⟩, .int .i64 0, .int .i64 0] 29)) := ((Below.refl _ _).alloc (Nat.le_refl _) _).alloc (by simp) _
  have h0 := h.below ha
  have LF := leftS h0
  unfold LeftPost at LF
  have LF := Lib.hid LF
  have L1 := Lib.hid (lenS_any (m := ((S.getD []).length : Int)) h0 (by omega) (by omega))
  have BA : Blk ((w.alloc (.cells #[.bool false, .int .i64 0, .string ⟨#[]⟩, .int .i64 0, .int .i64 0] 29)).alloc (.cells #[.bool false, .int .i64 0, .string ⟨#[]⟩, .int .i64 0, .int .i64 0] 29)) w.heap.size 29 #[.bool false, .int .i64 0, .string ⟨#[]⟩, .int .i64 0, .int .i64 0] := (Blk.new _ _ _).alloc _
  have BB : Blk ((w.alloc (.cells #[.bool false, .int .i64 0, .string ⟨#[]⟩, .int .i64 0, .int .i64 0] 29)).alloc (.cells #[.bool false, .int .i64 0, .string ⟨#[]⟩, .int .i64 0, .int .i64 0] 29)) (w.heap.size + 1) 29 #[.bool false, .int .i64 0, .string ⟨#[]⟩, .int .i64 0, .int .i64 0] := by
    have := Blk.new (w.alloc (.cells #[.bool false, .int .i64 0, .string ⟨#[]⟩, .int .i64 0, .int .i64 0] 29)) 29 #[.bool false, .int .i64 0, .string ⟨#[]⟩, .int .i64 0, .int .i64 0]
    rwa [World.size_alloc] at this
  generalize hL : (S.getD []).length = L at *
  generalize lenS (L : Int) S = H at *
  obtain ⟨n, S1⟩ := H
  dsimp only at *
  have htl := takeS_len (n := (n : Int)) (S := S1) (by omega)
  have htk := takeS_ok (n := (n : Int)) hok1
  have HX := Lib.hid hX
  have HL := Lib.hid hL
  clear h hX hL
  go_enter Try.func40, Try.ntmps40
  go_wp2_with fail
  refine LF.out.mono ?_
  rintro e w1' ⟨rfl, rfl⟩
  go_wp2_with fail
  refine L1.out.mono ?_
  rintro e w1 ⟨rfl, s1, g1⟩
  have hz1 := g1.size
  simp only [World.size_alloc] at hz1
  have BA1 := BA.grown g1 (by intro e; injection e with e; omega)
  have BB1 := BB.grown g1 (by intro e; injection e with e; omega)
  have G1 := (Far.of_new ha (g := g)).trans g1
  have T1 := Lib.hid (takeS_any (n := (n : Int)) s1 (by omega) (by omega))
  clear L1 LF h0 BA BB s1 g1 ha
  generalize takeS (n : Int) S1 = Q at *
  obtain ⟨x, S2⟩ := Q
  dsimp only at *
  go_wp2_with fail
  refine T1.out.mono ?_
  rintro e w2 ⟨A2, n2, c2, rfl, rfl, o2, s2, g2⟩
  have hz2 := g2.size
  have BA2 := BA1.grown g2 (by intro e; injection e with e; omega)
  have BB2 := BB1.grown g2 (by intro e; injection e with e; omega)
  have G2 := G1.trans g2
  have PD := Lib.hid (pdecode_all (t := t) (n := 2) (c := c2) o2.reads htk.2 (by omega))
  clear T1 BA1 BB1 G1 g2 o2
  go_wp2_with fail
  refine PD.out.mono ?_
  rintro e w3 ⟨o, ho, h3⟩
  have hX := HX.out
  have ho := isPl_is ho
  rw [← ho] at hX
  cases o with
  | none =>
    obtain ⟨rfl, b3⟩ := h3
    dsimp only at hX
    clear HX
    have HX := Lib.hid hX
    have hz3 := b3.size
    have BA3 := BA2.below b3 BA2.lt
    have BB3 := BB2.below b3 BB2.lt
    have G3 := G2.trans (Far.of_new b3)
    have F := Lib.hid (failS (s2.below b3))
    clear PD BA2 BB2 G2 s2 b3 ho hX
    go_wp2_with fail
    refine F.out.mono ?_
    rintro e w4 ⟨rfl, s4, g4⟩
    have hz4 := g4.size
    have BA4 := BA3.grown g4 (by intro e; injection e with e; omega)
    have BB4 := BB3.grown g4 (by intro e; injection e with e; omega)
    have G4 := Lib.hid (G3.trans g4)
    have HS4 := Lib.hid s4
    clear F BA3 BB3 G3 s4 g4
    go_wp2_with (first
      | (refine wpList_storeG rfl 29 _ (.tmp 25) rfl w.heap.size _ rfl rfl BA4 (by kernel_rfl) rfl (by simp [Value.oneCell']) ?_
         intro W5 BR G5
         have BB5 := BB4.grown G5 (by simp))
      | (refine wpList_storeG rfl 29 _ (.tmp 26) rfl (w.heap.size + 1) _ rfl rfl BB5 (by kernel_rfl) rfl (by simp [Value.oneCell']) ?_
         intro W6 BQ G6
         have BR6 := BR.grown G6 (by simp)
         obtain ⟨x0, x1, x2, x3, x4⟩ := cells5 BR6
         obtain ⟨y0, y1, y2, y3, y4⟩ := cells5 BQ))
    have hX := HX.out
    subst hX
    have hz5 := G5.size
    exact bodyPost_ret (v := .tuple #[cellA cell0, cellA cell0]) (by simp [results, Try.results40, go_sem, x0, x1, x2, x3, x4, y0, y1, y2, y3, y4, cellA, cellV, cell0, show bstr [] = ⟨#[]⟩ from rfl]) rfl ⟨rfl, (HS4.out.keep G5 BA4 (by omega) (by decide)).keep G6 BB5 (by omega) (by decide), grown_then (grown_then G4.out G5 (Nat.le_refl _)) G6 (by omega)⟩
  | some l =>
    obtain ⟨A3, n3, c3, rfl, o3, b3⟩ := h3
    obtain ⟨hd, hlen, -⟩ := plD_some ho.symm
    have hl2 : l.length = 2 := by omega
    obtain ⟨p, q, rfl⟩ : ∃ p q, l = [p, q] := by
      match l, hl2 with
      | [p, q], _ => exact ⟨p, q, rfl⟩
    dsimp only at hX
    have r3 := Reads.of_own o3
    obtain rfl : n3 = 2 := by have := r3.lenCell; simpa using this
    obtain ⟨ad, rfl, hb, d0, d1, d2, d3, d4⟩ := r3.cell5 (i := 0) (by omega)
    obtain ⟨ad', e, _, d5, d6, d7, d8, d9⟩ := r3.cell5 (i := 1) (by omega)
    injection e with e
    subst e
    simp only [List.getD_cons_zero, List.getD_cons_succ, Nat.zero_mul, Nat.one_mul] at d0 d1 d2 d3 d4 d5 d6 d7 d8 d9
    obtain ⟨p0, p1, p2, p3, p4⟩ := p
    obtain ⟨q0, q1, q2, q3, q4⟩ := q
    dsimp only at d0 d1 d2 d3 d4 d5 d6 d7 d8 d9
    clear HX
    have HX := Lib.hid hX
    have hz3 := b3.size
    have BA3 := BA2.below b3 BA2.lt
    have BB3 := BB2.below b3 BB2.lt
    have G3 := Lib.hid (G2.trans (Far.of_new b3))
    have HS3 := Lib.hid (s2.below b3)
    clear PD BA2 BB2 G2 s2 b3 ho hX r3 hlen hl2
    have HF := Lib.hid (fun (W : World) (hW : Turns [w.heap.size, w.heap.size + 1] w3 W) => row2_cells (row_touch o3 hW (by simp; omega)))
    dsimp only at HF
    clear d0 d1 d2 d3 d4 d5 d6 d7 d8 d9 o3 LF
    go_upto_region 6 with (fail)
    refine wp_region_up (Turns [w.heap.size, w.heap.size + 1]) [(true, 0), (true, 1), (true, 2), (true, 3), (true, 4), (true, 5), (false, 6), (false, 7)]
      (Turns.refl _) Turns.trans (by kernel_rfl) (by kernel_rfl) (by kernel_rfl) (by kernel_rfl) ?_
    have tD := Turns.drew [w.heap.size, w.heap.size + 1] w3
    have BA3 := BA3.drew
    have BB3 := BB3.drew
    have G3 := Lib.hid (G3.out.trans (Far.drew g w3))
    have HS3 := Lib.hid (HS3.out.below (New.drew w3))
    repeat (first
      | (refine up_quiet rfl rfl (v := ?_) (fun W hW => ?_) ?_
         rotate_left
         · obtain ⟨⟨d0, d1, d2, d3, d4⟩, d5, d6, d7, d8, d9⟩ := HF.out W (tD.trans hW)
           go_simp <;> with_reducible rfl
         simp only [Act.put, List.setIfInBounds_toArray, List.set_cons_zero, List.set_cons_succ]))
    refine up_call rfl rfl (fun K hK => ?_)
    refine wp_storeG 29 _ (.tmp 29) rfl w.heap.size _ rfl rfl BA3 (by kernel_rfl) rfl (by simp [Value.oneCell']) ?_
    intro W5 BR G5
    have BB5 := BB3.grown G5 (by simp)
    refine hK _ _ (Turns.of_far G5 (by simp)) ?_
    clear hK
    refine up_call rfl rfl (fun K hK => ?_)
    refine wp_storeG 29 _ (.tmp 32) rfl (w.heap.size + 1) _ rfl rfl BB5 (by kernel_rfl) rfl (by simp [Value.oneCell']) ?_
    intro W6 BQ G6
    have BR6 := BR.grown G6 (by simp)
    refine hK _ _ (Turns.of_far G6 (by simp)) ?_
    clear hK
    refine up_nil ?_
    obtain ⟨x0, x1, x2, x3, x4⟩ := cells5 BR6
    obtain ⟨y0, y1, y2, y3, y4⟩ := cells5 BQ
    go_wp2_with fail
    have hX := HX.out
    subst hX
    have hz5 := G5.size
    have hz4 : w3.heap.size ≤ W5.heap.size := hz5
    exact bodyPost_ret (v := .tuple #[cellA (p0, p1, p2, p3, p4), cellA (q0, q1, q2, q3, q4)]) (by simp [results, Try.results40, go_sem, x0, x1, x2, x3, x4, y0, y1, y2, y3, y4, cellA, cellV]) rfl ⟨rfl, (HS3.out.keep G5 BA3 (by omega) (by decide)).keep G6 BB5 (by omega) (by decide), grown_then (grown_then G3.out G5 (Nat.le_refl _)) G6 (by omega)⟩

end Go.Proofs.Ythdkbfffjlkbpaa
/- The contract of stat.Get. -/

namespace Go.Hm
open Go Go.RowKit
theorem lenS_sub {m : Int} {S : St} (hS : S.ok) : ((lenS m S).2.getD []).length ≤ (S.getD []).length := by
  rcases lenS_cases m S hS with h | ⟨N, r, rfl, _, _, h⟩
  · rw [h]; simp
  · rw [h]; simp
theorem byteS_sub {S : St} : ((byteS S).2.getD []).length ≤ (S.getD []).length := by
  unfold byteS
  split <;> simp

end Go.Hm

namespace Go.Proofs.Ythdkbfffjlkbpaa
open Go.RowKit Go.Hm
/-- Five cells are stored into a block, from a place on; no other is turned. -/
theorem wpList_store5G {P : Program} {ops : Array Oper} {rest : List Oper} {op : Oper} {a : Act} {w : World} {Q : Exit → Act → World → Prop} (hgd : op.guard = none) (ty : TypeId) (x y : Operand) (ho : op.op = .store ty x y)
    (g o : Nat) {v0 v1 v2 v3 v4 : Value} (hx : a.eval x = .pointer (some ⟨g, o, none⟩)) (hy : a.eval y = .agg #[v0, v1, v2, v3, v4]) {t : TypeId} {cs : Array Value} (hB : Blk w g t cs) (hsz : o + 5 ≤ cs.size)
    (hi : (P.info? ty).map (·.size) = some 5) (h1 : (#[v0, v1, v2, v3, v4] : Array Value).all (·.oneCell') = true)
    (h : ∀ W, Blk W g t (((((cs.setIfInBounds o v0).setIfInBounds (o + 1) v1).setIfInBounds (o + 1 + 1) v2).setIfInBounds (o + 1 + 1 + 1) v3).setIfInBounds (o + 1 + 1 + 1 + 1) v4) →
      w.grownBy W (some g) → wpList P ops Q rest (a.put op.dst undef) W) : wpList P ops Q (op :: rest) a w := by
  have ht : w.there g o (#[v0, v1, v2, v3, v4] : Array Value).size := by
    intro j hj
    have hj : j < 5 := hj
    refine ⟨?_, hB.frozen _⟩
    rw [hB.cell, Array.getElem?_eq_getElem (by omega)]
    rfl
  refine wpList_store_mid hgd ty x y ho g o #[v0, v1, v2, v3, v4] hx hy ht hi h1 ?_
  exact h _ (((((hB.set_ o v0).set_ (o + 1) v1).set_ (o + 1 + 1) v2).set_ (o + 1 + 1 + 1) v3).set_ (o + 1 + 1 + 1 + 1) v4)
    (((((setCell_grown (w := w) (g := g) (i := o) (x := v0)).trans setCell_grown).trans setCell_grown).trans setCell_grown).trans setCell_grown)
/-- A stat is read, as it lies there. -/
noncomputable def rawS (t : Int) (S : St) : StatS × St :=
  if (byteS (lenS 65536 S).2).1 = 1 then ((((lenS 65536 S).1 : Int), true, (endsS t (byteS (lenS 65536 S).2).2).1.1, (endsS t (byteS (lenS 65536 S).2).2).1.2), (endsS t (byteS (lenS 65536 S).2).2).2)
  else ((((lenS 65536 S).1 : Int), false, cell0, cell0), (byteS (lenS 65536 S).2).2)
/-- A right stat is read. -/
noncomputable def getA (t : Int) (S : St) : StatS × St :=
  if (byteS (lenS 65536 S).2).1 ≤ 1 ∧ (rawS t S).2 ≠ none ∧ rightS t (rawS t S).1 = true then rawS t S else (stat0, none)
set_option maxHeartbeats 4000000 in
set_option maxRecDepth 100000 in
theorem sget_has {w : World} {g : Nat} {S : St} {t : Int} (h : CurS w g S) (h1 : (byteS (lenS 65536 S).2).1 = 1) (hl : (S.getD []).length ≤ 140737488351232) :
    Calls Try.prog 21 #[.pointer (some ⟨g, 0, none⟩), .int .i64 t] w
      (SGetPost (getA t S).1 g (getA t S).2 w) := by
  obtain ⟨X, hX⟩ : ∃ X, X = getA t S := ⟨_, rfl⟩
  rw [← hX]
  unfold getA rawS at hX
  rw [if_pos h1, h1] at hX
  have hle := lenS_le (m := 65536) S (by omega) h.ok
  have hsub := lenS_sub (m := 65536) h.ok
  have hlt := h.lt
  have ha : New w (w.alloc (.cells (statV stat0).toArray 31)) := (Below.refl _ _).alloc (Nat.le_refl _) _
  have h0 := h.below ha
  have L1 := Lib.hid (lenS_any (m := 65536) h0 (by omega) (by omega))
  have BZ0 : Blk (w.alloc (.cells (statV stat0).toArray 31)) w.heap.size 31 (statV stat0).toArray := Blk.new _ _ _
  generalize lenS 65536 S = H at *
  obtain ⟨n, S1⟩ := H
  dsimp only at *
  have hsub2 := byteS_sub (S := S1)
  have HX := Lib.hid hX
  have H1 := Lib.hid h1
  clear h hX h1
  go_enter Try.func21, Try.ntmps21
  go_wp2_with fail
  refine L1.out.mono ?_
  rintro e w1 ⟨rfl, s1, g1⟩
  have C2 := Lib.hid (byteS_any (s1.below ((Below.refl _ _).alloc (Nat.le_refl _) (.cells #[.int .i64 (n : Int), .bool false, .bool false, .int .i64 0, .string ⟨#[]⟩, .int .i64 0, .int .i64 0, .bool false, .int .i64 0, .string ⟨#[]⟩, .int .i64 0, .int .i64 0] 31))))
  have hz1 := g1.size
  have BZ1 := (BZ0.grown g1 (by intro e; injection e with e; omega)).alloc (.cells #[.int .i64 (n : Int), .bool false, .bool false, .int .i64 0, .string ⟨#[]⟩, .int .i64 0, .int .i64 0, .bool false, .int .i64 0, .string ⟨#[]⟩, .int .i64 0, .int .i64 0] 31)
  have BT1 := Blk.new w1 31 #[.int .i64 (n : Int), .bool false, .bool false, .int .i64 0, .string ⟨#[]⟩, .int .i64 0, .int .i64 0, .bool false, .int .i64 0, .string ⟨#[]⟩, .int .i64 0, .int .i64 0]
  have G1 := (Far.of_new ha (g := g)).trans (g1.trans (Far.of_new ((Below.refl _ w1).alloc (Nat.le_refl _) (.cells #[.int .i64 (n : Int), .bool false, .bool false, .int .i64 0, .string ⟨#[]⟩, .int .i64 0, .int .i64 0, .bool false, .int .i64 0, .string ⟨#[]⟩, .int .i64 0, .int .i64 0] 31))))
  have hb1 := H1.out
  generalize byteS S1 = Bq at *
  obtain ⟨y, S2⟩ := Bq
  dsimp only at *
  clear L1 h0 BZ0 s1 g1 ha H1
  subst hb1
  go_wp2_with fail
  refine C2.out.mono ?_
  rintro e w2 ⟨rfl, s2, g2⟩
  have hz2 := g2.size
  simp only [World.size_alloc] at hz1 hz2
  have BZ2 := BZ1.grown g2 (by intro e; injection e with e; omega)
  have BT2 := BT1.grown g2 (by intro e; injection e with e; omega)
  have G2 := G1.trans g2
  clear C2 BZ1 BT1 G1 g2
  obtain ⟨x0, x1, x2, x3, x4, x5, x6, x7, x8, x9, x10, x11⟩ := cells12 BT2
  have f1 := BT2.frozen 1
  have gS : w2.grownBy (w2.setCell ⟨w1.heap.size, 1, none⟩ (.bool true)) (some w1.heap.size) := setCell_grown
  have s3 := s2.keep gS BT2 (by omega) (by decide)
  have BT3 := BT2.set_ 1 (.bool true)
  simp only [List.setIfInBounds_toArray, List.set_cons_zero, List.set_cons_succ] at BT3
  have BZ3 := BZ2.grown gS (by simp; omega)
  have G3 := grown_then G2 gS (by omega)
  have EN := Lib.hid (ends_any (t := t) s3 (by omega))
  have HD := endsS_data t S2
  have hz3 : w2.heap.size ≤ (w2.setCell ⟨w1.heap.size, 1, none⟩ (.bool true)).heap.size := gS.size
  have SR := fun (W : World) => sright_any (w := W) (t := t) (s := ((n : Int), true, (endsS t S2).1.1, (endsS t S2).1.2)) ⟨HD.1.1, HD.2.1⟩
  generalize endsS t S2 = En at *
  obtain ⟨⟨⟨p0, p1, p2, p3, p4⟩, ⟨q0, q1, q2, q3, q4⟩⟩, S3⟩ := En
  dsimp only at HX EN SR
  generalize rightS t ((n : Int), true, (p0, p1, p2, p3, p4), (q0, q1, q2, q3, q4)) = R at *
  have SR : Hid (∀ W, Calls Try.prog 16 #[.int .i64 t, .agg #[.int .i64 (n : Int), .bool true, .bool p0, .int .i64 p1, .string (bstr p2), .int .i64 p3, .int .i64 p4, .bool q0, .int .i64 q1, .string (bstr q2), .int .i64 q3, .int .i64 q4]] W (NewPost (.bool R) W)) := Lib.hid SR
  clear HD
  go_wp2_with fail
  refine EN.out.mono ?_
  rintro e w4 ⟨rfl, s4, g4⟩
  have hz4 := g4.size
  have BT4 := BT3.grown g4 (by intro e; injection e with e; omega)
  have BZ4 := BZ3.grown g4 (by intro e; injection e with e; omega)
  have G4 := G3.trans g4
  clear EN s3 BT3 BZ3 G3 g4 gS s2 BZ2 BT2 G2 x0 x1 x2 x3 x4 x5 x6 x7 x8 x9 x10 x11 f1
  rw [show cellA (p0, p1, p2, p3, p4) = .agg #[.bool p0, .int .i64 p1, .string (bstr p2), .int .i64 p3, .int .i64 p4] from rfl, show cellA (q0, q1, q2, q3, q4) = .agg #[.bool q0, .int .i64 q1, .string (bstr q2), .int .i64 q3, .int .i64 q4] from rfl]
  go_wp2_with (first
    | (refine wpList_store5G rfl 29 (.tmp 21) (.tmp 19) rfl w1.heap.size 2 rfl rfl BT4 (by simp) (by kernel_rfl) (by simp [Value.oneCell']) ?_
       intro W5 BT5 G5
       simp only [List.setIfInBounds_toArray, List.set_cons_zero, List.set_cons_succ] at BT5)
    | (refine wpList_store5G rfl 29 (.tmp 22) (.tmp 20) rfl w1.heap.size 7 rfl rfl BT5 (by simp) (by kernel_rfl) (by simp [Value.oneCell']) ?_
       intro W6 BT6 G6
       simp only [List.setIfInBounds_toArray, List.set_cons_zero, List.set_cons_succ] at BT6
       have hz5 := G5.size
       have hz6 := G6.size
       have s6 := (s4.keep G5 BT4 (by omega) (by decide)).keep G6 BT5 (by omega) (by decide)
       have BZ6 := (BZ4.grown G5 (by simp; omega)).grown G6 (by simp; omega)
       have G06 := grown_then (grown_then G4 G5 (by omega)) G6 (by omega)
       clear BT4 BT5 G5 G6 s4 BZ4 G4
       obtain ⟨z0, z1, z2, z3, z4, z5, z6, z7, z8, z9, z10, z11⟩ := cells12 BT6
       have BD := Lib.hid (badS s6)
       have t1 : decide ((1 : Int) < 1) = false := by simp))
  cases S3 with
  | none =>
    refine BD.out.mono ?_
    rintro e w7 ⟨rfl, rfl⟩
    have hX := HX.out
    rw [if_neg (by simp)] at hX
    clear HX
    have HX := Lib.hid hX
    clear hX
    have s7 := s6
    have BZ7 := BZ6
    have BT7 := BT6
    have G7 := G06
    clear s6 BZ6 BT6 G06 BD
    have F := Lib.hid (failS s7)
    go_wp2_with fail
    refine F.out.mono ?_
    rintro e w8 ⟨rfl, s8, g8⟩
    have hz8 := g8.size
    have BZ8 := BZ7.grown g8 (by intro e; injection e with e; omega)
    have G8 := Lib.hid (G7.trans g8)
    have HS8 := Lib.hid s8
    clear F BZ7 BT7 G7 g8 s7 s8 z0 z1 z2 z3 z4 z5 z6 z7 z8 z9 z10 z11
    go_wp2_with (refine wpList_storeG rfl 31 (.tmp 4) (.tmp 37) rfl w.heap.size _ rfl rfl BZ8 (by kernel_rfl) (by simp [statV, stat0, cellV]) (by simp [Value.oneCell']) ?_
                 intro W9 BR G9
                 obtain ⟨s0, s1, s2, s3, s4, s5, s6, s7, s8, s9, s10, s11⟩ := cells12 BR)
    have hX := HX.out
    subst hX
    exact bodyPost_ret (v := statA stat0) (by simp [results, Try.results21, go_sem, s0, s1, s2, s3, s4, s5, s6, s7, s8, s9, s10, s11, statA, statV, cellV, stat0, cell0, show bstr [] = ⟨#[]⟩ from rfl]) rfl ⟨rfl, HS8.out.keep G9 BZ8 (by omega) (by decide), grown_then G8.out G9 (Nat.le_refl _)⟩
  | some S3 =>
    refine BD.out.mono ?_
    rintro e w7' ⟨rfl, rfl⟩
    go_wp2_with fail
    refine (SR.out _).mono ?_
    rintro e w7 ⟨rfl, b7⟩
    have hz7 := b7.size
    have BZ7 := BZ6.below b7 BZ6.lt
    have BT7 := BT6.below b7 BT6.lt
    have G7 := G06.trans (Far.of_new b7)
    have s7 := s6.below b7
    clear s6 BZ6 BT6 G06 BD b7 z0 z1 z2 z3 z4 z5 z6 z7 z8 z9 z10 z11 SR
    obtain ⟨z0, z1, z2, z3, z4, z5, z6, z7, z8, z9, z10, z11⟩ := cells12 BT7
    have hX := HX.out
    clear HX
    cases R with
    | false =>
      rw [if_neg (by simp)] at hX
      have HX := Lib.hid hX
      clear hX
      have F := Lib.hid (failS s7)
      go_wp2_with fail
      refine F.out.mono ?_
      rintro e w8 ⟨rfl, s8, g8⟩
      have hz8 := g8.size
      have BZ8 := BZ7.grown g8 (by intro e; injection e with e; omega)
      have G8 := Lib.hid (G7.trans g8)
      have HS8 := Lib.hid s8
      clear F BZ7 BT7 G7 g8 s7 s8 z0 z1 z2 z3 z4 z5 z6 z7 z8 z9 z10 z11
      go_wp2_with (refine wpList_storeG rfl 31 (.tmp 4) (.tmp 37) rfl w.heap.size _ rfl rfl BZ8 (by kernel_rfl) (by simp [statV, stat0, cellV]) (by simp [Value.oneCell']) ?_
                   intro W9 BR G9
                   obtain ⟨s0, s1, s2, s3, s4, s5, s6, s7, s8, s9, s10, s11⟩ := cells12 BR)
      have hX := HX.out
      subst hX
      exact bodyPost_ret (v := statA stat0) (by simp [results, Try.results21, go_sem, s0, s1, s2, s3, s4, s5, s6, s7, s8, s9, s10, s11, statA, statV, cellV, stat0, cell0, show bstr [] = ⟨#[]⟩ from rfl]) rfl ⟨rfl, HS8.out.keep G9 BZ8 (by omega) (by decide), grown_then G8.out G9 (Nat.le_refl _)⟩
    | true =>
      rw [if_pos ⟨by omega, by simp, by trivial⟩] at hX
      have HX := Lib.hid hX
      have G7 := Lib.hid G7
      have s7 := Lib.hid s7
      clear hX
      go_wp2_with (refine wpList_storeG rfl 31 (.tmp 4) (.tmp 38) rfl w.heap.size _ rfl rfl BZ7 (by kernel_rfl) (by simp [statV, stat0, cellV]) (by simp [Value.oneCell']) ?_
                   intro W9 BR G9
                   obtain ⟨s0, s1, s2, s3, s4, s5, s6, s70, s8, s9, s10, s11⟩ := cells12 BR)
      have hX := HX.out
      subst hX
      exact bodyPost_ret (v := statA ((n : Int), true, (p0, p1, p2, p3, p4), (q0, q1, q2, q3, q4))) (by simp [results, Try.results21, go_sem, s0, s1, s2, s3, s4, s5, s6, s70, s8, s9, s10, s11, statA, statV, cellV]) rfl ⟨rfl, s7.out.keep G9 BZ7 (by omega) (by decide), grown_then G7.out G9 (Nat.le_refl _)⟩

end Go.Proofs.Ythdkbfffjlkbpaa
