/- Contract on slices.Clone of cells. -/
import Derived.Test.YtcnaameebbcmhaaCellC
import Derived.Test.YtcnaameebbcmhaaUpT
import Derived.Test.YtcnaameebbcmhaaRow
import Derived.Lib.SliceRun
import Derived.Deep.LoopGhost

namespace Go.Proofs.Ytcnaameebbcmhaa
open Go.RowKit Go.Hm
theorem elCell : ElT Try.prog 44 25 (.agg #[.bool false, .int .i64 0, .string ⟨#[]⟩, .int .i64 0, .int .i64 0]) 5 48 := ⟨by kernel_rfl, by kernel_rfl, rfl, by omega⟩
theorem made0 (w : World) (e : TypeId) : (w.alloc (.cells #[] e)).ownsRow w.heap.size e 5 (.slice (some ⟨w.heap.size, 0, none⟩) 0 0) 0 [] :=
  ⟨by simp, .inr ⟨w.heap.size, 0, #[], rfl, Nat.le_refl _, heap_alloc_new w _, Nat.le_refl _, by simp [maxLen], by simp, by simp⟩⟩
theorem cellV_one (c : CellS) : ∀ u ∈ cellV c, u.oneCell' = true := by
  intro u hu
  simp [cellV] at hu
  rcases hu with rfl | rfl | rfl | rfl | rfl <;> rfl
theorem recs_one {α : Type} {f : α → List Value} (h : ∀ x, ∀ u ∈ f x, u.oneCell' = true) (l : List α) : ∀ u ∈ recs f l, u.oneCell' = true := by
  intro u hu
  obtain ⟨x, _, hx⟩ := List.mem_flatMap.1 hu
  exact h x u hx
/-- What slices.Clone answers: a row of its own with the same cells. -/
def CClonePost (l : List CellS) (w : World) (e : Ending) (w' : World) : Prop := ∃ v, e = .returned v ∧ w'.ownsRow w.heap.size 25 5 v l.length (recs cellV l) ∧ New w w'
set_option maxHeartbeats 2000000 in
set_option maxRecDepth 100000 in
theorem cclone_any {w : World} {A : Option Addr} {n c : Nat} {l : List CellS} (h : Reads w w.heap.size 5 A n (recs cellV l)) (hA : A = none → c = 0) (hn : n ≤ 100000) :
    Calls Try.prog 33 #[.slice A n c] w (CClonePost l w) := by
  obtain rfl := h.lenCell
  have q44 : ∀ (w : World) (a : Option Addr) (n c n' c' : Nat), (binOp .eql 44 (.slice a n c) (.slice none n' c')).run Try.prog w = .ok (.bool a.isNone) w := fun w a n c n' c' => Lib.run_eql_slice_nil w _ _ a n c n' c' elCell.ht
  cases A with
  | none =>
    obtain rfl := hA rfl
    have h0 : l.length = 0 := by
      rcases Nat.eq_zero_or_pos l.length with e | e
      · exact e
      · obtain ⟨ad, h1, _⟩ := h.2 e
        cases h1
    have h1 : l = [] := List.length_eq_zero_iff.1 h0
    subst h1
    go_enter Try.func33, Try.ntmps33
    go_wp2
    go_ret
    exact ⟨_, rfl, row_nil, New.refl _⟩
  | some ad =>
    clear hA
    have hl := h.1
    go_enter Try.func33, Try.ntmps33
    obtain ⟨i0, hi, hz0, hz1, hz2⟩ := info_parts elCell.hi
    have A : Aside (Reads w w.heap.size 5 (some ad) l.length (recs cellV l)) := h
    clear h
    go_wp2_with (at_builtin; go_loud (refine wpList_append_own_at _ rfl (.tmp 5) (.tmp 6) 44 rfl w.heap.size 25 i0 _ 5 48 elCell.ht hi hz0 hz1 hz2 rfl (by decide) _ 0 [] rfl (made0 w 25) ad l.length c (recs cellV l) rfl hl ?qc2 ?qc3 ?qc4 ?qc5 ?qc6 ?_))
    case qc2 =>
      intro j u hj
      have hb : New w (w.alloc (.cells #[] 25)) := (Below.refl _ w).alloc (Nat.le_refl _) _
      have hpos : 0 < l.length := by
        have := (List.getElem?_eq_some_iff.1 hj).1
        omega
      obtain ⟨ad2, e2, hlt, hc⟩ := (A.out).2 hpos
      obtain rfl := Option.some.inj e2
      exact (Below.cell hb (by rw [block_of_add]; exact hlt)).trans (hc j u hj)
    case qc3 => exact recs_one cellV_one l
    case qc4 => unfold maxLen; omega
    case qc5 => omega
    case qc6 => simp
    intro v' w1 hown hgrow hnil _
    go_wp2
    go_ret
    refine ⟨v', rfl, by simpa using hown, ?_⟩
    exact ((Below.refl _ w).alloc (Nat.le_refl _) _).grown hgrow (by simp) (by intro k hk; simp [Value.ownBlock] at hk; omega)

end Go.Proofs.Ytcnaameebbcmhaa
