/- append of records, at one operation. No program is named here. -/
import Derived.Test.YtcnaameebbcmhaaUpT
import Derived.Test.YtcnaameebbcmhaaRow

namespace Go.Hm
open Go Go.RowKit

section
variable {P : Program} {o : Oper} {a : Act} {Q : Exit → Act → World → Prop} {K : Act → World → Prop}
/-- append(s, xs...) of records onto a row of the call's own. -/
theorem wp_appR {w : World} {t e : TypeId} {z : Value} {sz bytes : Nat} (E : ElT P t e z sz bytes) (s x : Operand)
    (ho : o.op = .call { callee := .builtin .append, args := #[s, x], argTypes := #[t, t] })
    {W : World} {B base n m c : Nat} {v : Value} {xs news : List Value} {A : Option Addr} (hown : w.ownsRow base e sz v n xs) (hr : Reads w w.heap.size sz A m news) (hs : a.eval s = v) (hx : a.eval x = .slice A m c)
    (hb : Below B W w) (hbB : B ≤ base) (hbase : base ≤ w.heap.size) (h1 : ∀ u ∈ news, u.oneCell' = true)
    (hn : (n + m) * bytes ≤ 140737488355328) (hm : n + m ≤ maxLen)
    (h : ∀ A' c' w', n + m ≤ c' → c' ≤ maxLen → w'.ownsRow base e sz (.slice A' (n + m) c') (n + m) (xs ++ news) → w.grownBy w' v.ownBlock → Below B W w' → K (a.put o.dst (.slice A' (n + m) c')) w') :
    Oper.wp P o a w K Q := by
  obtain ⟨i, hi, hz0, hz1, hz2⟩ := info_parts E.hi
  rcases A with _ | ad
  · have hm0 : m = 0 := by
      rcases Nat.eq_zero_or_pos m with h0 | h0
      · exact h0
      · obtain ⟨ad, h', _⟩ := hr.2 h0
        cases h'
    subst hm0
    have hn0 : news = [] := List.eq_nil_of_length_eq_zero (by have := hr.1; omega)
    subst hn0
    have hrun : ∀ ty, (Builtin.append_ #[t, t] ty #[v, .slice none 0 c]).run P w = .ok v w := by
      intro ty
      rcases hown.2 with ⟨rfl, hx0⟩ | ⟨g, cap, cur, rfl, _, _, hnc, _⟩
      · simp [Builtin.append_, run_underlying E.ht, sizeOf, typeInfo, hi, Builtin.lenOf, Builtin.firstCells]
      · simp [Builtin.append_, run_underlying E.ht, sizeOf, typeInfo, hi, Builtin.lenOf, Builtin.firstCells, hnc, storeCells]
    obtain ⟨A', c', rfl, hc1, hc2⟩ := row_slice hown
    unfold Oper.wp execOp
    simp only [ho, resolve, invoke, builtin, Sem.run_bind, Sem.run_pure, Result.andThen_ok, List.map_toArray, List.map_cons, List.map_nil, hs, hx, hrun]
    exact h A' c' w hc1 hc2 (by simpa using hown) (World.grownBy.refl w _) hb
  · have hl : news.length = m * sz := hr.1
    have hcells : ∀ j u, news[j]? = some u → w.cell? (ad.add j) = some u := by
      intro j u hu
      rcases Nat.eq_zero_or_pos m with h0 | h0
      · subst h0
        have hn : news = [] := List.eq_nil_of_length_eq_zero (by omega)
        subst hn
        simp at hu
      · obtain ⟨ad', h', _, hc⟩ := hr.2 h0
        injection h' with h'
        subst h'
        exact hc j u hu
    obtain ⟨v', w', hr', hown', hg, _, _⟩ := run_append_own_at (P := P) w base t o.type e i z sz bytes E.ht hi hz0 hz1 hz2 E.hz E.hs v n xs hown ad m c news hl hcells h1 hm hn hbase
    obtain ⟨A', c', rfl, hc1, hc2⟩ := row_slice hown'
    unfold Oper.wp execOp
    simp only [ho, resolve, invoke, builtin, Sem.run_bind, Sem.run_pure, Result.andThen_ok, List.map_toArray, List.map_cons, List.map_nil, hs, hx, hr']
    exact h A' c' w' hc1 hc2 hown' hg (hb.grown hg (Nat.le_trans hbB hbase) (fun k hk => by have := (World.ownsRow.lt hown k hk).1; omega))
end
/-- The blocks that a row may turn. -/
def rowT (v : Value) : List Nat := match v.ownBlock with | some g => [g] | none => []
theorem Turns.row {w w' : World} {v : Value} (h : w.grownBy w' v.ownBlock) : Turns (rowT v) w w' := by
  unfold rowT
  cases e : v.ownBlock with
  | none => rw [e] at h; exact Turns.of_none h
  | some g => rw [e] at h; exact Turns.of_far h (by simp)
theorem rowT_ge {w : World} {base sz n : Nat} {e : TypeId} {v : Value} {xs : List Value} (h : w.ownsRow base e sz v n xs) : ∀ x ∈ rowT v, base ≤ x ∧ x < w.heap.size := by
  intro x hx
  unfold rowT at hx
  cases e : v.ownBlock with
  | none => rw [e] at hx; simp at hx
  | some g => rw [e] at hx; simp at hx; subst hx; exact World.ownsRow.lt h _ e
theorem rowT_ne {w : World} {base sz n : Nat} {e t : TypeId} {v : Value} {xs : List Value} {g : Nat} {cs : Array Value} (h : w.ownsRow base e sz v n xs) (hg : Blk w g t cs) (hne : e ≠ t) : g ∉ rowT v := by
  intro hx
  unfold rowT at hx
  cases e' : v.ownBlock with
  | none => rw [e'] at hx; simp at hx
  | some g' => rw [e'] at hx; simp at hx; subst hx; exact row_blk_ne h hg hne e'
theorem row_touch {w w' : World} {base sz n : Nat} {e : TypeId} {v : Value} {xs : List Value} {T : List Nat} (h : w.ownsRow base e sz v n xs) (k : Turns T w w') (hT : ∀ x ∈ T, v.ownBlock ≠ some x) : w'.ownsRow base e sz v n xs := by
  refine ⟨h.1, ?_⟩
  rcases h.2 with hn | ⟨g, cap, cur, rfl, hbg, hgg, rest⟩
  · exact .inl hn
  · refine .inr ⟨g, cap, cur, rfl, hbg, ?_, rest⟩
    rw [k.block g (Array.getElem?_eq_some_iff.1 hgg).1 (fun hm => hT g hm rfl)]
    exact hgg
/-- A row of another element type is not the one that is turned. -/
theorem row_row {w : World} {base base2 sz sz2 n n2 : Nat} {e e2 : TypeId} {v v2 : Value} {xs xs2 : List Value} (h : w.ownsRow base e sz v n xs) (h2 : w.ownsRow base2 e2 sz2 v2 n2 xs2) (hne : e ≠ e2) : ∀ x ∈ rowT v2, v.ownBlock ≠ some x := by
  intro x hx
  unfold rowT at hx
  cases e' : v2.ownBlock with
  | none => rw [e'] at hx; simp at hx
  | some g =>
    rw [e'] at hx
    simp at hx
    subst hx
    rcases h2.2 with ⟨rfl, _⟩ | ⟨g', cap, cur, rfl, _, hh, _⟩
    · simp [Value.ownBlock] at e'
    · have : g' = x := by simpa [Value.ownBlock] using e'
      subst this
      exact row_blk_ne h hh hne

end Go.Hm
