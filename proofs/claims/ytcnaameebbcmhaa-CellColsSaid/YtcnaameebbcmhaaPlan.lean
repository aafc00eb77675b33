/- A region that draws its order, where sometimes two operations are ready that make memory: a plan of all ways. No program is named here. -/
import Derived.Test.YtcnaameebbcmhaaUp

namespace Go.Hm
open Go Go.RowKit
/-- How a region is gone through: what only reads first; one alone; or either of two. -/
inductive Plan where
  | done
  | quiet (i : Nat) (p : Plan)
  | alone (i : Nat) (p : Plan)
  | two (i : Nat) (p : Plan) (j : Nat) (q : Plan)

section
variable {P : Program} {ops : Array Oper} {Q : Exit → Act → World → Prop}
def Plan.ok (ops : Array Oper) : Array Bool → Plan → Bool
  | listed, .done => (Region.ready .any ops listed).isEmpty
  | listed, .quiet i p => (Region.ready .any ops listed).contains i && (Region.free .any ops listed i && p.ok ops (listed.setIfInBounds i true))
  | listed, .alone i p => decide (Region.ready .any ops listed = [i]) && p.ok ops (listed.setIfInBounds i true)
  | listed, .two i p j q => decide (Region.ready .any ops listed = [i, j]) && (p.ok ops (listed.setIfInBounds i true) && q.ok ops (listed.setIfInBounds j true))
def Plan.size : Plan → Nat
  | .done => 0
  | .quiet _ p => p.size + 1
  | .alone _ p => p.size + 1
  | .two _ p _ q => Nat.max p.size q.size + 1
/-- An operation that may make or turn memory, and what comes behind it. -/
def planOp (P : Program) (ops : Array Oper) (R : World → World → Prop) (Q : Exit → Act → World → Prop) (i : Nat) (K : Act → World → Prop) (a : Act) (w : World) : Prop :=
  ∃ o, ops[i]? = some o ∧ if Region.wanted o (yielded ops a.tmps) then o.wp P a w (fun a' w' => R w w' ∧ K a' w') (NoPanic Q) else K (a.put o.dst undef) w
def wpPlan (P : Program) (ops : Array Oper) (R : World → World → Prop) (Q : Exit → Act → World → Prop) : Plan → Act → World → Prop
  | .done, a, w => Q .normal a w
  | .quiet i p, a, w => ∃ o v, ops[i]? = some o ∧ ((Region.wanted o (yielded ops a.tmps) = true ∧ ∀ w', R w w' → (execOp a.eval o).run P w' = .ok (.value v) w') ∨ (Region.wanted o (yielded ops a.tmps) = false ∧ v = undef)) ∧ wpPlan P ops R Q p (a.put o.dst v) w
  | .alone i p, a, w => planOp P ops R Q i (wpPlan P ops R Q p) a w
  | .two i p j q, a, w => planOp P ops R Q i (wpPlan P ops R Q p) a w ∧ planOp P ops R Q j (wpPlan P ops R Q q) a w
variable {R : World → World → Prop}
theorem wpAnyH_of_plan (hrefl : ∀ w, R w w) (htrans : ∀ {x y z}, R x y → R y z → R x z) (hs : Region.noSelect ops = true) :
    ∀ (p : Plan) (fuel : Nat) (listed : Array Bool) (a : Act) (w : World), p.size ≤ fuel → p.ok ops listed = true → wpPlan P ops R Q p a w → wpAnyH P .any ops (NoPanic Q) (R w) fuel listed a w := by
  have key : ∀ (p : Plan), (∀ (fuel : Nat) (listed : Array Bool) (a : Act) (w : World), p.size ≤ fuel → p.ok ops listed = true → wpPlan P ops R Q p a w → wpAnyH P .any ops (NoPanic Q) (R w) fuel listed a w) →
      ∀ (j : Nat) (fuel : Nat) (listed : Array Bool) (a : Act) (w : World), p.size ≤ fuel → p.ok ops (listed.setIfInBounds j true) = true → planOp P ops R Q j (wpPlan P ops R Q p) a w →
        wpOp P ops (NoPanic Q) j (fun a' w' => R w w' ∧ wpAnyH P .any ops (NoPanic Q) (R w) fuel (listed.setIfInBounds j true) a' w') a w := by
    intro p ih j fuel listed a w hl h3 hc
    obtain ⟨o, ho, hc⟩ := hc
    unfold wpOp
    simp only [ho]
    split
    · rename_i hw
      rw [if_pos hw] at hc
      exact .inl (Oper.wp_mono (fun a' w' hh => ⟨hh.1, wpAnyH_weaken (fun z hz => htrans hh.1 hz) fuel _ a' w' (ih fuel _ a' w' hl h3 hh.2)⟩) hc)
    · rename_i hw
      rw [if_neg hw] at hc
      exact ⟨hrefl w, ih fuel _ _ w hl h3 hc⟩
  intro p
  induction p with
  | done =>
    intro fuel listed a w _ hok h
    exact wpAnyH_done (by simpa [Plan.ok] using hok) (NoPanic.normal h) fuel
  | quiet i p ih =>
    intro fuel listed a w hl hok h
    obtain ⟨fuel, rfl⟩ : ∃ k, fuel = k + 1 := ⟨fuel - 1, by simp [Plan.size] at hl; omega⟩
    obtain ⟨o, v, ho, hv, hr⟩ := h
    simp only [Plan.ok, Bool.and_eq_true] at hok
    obtain ⟨h1, h2, h3⟩ := hok
    exact wpAnyH_take ho hs h2 h1 (fun _ _ _ hp => hp) hv (hrefl w) (ih fuel _ _ w (by simp [Plan.size] at hl; omega) h3 hr)
  | alone i p ih =>
    intro fuel listed a w hl hok h
    obtain ⟨fuel, rfl⟩ : ∃ k, fuel = k + 1 := ⟨fuel - 1, by simp [Plan.size] at hl; omega⟩
    simp only [Plan.ok, Bool.and_eq_true, decide_eq_true_eq] at hok
    obtain ⟨h1, h3⟩ := hok
    refine wpAnyH_all h1 (by simp) ?_
    intro j hj
    obtain rfl : j = i := by simpa using hj
    exact key p ih j fuel listed a w (by simp [Plan.size] at hl; omega) h3 h
  | two i p j q ihp ihq =>
    intro fuel listed a w hl hok h
    obtain ⟨fuel, rfl⟩ : ∃ k, fuel = k + 1 := ⟨fuel - 1, by simp [Plan.size] at hl; omega⟩
    simp only [Plan.ok, Bool.and_eq_true, decide_eq_true_eq] at hok
    obtain ⟨h1, h3, h4⟩ := hok
    have hl' : Nat.max p.size q.size ≤ fuel := by simp [Plan.size] at hl; exact hl
    refine wpAnyH_all h1 (by simp) ?_
    intro k hk
    have hk : k = i ∨ k = j := by simpa using hk
    rcases hk with rfl | rfl
    · exact key p ihp k fuel listed a w (Nat.le_trans (Nat.le_max_left _ _) hl') h3 h.1
    · exact key q ihq k fuel listed a w (Nat.le_trans (Nat.le_max_right _ _) hl') h4 h.2
theorem wp_region_plan {id : Nat} {a : Act} {w : World} (R : World → World → Prop) (p : Plan) (hrefl : ∀ w, R w w) (htrans : ∀ {x y z}, R x y → R y z → R x z) (hm : P.follows .mixedOrders = true)
    (hs : Region.noSelect ops = true) (hl : decide (p.size ≤ ops.size) = true) (hok : p.ok ops (Array.replicate ops.size false) = true) (h : wpPlan P ops R Q p a w.drew) : (Code.region id ops true).wp P Q a w :=
  wp_region_noPanic (wp_region_held hm (wpAnyH_of_plan hrefl htrans hs p ops.size _ a _ (by simpa using hl) hok h))
variable {i j : Nat} {p q : Plan} {a : Act} {w : World} {v : Value}
theorem plan_done (h : Q .normal a w) : wpPlan P ops R Q .done a w := h

section
variable {dst : Option Tmp} {op : Op} {ty : TypeId} {pos : String} {af : Array Edge} {gd : Option (Nat × Bool)}
theorem plan_quiet (ho : ops[i]? = some ⟨dst, op, ty, pos, af, gd⟩) (hw : Region.wanted ⟨dst, op, ty, pos, af, gd⟩ (yielded ops a.tmps) = true) (hv : ∀ w', R w w' → (execOp a.eval ⟨dst, op, ty, pos, af, gd⟩).run P w' = .ok (.value v) w') (h : wpPlan P ops R Q p (a.put dst v) w) : wpPlan P ops R Q (.quiet i p) a w :=
  ⟨_, v, ho, .inl ⟨hw, hv⟩, h⟩
theorem plan_op {K0 : Act → World → Prop} (ho : ops[i]? = some ⟨dst, op, ty, pos, af, gd⟩) (hw : Region.wanted ⟨dst, op, ty, pos, af, gd⟩ (yielded ops a.tmps) = true) (h : ∀ K : Act → World → Prop, (∀ a' w', R w w' → K0 a' w' → K a' w') → Oper.wp P ⟨dst, op, ty, pos, af, gd⟩ a w K (NoPanic Q)) : planOp P ops R Q i K0 a w :=
  ⟨_, ho, by rw [if_pos hw]; exact h _ fun _ _ h1 h2 => ⟨h1, h2⟩⟩
theorem plan_alone (h : planOp P ops R Q i (wpPlan P ops R Q p) a w) : wpPlan P ops R Q (.alone i p) a w := h
theorem plan_two (h : planOp P ops R Q i (wpPlan P ops R Q p) a w) (h2 : planOp P ops R Q j (wpPlan P ops R Q q) a w) : wpPlan P ops R Q (.two i p j q) a w := ⟨h, h2⟩
end
end

end Go.Hm
