/- A region that draws its order, whose last part turns what was read: what reads is carried out first, its value holding till the operation t0 comes up, which waits for it. No program is named here. -/
import Derived.Test.YtlelepopdjoedaaUp

namespace Go.Hm
open Go.RowKit

section
variable {P : Program} {ops : Array Oper} {Q : Exit → Act → World → Prop} {md : Region.Mode} {S : World → Prop} {t0 : Nat}

/-- Whatever order: S holds behind every operation till t0 has come up. -/
def wpAnyT (P : Program) (md : Region.Mode) (ops : Array Oper) (Q : Exit → Act → World → Prop) (t0 : Nat) (S : World → Prop) : Nat → Array Bool → Act → World → Prop
  | 0, listed, a, w => Region.ready md ops listed = [] ∧ Q .normal a w
  | fuel + 1, listed, a, w => (Region.ready md ops listed = [] → Q .normal a w) ∧
    ∀ i ∈ Region.ready md ops listed, wpOp P ops Q i (fun a' w' => ((listed.setIfInBounds i true).getD t0 false = true ∨ S w') ∧ wpAnyT P md ops Q t0 S fuel (listed.setIfInBounds i true) a' w') a w
theorem wpAny_of_T : ∀ (fuel : Nat) (listed : Array Bool) (a : Act) (w : World), wpAnyT P md ops Q t0 S fuel listed a w → wpAny P md ops Q fuel listed a w
  | 0, _, _, _, h => h
  | fuel + 1, _, _, _, h => ⟨h.1, fun i hi => wpOp_mono (fun a' w' h' => wpAny_of_T fuel _ a' w' h'.2) (h.2 i hi)⟩
theorem getD_set_keep {l : Array Bool} {i t : Nat} (h : l.getD t false = true) : (l.setIfInBounds i true).getD t false = true := by
  rw [Array.getD_eq_getD_getElem?] at h ⊢
  rw [Array.getElem?_setIfInBounds]
  split
  · split
    · rfl
    · rename_i e h2; subst e; rw [Array.getElem?_eq_none (by omega)] at h; simp at h
  · exact h
theorem getD_set_other {l : Array Bool} {i t : Nat} (hne : i ≠ t) : (l.setIfInBounds i true).getD t false = l.getD t false := by
  rw [Array.getD_eq_getD_getElem?, Array.getD_eq_getD_getElem?, Array.getElem?_setIfInBounds, if_neg hne]
theorem wpAnyT_weaken {S' : World → Prop} : ∀ (fuel : Nat) (listed : Array Bool) (a : Act) (w : World), (listed.getD t0 false = true ∨ ∀ w, S w → S' w) → wpAnyT P md ops Q t0 S fuel listed a w → wpAnyT P md ops Q t0 S' fuel listed a w
  | 0, _, _, _, _, hh => hh
  | fuel + 1, listed, _, _, h, hh => ⟨hh.1, fun i hi => wpOp_mono (fun a' w' h' => ⟨by
      rcases h with h | h
      · exact .inl (getD_set_keep h)
      · exact h'.1.imp id (h w'), wpAnyT_weaken fuel _ a' w' (h.imp getD_set_keep id) h'.2⟩) (hh.2 i hi)⟩
/-- Taken first. -/
theorem wpAnyT_first {i : Nat} {oi : Oper} {v : Value} (hi : ops[i]? = some oi) (hit : i ≠ t0) (hsel : ∀ (j : Nat) (o : Oper) cs b, ops[j]? = some o → o.op ≠ .select cs b)
    (hQ : ∀ c a w, Q (.panic c) (a.put oi.dst v) w → Q (.panic c) a w) (V : World → Prop)
    (hV : (∀ w, V w) ∨ ((∀ w, S w → V w) ∧ ∃ ot, ops[t0]? = some ot ∧ ∃ e ∈ ot.after, Region.binds md e = true ∧ e.on = i)) :
    ∀ (fuel : Nat) (listed : Array Bool) (a : Act) (w : World),
      (∀ j oj, ops[j]? = some oj → j ≠ i → listed.getD j true = false → (∀ e ∈ oj.after, Region.binds md e = true → e.on ≠ i) → oi.apart ops oj = true) →
      i ∈ Region.ready md ops listed → YieldsIf P ops V oi v a → (listed.getD t0 false = true ∨ S w) → ((∀ w, V w) ∨ listed.getD t0 false = false) →
      wpAnyT P md ops Q t0 S fuel (listed.setIfInBounds i true) (a.put oi.dst v) w → wpAnyT P md ops Q t0 S (fuel + 1) listed a w := by
  have hVw : ∀ (listed : Array Bool) (w : World), (listed.getD t0 false = true ∨ S w) → ((∀ w, V w) ∨ listed.getD t0 false = false) → V w := by
    intro listed w hS ht
    rcases ht with ht | ht
    · exact ht w
    · rcases hS with hS | hS
      · rw [ht] at hS; cases hS
      · rcases hV with hV | hV
        · exact hV w
        · exact hV.1 w hS
  intro fuel
  induction fuel with
  | zero =>
    intro listed a w _ hr hy hS ht H
    refine ⟨fun h => (by rw [h] at hr; cases hr), fun j hj => ?_⟩
    by_cases hji : j = i
    · subst hji
      exact hy.wpOp hi (hVw listed w hS ht) ⟨hS.imp getD_set_keep id, H⟩
    · have := ready_mono hj hji
      rw [H.1] at this
      cases this
  | succ fuel ih =>
    intro listed a w hfree hr hy hS ht H
    refine ⟨fun h => (by rw [h] at hr; cases hr), fun j hj => ?_⟩
    by_cases hji : j = i
    · subst hji
      exact hy.wpOp hi (hVw listed w hS ht) ⟨hS.imp getD_set_keep id, H⟩
    · have h1 := H.2 j (ready_mono hj hji)
      obtain ⟨hjun, oj, hoj, hall⟩ := mem_ready.1 hj
      have hnot : ∀ e ∈ oj.after, Region.binds md e = true → e.on ≠ i := fun e he hb heq => by
        have h1 := hall e he hb
        have h0 := (mem_ready.1 hr).1
        rw [heq] at h1
        rcases Nat.lt_or_ge i listed.size with h' | h'
        · simp [h'] at h0 h1; rw [h0] at h1; cases h1
        · simp [Array.getElem?_eq_none h'] at h1
      have h2 := wpOp_putIf hoj (hfree j oj hoj hji hjun hnot) (fun cs b => hsel i oi cs b hi) (fun cs b => hsel j oj cs b hoj) hQ hy h1
      have hfree' : ∀ k ok, ops[k]? = some ok → k ≠ i → (listed.setIfInBounds j true).getD k true = false →
          (∀ e ∈ ok.after, Region.binds md e = true → e.on ≠ i) → oi.apart ops ok = true := fun k ok hk hki hun hno => by
        refine hfree k ok hk hki ?_ hno
        by_cases hjk : j = k
        · subst hjk; exact hjun
        · rw [getD_set_ne true hjk] at hun; exact hun
      have ht' : (∀ w, V w) ∨ (listed.setIfInBounds j true).getD t0 false = false := by
        rcases hV with hV | ⟨_, ot, hot, e, he, hb, heq⟩
        · exact .inl hV
        · refine ht.imp id fun ht => ?_
          have hjt : j ≠ t0 := by
            rintro rfl
            rw [hoj] at hot
            injection hot with hot
            subst hot
            exact hnot e he hb heq
          rw [getD_set_other hjt]
          exact ht
      refine wpOp_mono (fun a' w' h3 => ?_) h2
      have hS' : (listed.setIfInBounds j true).getD t0 false = true ∨ S w' := by
        refine h3.2.1.imp (fun h4 => ?_) id
        rw [Array.setIfInBounds_comm _ _ (fun e => hji e.symm), getD_set_other hit] at h4
        exact h4
      refine ⟨hS', ih (listed.setIfInBounds j true) a' w' hfree' (ready_mono hr (Ne.symm hji)) h3.1 hS' ht' ?_⟩
      rw [Array.setIfInBounds_comm _ _ hji]
      exact h3.2.2
theorem wpAnyT_take {i : Nat} {oi : Oper} {v : Value} {fuel : Nat} {listed : Array Bool} {a : Act} {w : World} (V : World → Prop) (hi : ops[i]? = some oi) (hit : i ≠ t0)
    (hs : Region.noSelect ops = true) (hf : Region.free md ops listed i = true) (hr : (Region.ready md ops listed).contains i = true)
    (hQ : ∀ c a w, Q (.panic c) (a.put oi.dst v) w → Q (.panic c) a w)
    (hV : (∀ w, V w) ∨ ((∀ w, S w → V w) ∧ ∃ ot, ops[t0]? = some ot ∧ ∃ e ∈ ot.after, Region.binds md e = true ∧ e.on = i))
    (hy : YieldsIf P ops V oi v a) (hS : listed.getD t0 false = true ∨ S w) (ht : (∀ w, V w) ∨ listed.getD t0 false = false)
    (h : wpAnyT P md ops Q t0 S fuel (listed.setIfInBounds i true) (a.put oi.dst v) w) : wpAnyT P md ops Q t0 S (fuel + 1) listed a w :=
  wpAnyT_first hi hit (Region.noSelect_spec hs) hQ V hV fuel listed a w (Region.free_spec hi hf) (by simpa using hr) hy hS ht h

/-- Whether t0 waits for i. -/
def waitsB (md : Region.Mode) (ops : Array Oper) (t0 i : Nat) : Bool := match ops[t0]? with
  | some ot => ot.after.any fun e => Region.binds md e && e.on == i
  | none => false
/-- 0: reads, and t0 waits for it; 1: yields its value in whatever world; 2: comes up alone. -/
def upOkT (ops : Array Oper) (t0 : Nat) : Array Bool → List (Nat × Nat) → Bool
  | listed, [] => (Region.ready .any ops listed).isEmpty
  | listed, (0, i) :: r => (Region.ready .any ops listed).contains i && (Region.free .any ops listed i && (waitsB .any ops t0 i && (decide (i ≠ t0) && (!listed.getD t0 false && upOkT ops t0 (listed.setIfInBounds i true) r))))
  | listed, (1, i) :: r => (Region.ready .any ops listed).contains i && (Region.free .any ops listed i && (decide (i ≠ t0) && upOkT ops t0 (listed.setIfInBounds i true) r))
  | listed, (_, i) :: r => decide (Region.ready .any ops listed = [i]) && upOkT ops t0 (listed.setIfInBounds i true) r

def wpUpT (P : Program) (ops : Array Oper) (R : World → World → Prop) (Q : Exit → Act → World → Prop) (t0 : Nat) : List (Nat × Nat) → Bool → Act → World → Prop
  | [], _, a, w => Q .normal a w
  | (0, i) :: r, d, a, w => ∃ o v, ops[i]? = some o ∧ ((Region.wanted o (yielded ops a.tmps) = true ∧ ∀ w', R w w' → (execOp a.eval o).run P w' = .ok (.value v) w') ∨ (Region.wanted o (yielded ops a.tmps) = false ∧ v = undef)) ∧ wpUpT P ops R Q t0 r d (a.put o.dst v) w
  | (1, i) :: r, d, a, w => ∃ o v, ops[i]? = some o ∧ ((Region.wanted o (yielded ops a.tmps) = true ∧ ∀ w', (execOp a.eval o).run P w' = .ok (.value v) w') ∨ (Region.wanted o (yielded ops a.tmps) = false ∧ v = undef)) ∧ wpUpT P ops R Q t0 r d (a.put o.dst v) w
  | (_, i) :: r, d, a, w => ∃ o, ops[i]? = some o ∧ if Region.wanted o (yielded ops a.tmps) then o.wp P a w (fun a' w' => (d = true ∨ i = t0 ∨ R w w') ∧ wpUpT P ops R Q t0 r (d || i == t0) a' w') (NoPanic Q) else wpUpT P ops R Q t0 r (d || i == t0) (a.put o.dst undef) w

variable {R : World → World → Prop}
theorem waitsB_spec {i : Nat} (h : waitsB md ops t0 i = true) : ∃ ot, ops[t0]? = some ot ∧ ∃ e ∈ ot.after, Region.binds md e = true ∧ e.on = i := by
  unfold waitsB at h
  split at h
  · rename_i ot hot
    rw [Array.any_eq_true] at h
    obtain ⟨j, hj, h⟩ := h
    simp only [Bool.and_eq_true, beq_iff_eq] at h
    exact ⟨ot, hot, ot.after[j], Array.getElem_mem hj, h.1, h.2⟩
  · cases h
theorem wpAnyT_of_up (hrefl : ∀ w, R w w) (htrans : ∀ {x y z}, R x y → R y z → R x z) (hs : Region.noSelect ops = true) :
    ∀ (ord : List (Nat × Nat)) (fuel : Nat) (listed : Array Bool) (d : Bool) (a : Act) (w : World), (d = true → listed.getD t0 false = true) → (∀ i ∈ ord.map (·.2), i < listed.size) → ord.length ≤ fuel → upOkT ops t0 listed ord = true → wpUpT P ops R Q t0 ord d a w → wpAnyT P .any ops (NoPanic Q) t0 (R w) fuel listed a w := by
  intro ord
  induction ord with
  | nil =>
    intro fuel listed d a w _ _ _ hok h
    have hr : Region.ready .any ops listed = [] := by simpa [upOkT] using hok
    cases fuel with
    | zero => exact ⟨hr, NoPanic.normal h⟩
    | succ fuel => exact ⟨fun _ => NoPanic.normal h, by rw [hr]; simp⟩
  | cons x r ih =>
    obtain ⟨b, i⟩ := x
    intro fuel listed d a w hd hsz hl hok h
    obtain ⟨fuel, rfl⟩ : ∃ k, fuel = k + 1 := ⟨fuel - 1, by simp at hl; omega⟩
    have hl' : r.length ≤ fuel := by simp at hl; omega
    have hsz' : ∀ k ∈ r.map (·.2), k < (listed.setIfInBounds i true).size := fun k hk => by rw [Array.size_setIfInBounds]; exact hsz k (by simp at hk ⊢; exact .inr hk)
    have hi0 : i < listed.size := hsz i (by simp)
    match b with
    | 0 =>
      obtain ⟨o, v, ho, hv, hr⟩ := h
      simp only [upOkT, Bool.and_eq_true, decide_eq_true_eq, Bool.not_eq_true'] at hok
      obtain ⟨h1, h2, h3, h4, h5, h6⟩ := hok
      exact wpAnyT_take (R w) ho h4 hs h2 h1 (fun _ _ _ hp => hp) (.inr ⟨fun _ hh => hh, waitsB_spec h3⟩) hv (.inr (hrefl w)) (.inr h5) (ih fuel _ d _ w (fun e => getD_set_keep (hd e)) hsz' hl' h6 hr)
    | 1 =>
      obtain ⟨o, v, ho, hv, hr⟩ := h
      simp only [upOkT, Bool.and_eq_true, decide_eq_true_eq] at hok
      obtain ⟨h1, h2, h3, h4⟩ := hok
      exact wpAnyT_take (fun _ => True) ho h3 hs h2 h1 (fun _ _ _ hp => hp) (.inl fun _ => trivial) (hv.imp (fun hh => ⟨hh.1, fun w' _ => hh.2 w'⟩) id) (.inr (hrefl w)) (.inl fun _ => trivial) (ih fuel _ d _ w (fun e => getD_set_keep (hd e)) hsz' hl' h4 hr)
    | b + 2 =>
      obtain ⟨o, ho, hc⟩ := h
      simp only [upOkT, Bool.and_eq_true, decide_eq_true_eq] at hok
      obtain ⟨h1, h3⟩ := hok
      refine ⟨fun h0 => (by rw [h1] at h0; cases h0), fun j hj => ?_⟩
      rw [h1] at hj
      obtain rfl : j = i := by simpa using hj
      have hd' : (d || j == t0) = true → (listed.setIfInBounds j true).getD t0 false = true := by
        intro e
        rw [Bool.or_eq_true, beq_iff_eq] at e
        rcases e with e | rfl
        · exact getD_set_keep (hd e)
        · rw [Array.getD_eq_getD_getElem?, Array.getElem?_setIfInBounds, if_pos rfl, if_pos hi0]; rfl
      unfold wpOp
      simp only [ho]
      split
      · rename_i hw
        rw [if_pos hw] at hc
        refine .inl (Oper.wp_mono (fun a' w' hh => ?_) hc)
        obtain ⟨hR, hh⟩ := hh
        have hI := ih fuel _ _ a' w' hd' hsz' hl' h3 hh
        by_cases ht : (listed.setIfInBounds j true).getD t0 false = true
        · exact ⟨.inl ht, wpAnyT_weaken fuel _ a' w' (.inl ht) hI⟩
        · have hR' : R w w' := by
            rcases hR with hR | hR | hR
            · exact absurd (getD_set_keep (hd hR)) ht
            · exact absurd (hd' (by simp [hR])) ht
            · exact hR
          exact ⟨.inr hR', wpAnyT_weaken fuel _ a' w' (.inr fun z hz => htrans hR' hz) hI⟩
      · rename_i hw
        rw [if_neg hw] at hc
        exact ⟨.inr (hrefl w), ih fuel _ _ _ w hd' hsz' hl' h3 hc⟩

theorem wp_region_upT {id : Nat} {a : Act} {w : World} (R : World → World → Prop) (t0 : Nat) (ord : List (Nat × Nat)) (hrefl : ∀ w, R w w) (htrans : ∀ {x y z}, R x y → R y z → R x z) (hm : P.follows .mixedOrders = true)
    (hs : Region.noSelect ops = true) (hl : (decide (ord.length ≤ ops.size) && ord.all fun x => decide (x.2 < ops.size)) = true) (hok : upOkT ops t0 (Array.replicate ops.size false) ord = true) (h : wpUpT P ops R Q t0 ord false a w.drew) : (Code.region id ops true).wp P Q a w := by
  simp only [Bool.and_eq_true, decide_eq_true_eq, List.all_eq_true] at hl
  refine wp_region_noPanic (wp_region_any hm (wpAny_of_T _ _ _ _ (wpAnyT_of_up hrefl htrans hs ord ops.size _ false a _ (by simp) ?_ hl.1 hok h)))
  intro i hi
  simp only [List.mem_map] at hi
  obtain ⟨x, hx, rfl⟩ := hi
  rw [Array.size_replicate]
  exact hl.2 x hx

variable {i : Nat} {r : List (Nat × Nat)} {a : Act} {w : World} {d : Bool} {v : Value}
theorem upT_nil (h : Q .normal a w) : wpUpT P ops R Q t0 [] d a w := h

section
variable {dst : Option Tmp} {op : Op} {ty : TypeId} {pos : String} {af : Array Edge} {gd : Option (Nat × Bool)}
theorem upT_quiet (ho : ops[i]? = some ⟨dst, op, ty, pos, af, gd⟩) (hw : Region.wanted ⟨dst, op, ty, pos, af, gd⟩ (yielded ops a.tmps) = true) (hv : ∀ w', R w w' → (execOp a.eval ⟨dst, op, ty, pos, af, gd⟩).run P w' = .ok (.value v) w') (h : wpUpT P ops R Q t0 r d (a.put dst v) w) : wpUpT P ops R Q t0 ((0, i) :: r) d a w :=
  ⟨_, v, ho, .inl ⟨hw, hv⟩, h⟩
theorem upT_pure (ho : ops[i]? = some ⟨dst, op, ty, pos, af, gd⟩) (hw : Region.wanted ⟨dst, op, ty, pos, af, gd⟩ (yielded ops a.tmps) = true) (hv : ∀ w', (execOp a.eval ⟨dst, op, ty, pos, af, gd⟩).run P w' = .ok (.value v) w') (h : wpUpT P ops R Q t0 r d (a.put dst v) w) : wpUpT P ops R Q t0 ((1, i) :: r) d a w :=
  ⟨_, v, ho, .inl ⟨hw, hv⟩, h⟩
theorem upT_call (ho : ops[i]? = some ⟨dst, op, ty, pos, af, gd⟩) (hw : Region.wanted ⟨dst, op, ty, pos, af, gd⟩ (yielded ops a.tmps) = true) (h : ∀ K : Act → World → Prop, (∀ a' w', (d = true ∨ i = t0 ∨ R w w') → wpUpT P ops R Q t0 r (d || i == t0) a' w' → K a' w') → Oper.wp P ⟨dst, op, ty, pos, af, gd⟩ a w K (NoPanic Q)) : wpUpT P ops R Q t0 ((2, i) :: r) d a w :=
  ⟨_, ho, by rw [if_pos hw]; exact h _ fun _ _ h1 h2 => ⟨h1, h2⟩⟩
end
end

section
variable {P : Program} {o : Oper} {a : Act} {Q : Exit → Act → World → Prop} {K : Act → World → Prop}
/-- append(s, x) behind the block that x was laid in, at the operation. -/
theorem wp_push {w : World} {t e : TypeId} {z : Value} {bytes : Nat} (E : ElT P t e z 1 bytes) (s x : Operand)
    (ho : o.op = .call { callee := .builtin .append, args := #[s, x], argTypes := #[t, t] })
    {W : World} {B base : Nat} {v u : Value} {xs : List Value} (hown : Own w base e v xs) (hs : a.eval s = v) (hx : a.eval x = .slice (some ⟨w.heap.size, 0, none⟩) 1 1)
    (hb : Below B W w) (hbB : B ≤ base) (hbase : base ≤ w.heap.size) (h1 : u.oneCell' = true)
    (hn : (xs.length + 1) * bytes ≤ 140737488355328) (hm : xs.length + 1 ≤ maxLen)
    (h : ∀ A' c' w', xs.length + 1 ≤ c' → c' ≤ maxLen → Own w' base e (.slice A' (xs.length + 1) c') (xs ++ [u]) → w.grownBy w' v.ownBlock → Below B W w' → w.heap.size < w'.heap.size → K (a.put o.dst (.slice A' (xs.length + 1) c')) w') :
    Oper.wp P o a (w.alloc (.cells #[u] e)) K Q := by
  obtain ⟨i, hi, hz0, hz1, hz2⟩ := info_parts E.hi
  obtain ⟨v', w', hr, hown', hg, _, _⟩ := run_append_own_at (P := P) (w.alloc (.cells #[u] e)) base t o.type e i z 1 bytes E.ht hi hz0 hz1 hz2 E.hz (by omega) v xs.length xs (World.ownsRow.alloc hown _) ⟨w.heap.size, 0, none⟩ 1 1 [u] rfl (cell_one_new _ _ _) (by simpa using h1) hm hn (by simp; omega)
  have hxl : (xs ++ [u]).length = xs.length + 1 := by simp
  have hown2 : Own w' base e v' (xs ++ [u]) := by unfold Own; rw [hxl]; exact hown'
  obtain ⟨A', c', rfl, hc1, hc2⟩ := hown2.slice
  rw [hxl] at hc1 hown2 hr
  have hg2 : w.grownBy w' v.ownBlock := (World.grownBy_alloc w (.cells #[u] e) v.ownBlock).trans hg
  have hsz := hg.size
  simp at hsz
  unfold Oper.wp execOp
  simp only [ho, resolve, invoke, builtin, Sem.run_bind, Sem.run_pure, Result.andThen_ok, List.map_toArray, List.map_cons, List.map_nil, hs, hx, hr]
  exact h A' c' w' hc1 hc2 hown2 hg2 (hb.grown hg2 (Nat.le_trans hbB hbase) (fun k hk => by have := (hown.lt k hk).1; omega)) (by omega)
/-- append(s, xs...) onto a row of the call's own, at the operation. -/
theorem wp_pushes {w : World} {t e : TypeId} {z : Value} {bytes : Nat} (E : ElT P t e z 1 bytes) (s x : Operand)
    (ho : o.op = .call { callee := .builtin .append, args := #[s, x], argTypes := #[t, t] })
    {W : World} {B base m c : Nat} {v : Value} {xs news : List Value} {ad : Addr} (hown : Own w base e v xs) (hr : Reads w w.heap.size 1 (some ad) m news) (hm0 : 0 < m) (hs : a.eval s = v) (hx : a.eval x = .slice (some ad) m c)
    (hb : Below B W w) (hbB : B ≤ base) (hbase : base ≤ w.heap.size) (h1 : ∀ u ∈ news, u.oneCell' = true)
    (hn : (xs.length + m) * bytes ≤ 140737488355328) (hm : xs.length + m ≤ maxLen)
    (h : ∀ A' c' w', xs.length + m ≤ c' → c' ≤ maxLen → Own w' base e (.slice A' (xs.length + m) c') (xs ++ news) → w.grownBy w' v.ownBlock → Below B W w' → K (a.put o.dst (.slice A' (xs.length + m) c')) w') :
    Oper.wp P o a w K Q := by
  obtain ⟨i, hi, hz0, hz1, hz2⟩ := info_parts E.hi
  have hl : news.length = m := by have := hr.1; omega
  have hcells : ∀ j u, news[j]? = some u → w.cell? (ad.add j) = some u := by
    intro j u hu
    obtain ⟨ad', h', _, hc⟩ := hr.2 hm0
    injection h' with h'
    subst h'
    exact hc j u hu
  obtain ⟨v', w', hr', hown', hg, _, _⟩ := run_append_own_at (P := P) w base t o.type e i z 1 bytes E.ht hi hz0 hz1 hz2 E.hz (by omega) v xs.length xs hown ad m c news (by omega) hcells h1 hm hn hbase
  have hxl : (xs ++ news).length = xs.length + m := by simp [hl]
  have hown2 : Own w' base e v' (xs ++ news) := by unfold Own; rw [hxl]; exact hown'
  obtain ⟨A', c', rfl, hc1, hc2⟩ := hown2.slice
  rw [hxl] at hc1 hown2 hr'
  unfold Oper.wp execOp
  simp only [ho, resolve, invoke, builtin, Sem.run_bind, Sem.run_pure, Result.andThen_ok, List.map_toArray, List.map_cons, List.map_nil, hs, hx, hr']
  exact h A' c' w' hc1 hc2 hown2 hg (hb.grown hg (Nat.le_trans hbB hbase) (fun k hk => by have := (hown.lt k hk).1; omega))
end

end Go.Hm
