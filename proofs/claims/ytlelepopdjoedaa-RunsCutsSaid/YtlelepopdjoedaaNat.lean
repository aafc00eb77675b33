/- A region that draws its order, walked in the order in which it is written: whether that may be is reckoned quickly. No program is named here. -/
import Derived.Test.YtlelepopdjoedaaUp

namespace Go.Hm
open Go Go.RowKit
/-- The operations of a region, by its number. -/
def regOps (id : Nat) : Code → Option (Array Oper)
  | .region i ops _ => if i = id then some ops else none
  | .seq a b => match regOps id a with | some x => some x | none => regOps id b
  | .cond _ a b => match regOps id a with | some x => some x | none => regOps id b
  | .block _ a => regOps id a
  | .loop a => regOps id a
  | _ => none
def regOf (f : Func) (id : Nat) : Array Oper := match f.body with | some c => (regOps id c).getD #[] | none => #[]
def natOrd : Nat → List Bool → List (Bool × Nat)
  | _, [] => []
  | i, b :: bs => (b, i) :: natOrd (i + 1) bs
def chkE (o : Oper) (i : Nat) : Bool := o.after.toList.all fun e => !Region.binds .any e || Nat.blt e.on i
def chkQ (ops : Array Oper) (o : Oper) (i : Nat) (rest : List Oper) : Bool := rest.all fun oj => oj.after.toList.any (fun e => Region.binds .any e && Nat.beq e.on i) || o.apart ops oj
def chkA (i : Nat) (rest : List Oper) : Bool := rest.all fun oj => oj.after.toList.any fun e => Region.binds .any e && Nat.ble i e.on
def natOk (ops : Array Oper) : Nat → List Oper → List Bool → Bool
  | _, [], [] => true
  | i, o :: rest, b :: bs => chkE o i && ((match b with | true => chkQ ops o i rest | false => chkA i rest) && natOk ops (i + 1) rest bs)
  | _, _, _ => false
theorem filter_one (p : Nat → Bool) (i : Nat) : ∀ n, i < n → p i = true → (∀ j, j < n → j ≠ i → p j = false) → (List.range n).filter p = [i] := by
  intro n
  induction n with
  | zero => intro h; omega
  | succ n ih =>
    intro h hp hn
    rw [List.range_succ, List.filter_append]
    by_cases e : i = n
    · subst e
      have : (List.range i).filter p = [] := by
        rw [List.filter_eq_nil_iff]
        intro j hj
        have hj := List.mem_range.1 hj
        simp [hn j (by omega) (by omega)]
      simp [this, hp]
    · rw [ih (by omega) hp (fun j hj hne => hn j (by omega) hne)]
      simp [hn n (by omega) (fun e' => e e'.symm)]
theorem natOk_up (ops : Array Oper) : ∀ (bs : List Bool) (i : Nat) (rest : List Oper) (listed : Array Bool), rest = ops.toList.drop i → i ≤ ops.size → listed.size = ops.size → (∀ j, listed.getD j false = decide (j < i)) → (∀ j, j < ops.size → listed.getD j true = decide (j < i)) →
    natOk ops i rest bs = true → upOk ops listed (natOrd i bs) = true := by
  intro bs
  induction bs with
  | nil =>
    intro i rest listed hr hi hs h1 h2 h
    cases rest with
    | cons => simp [natOk] at h
    | nil =>
      have hil : ops.size ≤ i := by
        have := congrArg List.length hr
        simp at this
        omega
      simp only [natOrd, upOk, List.isEmpty_iff]
      refine List.eq_nil_iff_forall_not_mem.2 fun j hj => ?_
      obtain ⟨h3, o, ho, _⟩ := mem_ready.1 hj
      have hjl := (Array.getElem?_eq_some_iff.1 ho).1
      rw [h2 j hjl] at h3
      simp at h3
      omega
  | cons b bs ih =>
    intro i rest listed hr hi hs h1 h2 h
    cases rest with
    | nil => simp [natOk] at h
    | cons o rest =>
      have hil : i < ops.size := by
        have := congrArg List.length hr
        simp at this
        omega
      have hio : ops[i]? = some o ∧ rest = ops.toList.drop (i + 1) := by
        rw [List.drop_eq_getElem_cons (by simpa using hil)] at hr
        injection hr with e1 e2
        exact ⟨by rw [Array.getElem?_eq_getElem hil, e1]; simp, e2⟩
      obtain ⟨ho, hrest⟩ := hio
      simp only [natOk, Bool.and_eq_true] at h
      obtain ⟨hE, hB, hN⟩ := h
      have hrd : i ∈ Region.ready .any ops listed := by
        refine mem_ready.2 ⟨by rw [h2 i hil]; simp, o, ho, fun e he hb => ?_⟩
        have := (List.all_eq_true.1 hE) e (by simpa using he)
        rw [hb] at this
        simp only [Bool.not_true, Bool.false_or] at this
        rw [h1]
        exact decide_eq_true (by simpa using this)
      have hmem : ∀ j oj, ops[j]? = some oj → i < j → oj ∈ rest := by
        intro j oj hj hlt
        rw [hrest]
        have hx : (ops.toList.drop (i + 1))[j - (i + 1)]? = some oj := by
          rw [List.getElem?_drop, show i + 1 + (j - (i + 1)) = j by omega, Array.getElem?_toList]
          exact hj
        exact List.mem_of_getElem? hx
      have hnext : upOk ops (listed.setIfInBounds i true) (natOrd (i + 1) bs) = true := by
        refine ih (i + 1) rest _ hrest hil (by simpa using hs) (fun j => ?_) (fun j hj => ?_) hN
        · by_cases e : i = j
          · subst e
            simp [hs, hil]
          · rw [getD_set_ne false e, h1]
            exact decide_eq_decide.2 (by omega)
        · by_cases e : i = j
          · subst e
            simp [hs, hil]
          · rw [getD_set_ne true e, h2 j hj]
            exact decide_eq_decide.2 (by omega)
      cases b with
      | true =>
        simp only [natOrd, upOk, Bool.and_eq_true]
        refine ⟨by simpa using hrd, ?_, hnext⟩
        simp only [Region.free, ho, List.all_eq_true, List.mem_range]
        intro j hj
        by_cases e : j = i
        · simp [e]
        · rw [h2 j hj]
          by_cases hlt : j < i
          · simp [hlt]
          · have hjj := Array.getElem?_eq_getElem hj
            have := (List.all_eq_true.1 hB) _ (hmem j _ hjj (by omega))
            simp only [hjj]
            rw [Bool.or_eq_true] at this ⊢
            right
            rw [Bool.or_eq_true]
            rcases this with this | this
            · left
              obtain ⟨e', he', hb'⟩ := List.any_eq_true.1 this
              refine Array.any_eq_true'.2 ⟨e', by simpa using he', ?_⟩
              rw [Bool.and_eq_true] at hb' ⊢
              exact ⟨hb'.1, by simpa using Nat.eq_of_beq_eq_true hb'.2⟩
            · exact .inr this
      | false =>
        simp only [natOrd, upOk, Bool.and_eq_true, decide_eq_true_eq]
        refine ⟨?_, hnext⟩
        unfold Region.ready
        have hr' : ∀ j, j ∈ Region.ready .any ops listed → j = i := by
          intro j hj
          obtain ⟨h3, oj, hoj, h4⟩ := mem_ready.1 hj
          have hjl := (Array.getElem?_eq_some_iff.1 hoj).1
          rw [h2 j hjl] at h3
          by_cases e : j = i
          · exact e
          · have hlt : i < j := by simp at h3; omega
            obtain ⟨e', he', hb'⟩ := List.any_eq_true.1 ((List.all_eq_true.1 hB) _ (hmem j _ hoj hlt))
            rw [Bool.and_eq_true] at hb'
            have := h4 e' (by simpa using he') hb'.1
            rw [h1] at this
            have h5 := of_decide_eq_true this
            have h6 : i ≤ e'.on := by simpa using hb'.2
            omega
        refine filter_one _ i _ hil ?_ (fun j hj hne => ?_)
        · unfold Region.ready at hrd
          exact (List.mem_filter.1 hrd).2
        · cases hp : (!listed.getD j true && ((ops[j]?).map (·.after.all fun e => !Region.binds .any e || listed.getD e.on false)).getD false) with
          | false => rfl
          | true => exact absurd (hr' j (by unfold Region.ready; exact List.mem_filter.2 ⟨List.mem_range.2 hj, hp⟩)) hne
/-- The order as it is written may be gone through. -/
theorem nat_up {ops : Array Oper} {bs : List Bool} (h : natOk ops 0 ops.toList bs = true) : upOk ops (Array.replicate ops.size false) (natOrd 0 bs) = true :=
  natOk_up ops bs 0 ops.toList _ (by simp) (Nat.zero_le _) (by simp) (fun j => by
    rw [Array.getD_eq_getD_getElem?, Array.getElem?_replicate]; split <;> simp) (fun j hj => by
    rw [Array.getD_eq_getD_getElem?, Array.getElem?_replicate]; simp [hj]) h

end Go.Hm
