/- A region that draws its order, walked once: what only reads is carried out as soon as it may be, its value holding in every later world; what makes or turns memory comes up in one order alone. No program is named here. -/
import Derived.Test.YtlelepopdjoedaaMem
import Derived.Deep.RegionHeld3

namespace Go.Hm
open Go.RowKit

section
variable {P : Program} {ops : Array Oper} {Q : Exit → Act → World → Prop}

theorem wpAnyH_weaken {S S' : World → Prop} (h : ∀ w, S w → S' w) : ∀ (fuel : Nat) (listed : Array Bool) (a : Act) (w : World), wpAnyH P .any ops Q S fuel listed a w → wpAnyH P .any ops Q S' fuel listed a w
  | 0, _, _, _, hh => hh
  | fuel + 1, _, _, _, hh => ⟨hh.1, fun i hi => wpOp_mono (fun a' w' h' => ⟨h w' h'.1, wpAnyH_weaken h fuel _ a' w' h'.2⟩) (hh.2 i hi)⟩

/-- The order is one that may be gone through so: 'true': only reads; 'false': alone ready. -/
def upOk (ops : Array Oper) : Array Bool → List (Bool × Nat) → Bool
  | listed, [] => (Region.ready .any ops listed).isEmpty
  | listed, (true, i) :: r => (Region.ready .any ops listed).contains i && (Region.free .any ops listed i && upOk ops (listed.setIfInBounds i true) r)
  | listed, (false, i) :: r => decide (Region.ready .any ops listed = [i]) && upOk ops (listed.setIfInBounds i true) r

def wpUp (P : Program) (ops : Array Oper) (R : World → World → Prop) (Q : Exit → Act → World → Prop) : List (Bool × Nat) → Act → World → Prop
  | [], a, w => Q .normal a w
  | (true, i) :: r, a, w => ∃ o v, ops[i]? = some o ∧ ((Region.wanted o (yielded ops a.tmps) = true ∧ ∀ w', R w w' → (execOp a.eval o).run P w' = .ok (.value v) w') ∨ (Region.wanted o (yielded ops a.tmps) = false ∧ v = undef)) ∧ wpUp P ops R Q r (a.put o.dst v) w
  | (false, i) :: r, a, w => ∃ o, ops[i]? = some o ∧ if Region.wanted o (yielded ops a.tmps) then o.wp P a w (fun a' w' => R w w' ∧ wpUp P ops R Q r a' w') (NoPanic Q) else wpUp P ops R Q r (a.put o.dst undef) w

variable {R : World → World → Prop}
theorem wpAnyH_of_up (hrefl : ∀ w, R w w) (htrans : ∀ {x y z}, R x y → R y z → R x z) (hs : Region.noSelect ops = true) :
    ∀ (ord : List (Bool × Nat)) (fuel : Nat) (listed : Array Bool) (a : Act) (w : World), ord.length ≤ fuel → upOk ops listed ord = true → wpUp P ops R Q ord a w → wpAnyH P .any ops (NoPanic Q) (R w) fuel listed a w := by
  intro ord
  induction ord with
  | nil =>
    intro fuel listed a w _ hok h
    exact wpAnyH_done (by simpa [upOk] using hok) (NoPanic.normal h) fuel
  | cons x r ih =>
    obtain ⟨b, i⟩ := x
    intro fuel listed a w hl hok h
    obtain ⟨fuel, rfl⟩ : ∃ k, fuel = k + 1 := ⟨fuel - 1, by simp at hl; omega⟩
    have hl' : r.length ≤ fuel := by simp at hl; omega
    cases b with
    | true =>
      obtain ⟨o, v, ho, hv, hr⟩ := h
      simp only [upOk, Bool.and_eq_true] at hok
      obtain ⟨h1, h2, h3⟩ := hok
      exact wpAnyH_take ho hs h2 h1 (fun _ _ _ hp => hp) hv (hrefl w) (ih fuel _ _ w hl' h3 hr)
    | false =>
      obtain ⟨o, ho, hc⟩ := h
      simp only [upOk, Bool.and_eq_true, decide_eq_true_eq] at hok
      obtain ⟨h1, h3⟩ := hok
      refine wpAnyH_all h1 (by simp) ?_
      intro j hj
      obtain rfl : j = i := by simpa using hj
      unfold wpOp
      simp only [ho]
      split
      · rename_i hw
        rw [if_pos hw] at hc
        exact .inl (Oper.wp_mono (fun a' w' hh => ⟨hh.1, wpAnyH_weaken (fun z hz => htrans hh.1 hz) fuel _ a' w' (ih fuel _ a' w' hl' h3 hh.2)⟩) hc)
      · rename_i hw
        rw [if_neg hw] at hc
        exact ⟨hrefl w, ih fuel _ _ w hl' h3 hc⟩

theorem wp_region_up {id : Nat} {a : Act} {w : World} (R : World → World → Prop) (ord : List (Bool × Nat)) (hrefl : ∀ w, R w w) (htrans : ∀ {x y z}, R x y → R y z → R x z) (hm : P.follows .mixedOrders = true)
    (hs : Region.noSelect ops = true) (hl : decide (ord.length ≤ ops.size) = true) (hok : upOk ops (Array.replicate ops.size false) ord = true) (h : wpUp P ops R Q ord a w.drew) : (Code.region id ops true).wp P Q a w :=
  wp_region_noPanic (wp_region_held hm (wpAnyH_of_up hrefl htrans hs ord ops.size _ a _ (by simpa using hl) hok h))

/-- Only new memory. -/
abbrev New (w w' : World) : Prop := Below w.heap.size w w'
theorem New.refl (w : World) : New w w := Below.refl _ _
theorem New.trans {x y z : World} (h : New x y) (k : New y z) : New x z := Below.trans h (Below.mono k h.size)
theorem New.drew (w : World) : New w w.drew := (Below.refl _ _).drew

/-- Only block g, and new memory. -/
abbrev Far (g : Nat) (w w' : World) : Prop := w.grownBy w' (some g)
theorem Far.refl (g : Nat) (w : World) : Far g w w := World.grownBy.refl w _
theorem Far.trans {g : Nat} {x y z : World} (h : Far g x y) (k : Far g y z) : Far g x z := World.grownBy.trans h k
theorem Far.drew (g : Nat) (w : World) : Far g w w.drew := ⟨rfl, rfl, rfl, Nat.le_refl _, fun _ _ _ => rfl⟩
theorem Far.of_new {g : Nat} {w w' : World} (h : New w w') : Far g w w' := ⟨h.os, h.tape, h.output, h.size, fun k hk _ => h.block k hk⟩
theorem Far.below {g B : Nat} {a w w' : World} (h : Below B a w) (hg : Far g w w') (hB : B ≤ g) (hBw : B ≤ a.heap.size) : Below B a w' := below_gr h hg hB hBw

variable {i : Nat} {r : List (Bool × Nat)} {a : Act} {w : World} {o : Oper} {v : Value}
theorem up_nil (h : Q .normal a w) : wpUp P ops R Q [] a w := h

section
variable {dst : Option Tmp} {op : Op} {ty : TypeId} {pos : String} {af : Array Edge} {gd : Option (Nat × Bool)}
theorem up_quiet (ho : ops[i]? = some ⟨dst, op, ty, pos, af, gd⟩) (hw : Region.wanted ⟨dst, op, ty, pos, af, gd⟩ (yielded ops a.tmps) = true) (hv : ∀ w', R w w' → (execOp a.eval ⟨dst, op, ty, pos, af, gd⟩).run P w' = .ok (.value v) w') (h : wpUp P ops R Q r (a.put dst v) w) : wpUp P ops R Q ((true, i) :: r) a w :=
  ⟨_, v, ho, .inl ⟨hw, hv⟩, h⟩
theorem up_skip {b : Bool} (ho : ops[i]? = some ⟨dst, op, ty, pos, af, gd⟩) (hw : Region.wanted ⟨dst, op, ty, pos, af, gd⟩ (yielded ops a.tmps) = false) (h : wpUp P ops R Q r (a.put dst undef) w) : wpUp P ops R Q ((b, i) :: r) a w := by
  cases b
  · exact ⟨_, ho, by rw [if_neg (by simp [hw])]; exact h⟩
  · exact ⟨_, undef, ho, .inr ⟨hw, rfl⟩, h⟩
theorem up_call (ho : ops[i]? = some ⟨dst, op, ty, pos, af, gd⟩) (hw : Region.wanted ⟨dst, op, ty, pos, af, gd⟩ (yielded ops a.tmps) = true) (h : ∀ K : Act → World → Prop, (∀ a' w', R w w' → wpUp P ops R Q r a' w' → K a' w') → Oper.wp P ⟨dst, op, ty, pos, af, gd⟩ a w K (NoPanic Q)) : wpUp P ops R Q ((false, i) :: r) a w :=
  ⟨_, ho, by rw [if_pos hw]; exact h _ fun _ _ h1 h2 => ⟨h1, h2⟩⟩
/-- string(x). -/
theorem up_str {src dst' e : TypeId} {x : Operand} {A : Option Addr} {n c : Nat} {l : List Nat} (hs : P.underlying src = some (.slice e)) (he : P.underlying e = some (.int .u8)) (hd : P.underlying dst' = some .string)
    (ho : ops[i]? = some ⟨dst, .convert src dst' x, ty, pos, af, gd⟩) (hw : Region.wanted ⟨dst, .convert src dst' x, ty, pos, af, gd⟩ (yielded ops a.tmps) = true) (hx : a.eval x = .slice A n c) {w0 : World} (hr : Reads w0 w0.heap.size 1 A n (nums .u8 l)) (hU : New w0 w)
    (h : wpUp P ops New Q r (a.put dst (.string (bstr l))) w) : wpUp P ops New Q ((true, i) :: r) a w :=
  up_quiet ho hw (fun w' hb => by
    have := run_str (c := c) hs he hd (hr.below (New.trans hU hb))
    simp [execOp, hx, this, Result.andThen]) h
end
end

theorem run_sadd (P : Program) (l m : List Nat) (h : l.length + m.length ≤ 9223372036854775807) (w : World) : (Op.stringOp .add (bstr l) (bstr m)).run P w = .ok (.string (bstr (l ++ m))) w := by
  rw [run_string_add_sum (P := P) w (bstr l) (bstr m) (by rw [bstr_size, bstr_size]; exact h), bstr_append]

end Go.Hm
