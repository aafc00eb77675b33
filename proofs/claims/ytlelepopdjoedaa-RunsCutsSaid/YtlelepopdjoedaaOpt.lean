/- What is answered with a truth beside: bytes, numbers, texts, or none. -/
import Derived.Test.YtlelepopdjoedaaFacts
import Derived.Test.YtlelepopdjoedaaStr
import Derived.Test.YtlelepopdjoedaaTouch

namespace Go.Proofs.Ytlelepopdjoedaa
open Go.RowKit Go.Hm
theorem strT : Try.prog.underlying 9 = some .string := by kernel_rfl
/-- The answer v; only draws are counted. -/
def DrewPost (v : Value) (w : World) (e : Ending) (w' : World) : Prop := e = .returned v ∧ ∃ k, w' = w.drewN k
/-- The answer v; nothing that was is turned. -/
def NewPost (v : Value) (w : World) (e : Ending) (w' : World) : Prop := e = .returned v ∧ New w w'
/-- The answer v; nothing at all is turned. -/
def ValPost (v : Value) (w : World) (e : Ending) (w' : World) : Prop := e = .returned v ∧ w = w'
theorem DrewPost.new {v : Value} {w w' : World} {e : Ending} (h : DrewPost v w e w') : NewPost v w e w' := by
  obtain ⟨h1, k, rfl⟩ := h
  exact ⟨h1, new_drewN w k⟩
/-- Bytes or none, and whether there are any. -/
def OptB (o : Option (List Nat)) (w : World) (e : Ending) (w' : World) : Prop :=
  match o with
  | none => e = .returned (.tuple #[.slice none 0 0, .bool false]) ∧ Below w.heap.size w w'
  | some l => ∃ A n c, e = .returned (.tuple #[.slice A n c, .bool true]) ∧ Own w' w.heap.size 5 (.slice A n c) (nums .u8 l) ∧ Below w.heap.size w w'
theorem OptB.u {o : Option (List Nat)} {w w' : World} {e : Ending} (h : OptB o w e w') :
    ∃ A n c, e = .returned (.tuple #[.slice A n c, .bool o.isSome]) ∧ Own w' w.heap.size 5 (.slice A n c) (nums .u8 (o.getD [])) ∧ Below w.heap.size w w' := by
  cases o with
  | none => exact ⟨none, 0, 0, h.1, Own.nil_, h.2⟩
  | some l => exact h
def OptW (o : Option (List Nat)) (w : World) (e : Ending) (w' : World) : Prop :=
  match o with
  | none => e = .returned (.tuple #[.slice none 0 0, .bool false]) ∧ Below w.heap.size w w'
  | some l => ∃ A n c, e = .returned (.tuple #[.slice A n c, .bool true]) ∧ Own w' w.heap.size 34 (.slice A n c) (nums .u64 l) ∧ Below w.heap.size w w'
theorem OptW.u {o : Option (List Nat)} {w w' : World} {e : Ending} (h : OptW o w e w') :
    ∃ A n c, e = .returned (.tuple #[.slice A n c, .bool o.isSome]) ∧ Own w' w.heap.size 34 (.slice A n c) (nums .u64 (o.getD [])) ∧ Below w.heap.size w w' := by
  cases o with
  | none => exact ⟨none, 0, 0, h.1, Own.nil_, h.2⟩
  | some l => exact h

end Go.Proofs.Ytlelepopdjoedaa
