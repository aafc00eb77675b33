/- A world in which only some known blocks were turned, and new ones made. No program is named here. -/
import Derived.Test.YtlelepopdjoedaaUp
import Derived.Test.YtlelepopdjoedaaMore

namespace Go.Hm
open Go.RowKit
/-- Only the blocks of T, and new memory. -/
structure Turns (T : List Nat) (w w' : World) : Prop where
  os : w'.os = w.os
  tape : w'.tape = w.tape
  output : w'.output = w.output
  size : w.heap.size ≤ w'.heap.size
  block : ∀ k, k < w.heap.size → k ∉ T → w'.heap[k]? = w.heap[k]?

section
variable {T T' : List Nat} {w w' w2 : World}
theorem Turns.refl (T : List Nat) (w : World) : Turns T w w := ⟨rfl, rfl, rfl, Nat.le_refl _, fun _ _ _ => rfl⟩
theorem Turns.trans (h : Turns T w w') (k : Turns T w' w2) : Turns T w w2 :=
  ⟨k.os.trans h.os, k.tape.trans h.tape, k.output.trans h.output, Nat.le_trans h.size k.size, fun i hi hT => (k.block i (Nat.lt_of_lt_of_le hi h.size) hT).trans (h.block i hi hT)⟩
theorem Turns.more (h : Turns T w w') (hs : ∀ x ∈ T, x ∈ T') : Turns T' w w' := ⟨h.os, h.tape, h.output, h.size, fun i hi hT => h.block i hi fun hx => hT (hs i hx)⟩
theorem Turns.of_new (h : Below w.heap.size w w') : Turns T w w' := ⟨h.os, h.tape, h.output, h.size, fun k hk _ => h.block k hk⟩
theorem Turns.of_far {g : Nat} (h : w.grownBy w' (some g)) (hg : g ∈ T) : Turns T w w' :=
  ⟨h.os, h.tape, h.output, h.size, fun k hk hT => h.block k hk (fun e => by injection e with e; subst e; exact hT hg)⟩
theorem Turns.of_none (h : w.grownBy w' none) : Turns T w w' := ⟨h.os, h.tape, h.output, h.size, fun k hk _ => h.block k hk (by simp)⟩
theorem Turns.drew (T : List Nat) (w : World) : Turns T w w.drew := ⟨rfl, rfl, rfl, Nat.le_refl _, fun _ _ _ => rfl⟩
theorem Turns.drewN (T : List Nat) (w : World) (n : Nat) : Turns T w (w.drewN n) := ⟨rfl, rfl, rfl, Nat.le_refl _, fun _ _ _ => rfl⟩
theorem Turns.setCell {g i : Nat} (u : Value) (hg : g ∈ T) (w : World) : Turns T w (w.setCell ⟨g, i, none⟩ u) :=
  ⟨rfl, rfl, rfl, by simp [World.setCell], fun k _ hT => Below.heap_setCell _ _ _ _ (by rintro rfl; exact hT hg)⟩
theorem Turns.new_ {x : Nat} (h : Turns (x :: T) w w') (hx : w.heap.size ≤ x) : Turns T w w' :=
  ⟨h.os, h.tape, h.output, h.size, fun i hi hT => h.block i hi fun hm => by
    rcases List.mem_cons.1 hm with rfl | hm
    · omega
    · exact hT hm⟩
theorem Turns.below {B : Nat} {a : World} (h : Below B a w) (k : Turns T w w') (hT : ∀ x ∈ T, B ≤ x) (hB : B ≤ a.heap.size) : Below B a w' :=
  ⟨k.os.trans h.os, k.tape.trans h.tape, k.output.trans h.output, Nat.le_trans h.size k.size, fun i hi => (k.block i (by have := h.size; omega) (fun hm => by have := hT i hm; omega)).trans (h.block i hi)⟩
theorem Turns.new (k : Turns T w w') (hT : ∀ x ∈ T, w.heap.size ≤ x) : Below w.heap.size w w' := k.below (Below.refl _ _) hT (Nat.le_refl _)
theorem Blk.touch {g : Nat} {t : TypeId} {cs : Array Value} (h : Blk w g t cs) (k : Turns T w w') (hg : g ∉ T) : Blk w' g t cs := (k.block g h.lt hg).trans h
theorem Own.touch {base : Nat} {e : TypeId} {v : Value} {xs : List Value} (h : Own w base e v xs) (k : Turns T w w') (hT : ∀ x ∈ T, v.ownBlock ≠ some x) : Own w' base e v xs := by
  refine ⟨h.1, ?_⟩
  rcases h.2 with hn | ⟨g, cap, cur, rfl, hbg, hgg, rest⟩
  · exact .inl hn
  · refine .inr ⟨g, cap, cur, rfl, hbg, ?_, rest⟩
    rw [k.block g (Array.getElem?_eq_some_iff.1 hgg).1 (fun hm => hT g hm rfl)]
    exact hgg
theorem Reads.touch {B size n : Nat} {A : Option Addr} {xs : List Value} (h : Reads w B size A n xs) (k : Turns T w w') (hT : ∀ x ∈ T, B ≤ x) (hB : B ≤ w.heap.size) : Reads w' B size A n xs :=
  h.keep fun p hp => World.cell?_of_block (k.block p.block (by omega) (fun hm => by have := hT _ hm; omega))
theorem Turns.far {g : Nat} (h : Turns [g] w w') : w.grownBy w' (some g) := ⟨h.os, h.tape, h.output, h.size, fun k hk hne => h.block k hk (by intro hm; simp at hm; subst hm; exact hne rfl)⟩
theorem new_size {a : World} (h : Below a.heap.size a w) (k : Below w.heap.size w w') : a.heap.size ≤ w'.heap.size := Nat.le_trans h.size k.size
end
theorem Own.row {w : World} {base : Nat} {e : TypeId} {v : Value} {xs : List Value} (h : Own w base e v xs) : ∀ g, v.ownBlock = some g → ∃ cs, Blk w g e cs := by
  intro g hg
  rcases h.2 with ⟨rfl, _⟩ | ⟨g', cap, cur, rfl, _, hh, _⟩
  · simp [Value.ownBlock] at hg
  · have : g' = g := by simpa [Value.ownBlock] using hg
    subst this
    exact ⟨cur, hh⟩
theorem Blk.push {w w' : World} {g : Nat} {t e : TypeId} {cs : Array Value} {base : Nat} {v : Value} {xs : List Value} (h : Blk w g t cs) (o : Own w base e v xs) (hg : w.grownBy w' v.ownBlock) (hne : e ≠ t) : Blk w' g t cs :=
  h.grown hg (fun e' => o.blk_ne h hne e'.symm)
/-- A literal's cells are read. -/
theorem Reads.litV (w : World) (e : TypeId) (cs : Array Value) (n : Nat) (xs : List Value) (h : cs.toList = xs) (hn : n = xs.length) : Reads (w.alloc (.cells cs e)) (w.alloc (.cells cs e)).heap.size 1 (some ⟨w.heap.size, 0, none⟩) n xs := by
  subst hn
  refine ⟨by simp, fun _ => ⟨_, rfl, by simp, ?_⟩⟩
  have := World.news_of_block (heap_alloc_new w (.cells cs e))
  rwa [h] at this
theorem Reads.over {w : World} {A : Option Addr} {n s : Nat} {xs : List Value} (h : Reads w w.heap.size s A n xs) (o : Obj) : Reads (w.alloc o) (w.alloc o).heap.size s A n xs := (h.alloc (Nat.le_refl _) o).more (by simp)
theorem New.alloc {w w' : World} (o : Obj) (h : Below (w.alloc o).heap.size (w.alloc o) w') : New w w' := ((Below.refl _ w).alloc (Nat.le_refl _) o).trans (h.mono (by simp))
theorem drewN_add (w : World) (m n : Nat) : (w.drewN m).drewN n = w.drewN (m + n) := by simp [World.drewN, Nat.add_assoc]
theorem new_drewN (w : World) (k : Nat) : New w (w.drewN k) := ⟨rfl, rfl, rfl, Nat.le_refl _, fun _ _ => rfl⟩
/-- A slice that was read before is read later. -/
theorem Reads.later {w0 w : World} {A : Option Addr} {n s : Nat} {xs : List Value} (h : Reads w0 w0.heap.size s A n xs) (hb : Below w0.heap.size w0 w) : Reads w w.heap.size s A n xs := (h.below hb).more hb.size
theorem Own.later {w0 w : World} {base : Nat} {e : TypeId} {v : Value} {xs : List Value} (h : Own w0 base e v xs) (hb : Below w0.heap.size w0 w) : Own w base e v xs := h.below hb (Nat.le_refl _)

end Go.Hm
