/- Rows of the call's own whose elements have many cells. No program is named here. -/
import Derived.Test.YtpbfohgmhjadpaaTouch
import Derived.Test.YtpbfohgmhjadpaaHeld
import Derived.Test.YtpbfohgmhjadpaaPairs

namespace Go.Hm
open Go Go.RowKit

section
variable {w w' : World} {base sz n : Nat} {e : TypeId} {v : Value} {xs : List Value}
theorem row_below {B : Nat} (h : w.ownsRow base e sz v n xs) (hb : Below B w w') (hB : w.heap.size ≤ B) : w'.ownsRow base e sz v n xs := by
  refine ⟨h.1, ?_⟩
  rcases h.2 with hn | ⟨g, cap, cur, rfl, hbg, hgg, rest⟩
  · exact .inl hn
  · refine .inr ⟨g, cap, cur, rfl, hbg, ?_, rest⟩
    rw [hb.block g (Nat.lt_of_lt_of_le (Array.getElem?_eq_some_iff.1 hgg).1 hB)]
    exact hgg
theorem row_later (h : w.ownsRow base e sz v n xs) (hb : New w w') : w'.ownsRow base e sz v n xs := row_below h hb (Nat.le_refl _)
theorem row_base {b' : Nat} (h : w.ownsRow base e sz v n xs) (hb : b' ≤ base) : w.ownsRow b' e sz v n xs := by
  refine ⟨h.1, ?_⟩
  rcases h.2 with hn | ⟨g, cap, cur, hv, hbg, rest⟩
  · exact .inl hn
  · exact .inr ⟨g, cap, cur, hv, Nat.le_trans hb hbg, rest⟩
theorem row_slice (h : w.ownsRow base e sz v n xs) : ∃ A c, v = .slice A n c ∧ n ≤ c ∧ c ≤ maxLen := by
  rcases h.2 with ⟨hv, hn⟩ | ⟨g, cap, cur, hv, _, _, hc, hm, _⟩
  · exact ⟨none, 0, by rw [hv, hn], by omega, by simp [maxLen]⟩
  · exact ⟨_, _, hv, hc, hm⟩
theorem row_nil : w.ownsRow base e sz (.slice none 0 0) 0 [] := ⟨by simp, .inl ⟨rfl, rfl⟩⟩
theorem row_blk_ne {g : Nat} {t : TypeId} {cs : Array Value} (h : w.ownsRow base e sz v n xs) (hg : Blk w g t cs) (hne : e ≠ t) : v.ownBlock ≠ some g := by
  rcases h.2 with ⟨rfl, _⟩ | ⟨g', cap, cur, rfl, _, hh, _⟩
  · simp [Value.ownBlock]
  · intro he
    have : g' = g := by simpa [Value.ownBlock] using he
    subst this
    exact Blk.ne_ (t := e) hh hg hne rfl
end

section
variable {P : Program} {ops : Array Oper} {rest : List Oper} {o : Oper} {a : Act} {Q : Exit → Act → World → Prop}
/-- append(s, x) of a record, behind the block that x was laid in. -/
theorem wpList_pushR {w : World} {t e : TypeId} {z : Value} {sz bytes : Nat} (E : ElT P t e z sz bytes) (hgd : o.guard = none) (s x : Operand)
    (ho : o.op = .call { callee := .builtin .append, args := #[s, x], argTypes := #[t, t] })
    {W : World} {B base n : Nat} {v : Value} {us xs : List Value} (hown : w.ownsRow base e sz v n xs) (hs : a.eval s = v) (hx : a.eval x = .slice (some ⟨w.heap.size, 0, none⟩) 1 1)
    (hb : Below B W w) (hbB : B ≤ base) (hbase : base ≤ w.heap.size) (hus : us.length = sz) (h1 : ∀ u ∈ us, u.oneCell' = true)
    (hn : (n + 1) * bytes ≤ 140737488355328) (hm : n + 1 ≤ maxLen)
    (h : ∀ A' c' w', n + 1 ≤ c' → c' ≤ maxLen → w'.ownsRow base e sz (.slice A' (n + 1) c') (n + 1) (xs ++ us) → w.grownBy w' v.ownBlock → Below B W w' → w.heap.size < w'.heap.size →
      (Value.ownBlock (.slice A' (n + 1) c') = v.ownBlock ∨ ∃ g, Value.ownBlock (.slice A' (n + 1) c') = some g ∧ w.heap.size ≤ g) → wpList P ops Q rest (a.put o.dst (.slice A' (n + 1) c')) w') :
    wpList P ops Q (o :: rest) a (w.alloc (.cells us.toArray e)) := by
  obtain ⟨i, hi, hz0, hz1, hz2⟩ := info_parts E.hi
  refine wpList_append_own_at _ hgd s x t ho base e i z sz bytes E.ht hi hz0 hz1 hz2 E.hz E.hs v n xs hs (World.ownsRow.alloc hown _) ⟨w.heap.size, 0, none⟩ 1 1 us hx (by omega) ?_ h1 hm hn (by simp; omega) ?_
  · have := World.news_of_block (heap_alloc_new w (.cells us.toArray e))
    simpa using this
  intro v' w' hown' hg _ hat
  obtain ⟨A', c', rfl, hc1, hc2⟩ := row_slice hown'
  have hg2 : w.grownBy w' v.ownBlock := (World.grownBy_alloc w (.cells us.toArray e) v.ownBlock).trans hg
  have hsz := hg.size
  simp at hsz
  refine h A' c' w' hc1 hc2 hown' hg2 (hb.grown hg2 (Nat.le_trans hbB hbase) (fun k hk => by have := (World.ownsRow.lt hown k hk).1; omega)) (by omega) ?_
  rcases hat with e1 | e1
  · exact .inl e1
  · exact .inr ⟨_, e1, by simp⟩
end
theorem cell_new {w0 : World} {p : Addr} {u : Value} (h : w0.cell? p = some u) (hp : p.block < w0.drew.heap.size) : ∀ W, New w0.drew W → W.cell? p = some u := fun _ hW => (Below.cell hW hp).trans h
/-- A literal's cells are read, records. -/
theorem Reads.litR (w : World) (e : TypeId) (cs : Array Value) (n sz : Nat) (xs : List Value) (h : cs.toList = xs) (hn : xs.length = n * sz) : Reads (w.alloc (.cells cs e)) (w.alloc (.cells cs e)).heap.size sz (some ⟨w.heap.size, 0, none⟩) n xs := by
  refine ⟨hn, fun _ => ⟨_, rfl, by simp, ?_⟩⟩
  have := World.news_of_block (heap_alloc_new w (.cells cs e))
  rwa [h] at this
/-- Both parts of a pair, as the walk reads them. -/
theorem Reads.pair2 {w : World} {B n i : Nat} {A : Option Addr} {l : List (Int × Int)} (h : Reads w B 2 A n (pairs l)) (hi : i < n) :
    ∃ ad, A = some ad ∧ ad.block < B ∧ w.cell? (ad.add (i * 2)) = some (.int .i64 (l.getD i (0, 0)).1) ∧ w.cell? ⟨(ad.add (i * 2)).block, (ad.add (i * 2)).off + 1, none⟩ = some (.int .i64 (l.getD i (0, 0)).2) := by
  obtain ⟨ad, h1, h2, h3, h4⟩ := h.pair hi
  rw [← add_of_add] at h4
  exact ⟨ad, h1, h2, h3, h4⟩

end Go.Hm
