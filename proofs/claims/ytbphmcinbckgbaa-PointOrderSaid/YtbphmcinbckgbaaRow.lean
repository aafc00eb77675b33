/- Rows of the call's own whose elements have many cells. No program is named here. -/
import Derived.Test.YtbphmcinbckgbaaTouch
import Derived.Test.YtbphmcinbckgbaaHeld
import Derived.Test.YtbphmcinbckgbaaPairs

namespace Go.Hm
open Go Go.RowKit

section
variable {w w' : World} {base sz n : Nat} {e : TypeId} {v : Value} {xs : List Value}
theorem row_below {B : Nat} (h : w.ownsRow base e sz v n xs) (hb : Below B w w') (hB : w.heap.size ≤ B) : w'.ownsRow base e sz v n xs := by
  refine ⟨h.1, ?_⟩
  rcases h.2 with hn | ⟨g, cap, cur, rfl, hbg, hgg, rest⟩
  · exact .inl hn
  · refine .inr ⟨g, cap, cur, rfl, hbg, ?_, rest⟩
    rw [hb.block g (Nat.lt_of_lt_of_le (Array.getElem?_eq_some_iff.1 hgg).1 hB)]
    exact hgg
theorem row_later (h : w.ownsRow base e sz v n xs) (hb : New w w') : w'.ownsRow base e sz v n xs := row_below h hb (Nat.le_refl _)
theorem row_base {b' : Nat} (h : w.ownsRow base e sz v n xs) (hb : b' ≤ base) : w.ownsRow b' e sz v n xs := by
  refine ⟨h.1, ?_⟩
  rcases h.2 with hn | ⟨g, cap, cur, hv, hbg, rest⟩
  · exact .inl hn
  · exact .inr ⟨g, cap, cur, hv, Nat.le_trans hb hbg, rest⟩
theorem row_slice (h : w.ownsRow base e sz v n xs) : ∃ A c, v = .slice A n c ∧ n ≤ c ∧ c ≤ maxLen := by
  rcases h.2 with ⟨hv, hn⟩ | ⟨g, cap, cur, hv, _, _, hc, hm, _⟩
  · exact ⟨none, 0, by rw [hv, hn], by omega, by simp [maxLen]⟩
  · exact ⟨_, _, hv, hc, hm⟩
theorem row_nil : w.ownsRow base e sz (.slice none 0 0) 0 [] := ⟨by simp, .inl ⟨rfl, rfl⟩⟩
theorem row_blk_ne {g : Nat} {t : TypeId} {cs : Array Value} (h : w.ownsRow base e sz v n xs) (hg : Blk w g t cs) (hne : e ≠ t) : v.ownBlock ≠ some g := by
  rcases h.2 with ⟨rfl, _⟩ | ⟨g', cap, cur, rfl, _, hh, _⟩
  · simp [Value.ownBlock]
  · intro he
    have : g' = g := by simpa [Value.ownBlock] using he
    subst this
    exact Blk.ne_ (t := e) hh hg hne rfl
end
theorem madeCells3 (a b c : Value) (n : Nat) : (madeCells #[a, b, c] (n * 3)).toList = (List.replicate n [a, b, c]).flatten := by
  induction n with
  | zero => simp [madeCells]
  | succ n ih =>
    rw [List.replicate_succ', List.flatten_append, ← ih]
    have e : ∀ m, m % 3 = 0 → (madeCells #[a, b, c] (m + 3)).toList = (madeCells #[a, b, c] m).toList ++ [a, b, c] := by
      intro m hm
      simp only [madeCells, Array.toList_map, Array.toList_range, List.range_succ, List.map_append, List.map_cons, List.map_nil, List.append_assoc, List.cons_append, List.nil_append, List.size_toArray, List.length_cons, List.length_nil]
      rw [hm, show (m + 1) % 3 = 1 by omega, show (m + 2) % 3 = 2 by omega]
      rfl
    rw [Nat.succ_mul, e (n * 3) (by omega)]
    simp

section
variable {P : Program} {ops : Array Oper} {rest : List Oper} {o : Oper} {a : Act} {Q : Exit → Act → World → Prop}
/-- append(s, x) of a record, behind the block that x was laid in. -/
theorem wpList_pushR {w : World} {t e : TypeId} {z : Value} {sz bytes : Nat} (E : ElT P t e z sz bytes) (hgd : o.guard = none) (s x : Operand)
    (ho : o.op = .call { callee := .builtin .append, args := #[s, x], argTypes := #[t, t] })
    {W : World} {B base n : Nat} {v : Value} {us xs : List Value} (hown : w.ownsRow base e sz v n xs) (hs : a.eval s = v) (hx : a.eval x = .slice (some ⟨w.heap.size, 0, none⟩) 1 1)
    (hb : Below B W w) (hbB : B ≤ base) (hbase : base ≤ w.heap.size) (hus : us.length = sz) (h1 : ∀ u ∈ us, u.oneCell' = true)
    (hn : (n + 1) * bytes ≤ 140737488355328) (hm : n + 1 ≤ maxLen)
    (h : ∀ A' c' w', n + 1 ≤ c' → c' ≤ maxLen → w'.ownsRow base e sz (.slice A' (n + 1) c') (n + 1) (xs ++ us) → w.grownBy w' v.ownBlock → Below B W w' → w.heap.size < w'.heap.size →
      (Value.ownBlock (.slice A' (n + 1) c') = v.ownBlock ∨ ∃ g, Value.ownBlock (.slice A' (n + 1) c') = some g ∧ w.heap.size ≤ g) → wpList P ops Q rest (a.put o.dst (.slice A' (n + 1) c')) w') :
    wpList P ops Q (o :: rest) a (w.alloc (.cells us.toArray e)) := by
  obtain ⟨i, hi, hz0, hz1, hz2⟩ := info_parts E.hi
  refine wpList_append_own_at _ hgd s x t ho base e i z sz bytes E.ht hi hz0 hz1 hz2 E.hz E.hs v n xs hs (World.ownsRow.alloc hown _) ⟨w.heap.size, 0, none⟩ 1 1 us hx (by omega) ?_ h1 hm hn (by simp; omega) ?_
  · have := World.news_of_block (heap_alloc_new w (.cells us.toArray e))
    simpa using this
  intro v' w' hown' hg _ hat
  obtain ⟨A', c', rfl, hc1, hc2⟩ := row_slice hown'
  have hg2 : w.grownBy w' v.ownBlock := (World.grownBy_alloc w (.cells us.toArray e) v.ownBlock).trans hg
  have hsz := hg.size
  simp at hsz
  refine h A' c' w' hc1 hc2 hown' hg2 (hb.grown hg2 (Nat.le_trans hbB hbase) (fun k hk => by have := (World.ownsRow.lt hown k hk).1; omega)) (by omega) ?_
  rcases hat with e1 | e1
  · exact .inl e1
  · exact .inr ⟨_, e1, by simp⟩
/-- make([]T, n), T of three cells: the row is the call's own. -/
theorem wpList_mkR {w : World} {t e : TypeId} {x y z : Value} {bytes : Nat} (E : ElT P t e (.agg #[x, y, z]) 3 bytes) (hgd : o.guard = none) (lo co : Operand) (ho : o.op = Op.makeSlice t lo co)
    {W : World} {B : Nat} {kl kc : IntKind} {L C : Int} (n : Nat) (hl : a.eval lo = .int kl L) (hc : a.eval co = .int kc C) (hL : L = (n : Int)) (hC : C = (n : Int)) (hb : Below B W w) (hbase : B ≤ w.heap.size)
    (hn : n * bytes ≤ 140737488355328) (hm : n ≤ maxLen)
    (h : ∀ w', w'.ownsRow w.heap.size e 3 (.slice (some ⟨w.heap.size, 0, none⟩) n n) n (List.replicate n [x, y, z]).flatten → w.grownBy w' none → Below B W w' → w'.heap.size = w.heap.size + 1 → wpList P ops Q rest (a.put o.dst (.slice (some ⟨w.heap.size, 0, none⟩) n n)) w') :
    wpList P ops Q (o :: rest) a w := by
  obtain ⟨i, hi, hz0, hs1, hb1⟩ := info_parts E.hi
  subst hL hC
  have hmC : (n : Int) ≤ 9223372036854775807 := by have h := hm; simp only [maxLen] at h; omega
  have hbC : (i.bytes : Int) * (n : Int) ≤ 281474976710656 := by
    have h : ((i.bytes * n : Nat) : Int) ≤ 281474976710656 := by rw [hb1, Nat.mul_comm]; omega
    rwa [Int.natCast_mul] at h
  have hrun := run_make (P := P) w t e i (.agg #[x, y, z]) E.ht hi hz0 kl kc (n : Int) (n : Int) (by omega) (by omega) hbC hmC
  rw [Int.toNat_natCast, hs1] at hrun
  refine wpList_plain hgd fun K hK => ?_
  unfold Oper.wp
  simp [execOp, ho, hl, hc, hrun, Result.andThen]
  refine hK _ _ (h _ ?_ (World.grownBy_alloc _ _ _) (hb.alloc hbase _) (by simp))
  refine ⟨by simp, .inr ⟨_, n, _, rfl, Nat.le_refl _, heap_alloc_new w _, Nat.le_refl _, hm, by simp [size_madeCells], ?_⟩⟩
  rw [List.take_of_length_le (by simp [size_madeCells])]
  exact madeCells3 x y z n
end
theorem grown_new {w w' W : World} {gc gm : Nat} (hb : w.grownBy w' (some gc)) (hg : w'.grownBy W (some gm)) (hle : w.heap.size ≤ gm) : w.grownBy W (some gc) :=
  ⟨hg.os.trans hb.os, hg.tape.trans hb.tape, hg.output.trans hb.output, Nat.le_trans hb.size hg.size, fun k hk hne => (hg.block k (Nat.lt_of_lt_of_le hk hb.size) (fun e => by injection e with e; omega)).trans (hb.block k hk hne)⟩
theorem row_blk {w : World} {base : Nat} {e : TypeId} {g n c sz : Nat} {xs : List Value} (h : w.ownsRow base e sz (.slice (some ⟨g, 0, none⟩) n c) n xs) : ∃ cs, Blk w g e cs := by
  rcases h.2 with ⟨hv, _⟩ | ⟨g', cap, cur, hv, _, hh, _⟩
  · cases hv
  · injection hv with e1 _ _
    injection e1 with e1
    injection e1 with e1
    subst e1
    exact ⟨cur, hh⟩
theorem set3_app {A B : List Value} {x y z a b c : Value} {m : Nat} (h : A.length = m) : (((A ++ ([x, y, z] ++ B)).set m a).set (m + 1) b).set (m + 2) c = A ++ ([a, b, c] ++ B) := by
  subst h
  rw [List.set_append_right _ _ (Nat.le_refl _), List.set_append_right _ _ (by omega), List.set_append_right _ _ (by omega)]
  simp
/-- A record of a row is stored, cell by cell. -/
theorem row_set3 {w : World} {base : Nat} {e : TypeId} {g n c m : Nat} {A B : List Value} {x y z a b d : Value} (h : w.ownsRow base e 3 (.slice (some ⟨g, 0, none⟩) n c) n (A ++ ([x, y, z] ++ B))) (hm : A.length = m) :
    ∃ W, W = ((w.setCell ⟨g, m, none⟩ a).setCell ⟨g, m + 1, none⟩ b).setCell ⟨g, m + 2, none⟩ d ∧ W.ownsRow base e 3 (.slice (some ⟨g, 0, none⟩) n c) n (A ++ ([a, b, d] ++ B)) ∧ w.grownBy W (some g) := by
  obtain ⟨h1, g1⟩ := h.stored m a
  obtain ⟨h2, g2⟩ := h1.stored (m + 1) b
  obtain ⟨h3, g3⟩ := h2.stored (m + 2) d
  rw [set3_app hm] at h3
  exact ⟨_, rfl, h3, (g1.trans g2).trans g3⟩
/-- Three cells of a block are stored. -/
theorem store3g {w w' : World} {g gc : Nat} {ty : TypeId} {x y z a b c : Value} (h : Blk w' g ty #[x, y, z]) (hb : w.grownBy w' (some gc)) (hg : w.heap.size ≤ g) :
    ∃ W3, W3 = (((w'.setCell ⟨g, 0, none⟩ a).setCell ⟨g, 1, none⟩ b).setCell ⟨g, 2, none⟩ c) ∧ Blk W3 g ty #[a, b, c] ∧ w.grownBy W3 (some gc) ∧ ∀ k, k ≠ g → W3.heap[k]? = w'.heap[k]? := by
  refine ⟨_, rfl, by simpa using ((h.set_ 0 a).set_ 1 b).set_ 2 c, ⟨hb.os, hb.tape, hb.output, by simpa [World.setCell] using hb.size, fun k hk hne => ?_⟩, fun k hk => ?_⟩
  · rw [Below.heap_setCell _ _ _ _ (show k ≠ g by omega), Below.heap_setCell _ _ _ _ (show k ≠ g by omega), Below.heap_setCell _ _ _ _ (show k ≠ g by omega)]
    exact hb.block k hk hne
  · rw [Below.heap_setCell _ _ _ _ hk, Below.heap_setCell _ _ _ _ hk, Below.heap_setCell _ _ _ _ hk]
theorem grown_drew {w : World} {row : Option Nat} : w.grownBy w.drew row := ⟨rfl, rfl, rfl, Nat.le_refl _, fun _ _ _ => rfl⟩
theorem cell_new {w0 : World} {p : Addr} {u : Value} (h : w0.cell? p = some u) (hp : p.block < w0.drew.heap.size) : ∀ W, New w0.drew W → W.cell? p = some u := fun _ hW => (Below.cell hW hp).trans h
/-- A literal's cells are read, records. -/
theorem Reads.litR (w : World) (e : TypeId) (cs : Array Value) (n sz : Nat) (xs : List Value) (h : cs.toList = xs) (hn : xs.length = n * sz) : Reads (w.alloc (.cells cs e)) (w.alloc (.cells cs e)).heap.size sz (some ⟨w.heap.size, 0, none⟩) n xs := by
  refine ⟨hn, fun _ => ⟨_, rfl, by simp, ?_⟩⟩
  have := World.news_of_block (heap_alloc_new w (.cells cs e))
  rwa [h] at this
/-- Both parts of a pair, as the walk reads them. -/
theorem Reads.pair2 {w : World} {B n i : Nat} {A : Option Addr} {l : List (Int × Int)} (h : Reads w B 2 A n (pairs l)) (hi : i < n) :
    ∃ ad, A = some ad ∧ ad.block < B ∧ w.cell? (ad.add (i * 2)) = some (.int .i64 (l.getD i (0, 0)).1) ∧ w.cell? ⟨(ad.add (i * 2)).block, (ad.add (i * 2)).off + 1, none⟩ = some (.int .i64 (l.getD i (0, 0)).2) := by
  obtain ⟨ad, h1, h2, h3, h4⟩ := h.pair hi
  rw [← add_of_add] at h4
  exact ⟨ad, h1, h2, h3, h4⟩

end Go.Hm
