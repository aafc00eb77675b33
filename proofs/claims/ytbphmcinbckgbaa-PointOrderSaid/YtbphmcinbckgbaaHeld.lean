/- What comes in, read as plain data of any type, part by part. No program is named here. -/
import Derived.Test.YtbphmcinbckgbaaTrod
import Derived.Deep.Slices
import Derived.Deep.Fields
import Derived.OpenShut

namespace Go.Hm
open Go Go.RowKit Go.WideShapes Go.ChangeShapes Go.Deep

section
variable {H : Type} {enc : TypeId × Value → H} {P : Program} {W : World} {t e : TypeId} {cs : List Value}

/-- The cells cs are a datum of type t that came in. -/
def Held (enc : TypeId × Value → H) (P : Program) (W : World) (t : TypeId) (cs : List Value) : Prop :=
  ∃ (fuel : Nat) (d : DataW H) (ps : List MemPlace), DataW.trod enc P W 0 (fun _ => true) true fuel t cs = some (d, ps) ∧ (∀ p ∈ ps, p.block < W.heap.size) ∧ ∀ n ∈ d.weights P t, n ≤ reachBytes

theorem Held.of {v : Value} {d : DataW H} {ps : List MemPlace} (h : DataW.Trod enc P W 0 (fun _ => true) true t v d ps) (hlt : ∀ p ∈ ps, p.block < W.heap.size) (hw : ∀ n ∈ d.weights P t, n ≤ reachBytes) : Held enc P W t v.cells.toList := by
  obtain ⟨fuel, h⟩ := h
  exact ⟨fuel, d, ps, h, hlt, hw⟩
theorem Held.int {k : IntKind} (ht : P.underlying t = some (.int k)) (h : Held enc P W t cs) : ∃ n, cs = [.int k n] ∧ k.min ≤ n ∧ n ≤ k.max := by
  obtain ⟨fuel, d, ps, h, _, _⟩ := h
  obtain ⟨n, rfl, _, hw⟩ := DataW.trod_int ht h
  simp only [Lit.wf, Bool.and_eq_true, decide_eq_true_eq] at hw
  exact ⟨n, rfl, hw.1, hw.2⟩
theorem Held.i64 (ht : P.underlying t = some (.int .i64)) (h : Held enc P W t cs) : ∃ n : Int, cs = [.int .i64 n] ∧ -9223372036854775808 ≤ n ∧ n ≤ 9223372036854775807 := by
  obtain ⟨n, h1, h2, h3⟩ := h.int ht
  simp [IntKind.min, IntKind.max, IntKind.signed, IntKind.bits] at h2 h3
  exact ⟨n, h1, h2, by omega⟩
theorem Held.nat {k : IntKind} (hs : k.signed = false) (ht : P.underlying t = some (.int k)) (h : Held enc P W t cs) : ∃ n : Nat, cs = [.int k (n : Int)] ∧ (n : Int) ≤ k.max := by
  obtain ⟨n, h1, h2, h3⟩ := h.int ht
  simp [IntKind.min, hs] at h2
  obtain ⟨n, rfl⟩ := Int.eq_ofNat_of_zero_le h2
  exact ⟨n, h1, h3⟩
theorem Held.bool (ht : P.underlying t = some .bool) (h : Held enc P W t cs) : ∃ b, cs = [.bool b] := by
  obtain ⟨fuel, d, ps, h, _, _⟩ := h
  obtain ⟨b, rfl, _⟩ := DataW.trod_bool ht h
  exact ⟨b, rfl⟩
theorem bstr_of (s : ByteArray) : ∃ l : List Nat, s = bstr l ∧ (∀ x ∈ l, x < 256) ∧ l.length = s.size := by
  refine ⟨s.data.toList.map UInt8.toNat, ?_, ?_, by simp⟩
  · refine ByteArray.ext ?_
    show s.data = ((s.data.toList.map UInt8.toNat).map UInt8.ofNat).toArray
    rw [List.map_map]
    have : (UInt8.ofNat ∘ UInt8.toNat) = id := by funext x; simp
    rw [this]
    simp
  · intro x hx
    simp only [List.mem_map] at hx
    obtain ⟨y, _, rfl⟩ := hx
    exact y.toNat_lt
theorem Held.string (ht : P.underlying t = some .string) (h : Held enc P W t cs) : ∃ l : List Nat, cs = [.string (bstr l)] ∧ (∀ x ∈ l, x < 256) ∧ l.length ≤ 140737488351232 := by
  obtain ⟨fuel, d, ps, h, _, hw⟩ := h
  obtain ⟨s, rfl, hx, _⟩ := DataW.trod_string ht h
  simp only [Prod.mk.injEq] at hx
  obtain ⟨rfl, _⟩ := hx
  obtain ⟨l, rfl, h8, hl⟩ := bstr_of s
  refine ⟨l, rfl, h8, ?_⟩
  have := hw (bstr l).data.toList.length (by simp [DataW.weights])
  rw [Array.length_toList] at this
  have e : (bstr l).data.size = l.length := hl.symm
  rw [e] at this
  unfold reachBytes at this
  omega
theorem weights_all {d : DataW H} : ∀ {ds : List (DataW H)}, d ∈ ds → ∀ n ∈ d.weights P e, n ∈ DataW.weightsAll P e ds
  | [], h, _, _ => by cases h
  | x :: ds, h, n, hn => by
    rw [DataW.weightsAll, List.mem_append]
    rcases List.mem_cons.1 h with rfl | h
    · exact .inl hn
    · exact .inr (weights_all h n hn)
theorem Held.field {fs : Array Field} (ht : P.underlying t = some (.struct fs)) (h : Held enc P W t cs) : cs.length = P.cellsOf t ∧ ∀ (i : Nat) (f : Field), fs[i]? = some f → Held enc P W f.type ((cs.drop f.offset).take (P.cellsOf f.type)) := by
  obtain ⟨fuel, d, ps, h, hlt, hw⟩ := h
  obtain ⟨xs, n, rfl, hx, hl, hxl, hf⟩ := DataW.trod_struct ht h
  simp only [Prod.mk.injEq] at hx
  obtain ⟨rfl, rfl⟩ := hx
  refine ⟨hl, fun i f hi => ?_⟩
  have hil : i < fs.size := (Array.getElem?_eq_some_iff.1 hi).1
  have hxi : xs[i]? = some (xs[i]'(by omega)) := List.getElem?_eq_getElem (by omega)
  refine ⟨n, (xs[i]'(by omega)).1, (xs[i]'(by omega)).2, (hf i f hi).trans hxi, fun p hp => hlt p (List.mem_flatMap.2 ⟨_, List.getElem_mem _, hp⟩), fun m hm => hw m ?_⟩
  rw [DataW.weights]
  simp only [ht]
  exact DataW.weights_mem_each (j := i) (t := f.type) (d := (xs[i]'(by omega)).1) (by rw [List.getElem?_map, Array.getElem?_toList, hi]; rfl) (by rw [List.getElem?_map, hxi]; rfl) m hm
theorem Held.array {n : Nat} (ht : P.underlying t = some (.array n e)) (h : Held enc P W t cs) : cs.length = P.cellsOf t ∧ ∀ i, i < n → Held enc P W e ((cs.drop (i * P.cellsOf e)).take (P.cellsOf e)) := by
  obtain ⟨fuel, d, ps, h, hlt, hw⟩ := h
  obtain ⟨xs, m, _, hx, hl, hxl, hi⟩ := DataW.trod_array ht h
  simp only [Prod.mk.injEq] at hx
  obtain ⟨rfl, rfl⟩ := hx
  refine ⟨hl, fun i hil => ?_⟩
  have hxi : xs[i]? = some (xs[i]'(by omega)) := List.getElem?_eq_getElem (by omega)
  refine ⟨m, (xs[i]'(by omega)).1, (xs[i]'(by omega)).2, (hi i hil).trans hxi, fun p hp => hlt p (List.mem_flatMap.2 ⟨_, List.getElem_mem _, hp⟩), fun k hk => hw k ?_⟩
  rw [DataW.weights]
  simp only [ht]
  exact weights_all (List.mem_map.2 ⟨_, List.getElem_mem _, rfl⟩) k hk
theorem Held.slice (ht : P.underlying t = some (.slice e)) (h : Held enc P W t cs) :
    cs = [.slice none 0 0] ∨ ∃ (a : Addr) (len cap : Nat), cs = [.slice (some a) len cap] ∧ len ≤ cap ∧ cap ≤ maxLen ∧ cap * P.bytesOf e ≤ reachBytes ∧ (0 < cap * P.cellsOf e → a.block < W.heap.size) ∧
      ∀ i, i < cap → ∃ cs', W.cells? 0 (a.add (i * P.cellsOf e)) (P.cellsOf e) = some cs' ∧ Held enc P W e cs' := by
  obtain ⟨fuel, d, ps, h, hlt, hw⟩ := h
  rcases open_slice ht h with ⟨hcs, _⟩ | ⟨a, len, cap, m, n, D, Pl, hcs, _, hl, hm, hmm, hx, hi⟩
  · exact .inl hcs
  · rw [if_pos rfl] at hmm
    subst hmm
    simp only [Prod.mk.injEq] at hx
    obtain ⟨rfl, rfl⟩ := hx
    have hwm : ∀ x ∈ (m * P.bytesOf e) :: (DataW.weightsAll P e ((List.range len).map D) ++ DataW.weightsAll P e ((List.range (m - len)).map fun j => D (len + j))), x ≤ reachBytes := by
      intro x hx
      refine hw x ?_
      rw [DataW.weights]
      simp only [ht, List.length_map, List.length_range]
      rw [show len + (m - len) = m by omega]
      exact hx
    refine .inr ⟨a, len, m, hcs, hl, hm, hwm _ (by simp), fun h0 => ?_, fun i him => ?_⟩
    · exact hlt (.cell a.block a.off) (by
        rw [List.mem_append]
        left
        unfold MemPlace.row
        simp only [List.mem_map, List.mem_range]
        exact ⟨0, h0, rfl⟩)
    · obtain ⟨cs', hc, ht'⟩ := hi i him
      refine ⟨cs', hc, n, D i, Pl i, ht', fun p hp => hlt p ?_, fun k hk => hwm k ?_⟩
      · rw [List.mem_append]
        right
        exact List.mem_flatMap.2 ⟨i, by simpa using him, hp⟩
      · rw [List.mem_cons, List.mem_append]
        right
        by_cases hil : i < len
        · exact .inl (weights_all (List.mem_map.2 ⟨i, by simpa using hil, rfl⟩) k hk)
        · exact .inr (weights_all (List.mem_map.2 ⟨i - len, by simp; omega, by rw [show len + (i - len) = i by omega]⟩) k hk)

/-- Records as cells, all of one length. -/
def recs {α : Type} (f : α → List Value) (l : List α) : List Value := l.flatMap f
theorem recs_nil {α : Type} (f : α → List Value) : recs f [] = [] := rfl
theorem recs_cons {α : Type} (f : α → List Value) (x : α) (l : List α) : recs f (x :: l) = f x ++ recs f l := rfl
theorem recs_append {α : Type} (f : α → List Value) (l m : List α) : recs f (l ++ m) = recs f l ++ recs f m := by simp [recs]
theorem recs_length {α : Type} {f : α → List Value} {sz : Nat} (hf : ∀ x, (f x).length = sz) (l : List α) : (recs f l).length = l.length * sz := by
  induction l with
  | nil => simp [recs]
  | cons x l ih => rw [recs_cons, List.length_append, hf, ih, List.length_cons, Nat.succ_mul, Nat.add_comm]
theorem recs_at {α : Type} {f : α → List Value} {sz : Nat} (hf : ∀ x, (f x).length = sz) (l : List α) (d : α) : ∀ i j, i < l.length → j < sz → (recs f l)[i * sz + j]? = (f (l.getD i d))[j]? := by
  induction l with
  | nil => intro i j h; simp at h
  | cons x l ih =>
    intro i j hi hj
    cases i with
    | zero =>
      rw [recs_cons, Nat.zero_mul, Nat.zero_add, List.getElem?_append_left (by rw [hf]; exact hj)]
      rfl
    | succ i =>
      rw [recs_cons, List.getElem?_append_right (by rw [hf, Nat.succ_mul]; omega), hf, show (i + 1) * sz + j - sz = i * sz + j by rw [Nat.succ_mul]; omega, ih i j (by simpa using hi) hj]
      simp
theorem recs_drop {α : Type} {f : α → List Value} {sz : Nat} (hf : ∀ x, (f x).length = sz) (l : List α) (k : Nat) (hk : k ≤ l.length) : (recs f l).drop (k * sz) = recs f (l.drop k) := by
  conv => lhs; rw [← List.take_append_drop k l, recs_append]
  rw [List.drop_left']
  rw [recs_length hf, List.length_take, Nat.min_eq_left hk]
theorem recs_take {α : Type} {f : α → List Value} {sz : Nat} (hf : ∀ x, (f x).length = sz) (l : List α) (k : Nat) (hk : k ≤ l.length) : (recs f l).take (k * sz) = recs f (l.take k) := by
  conv => lhs; rw [← List.take_append_drop k l, recs_append]
  rw [List.take_left']
  rw [recs_length hf, List.length_take, Nat.min_eq_left hk]

theorem Reads.rec_ {α : Type} {f : α → List Value} {sz : Nat} (hf : ∀ x, (f x).length = sz) {w : World} {B n i : Nat} {A : Option Addr} {l : List α} (d : α) (h : Reads w B sz A n (recs f l)) (hi : i < n) (h0 : 0 < sz) :
    ∃ ad, A = some ad ∧ ad.block < B ∧ i < l.length ∧ ∀ j u, (f (l.getD i d))[j]? = some u → w.cell? (ad.add (i * sz + j)) = some u := by
  obtain ⟨ad, e, hb, hc⟩ := h.2 (by omega)
  have hl := h.1
  rw [recs_length hf] at hl
  have hll : l.length = n := Nat.eq_of_mul_eq_mul_right h0 hl
  refine ⟨ad, e, hb, by omega, fun j u hu => hc _ u ?_⟩
  have hj : j < sz := by
    rw [← hf (l.getD i d)]
    exact (List.getElem?_eq_some_iff.1 hu).1
  rw [recs_at hf l d i j (by omega) hj]
  exact hu
theorem Reads.lenR {α : Type} {f : α → List Value} {sz : Nat} (hf : ∀ x, (f x).length = sz) {w : World} {B n : Nat} {A : Option Addr} {l : List α} (h : Reads w B sz A n (recs f l)) (h0 : 0 < sz) : n = l.length := by
  have hl := h.1
  rw [recs_length hf] at hl
  exact (Nat.eq_of_mul_eq_mul_right h0 hl).symm

theorem list_choose {α : Type} {p : Nat → α → Prop} (d : α) : ∀ n, (∀ i, i < n → ∃ x, p i x) → ∃ l : List α, l.length = n ∧ ∀ i, i < n → p i (l.getD i d) := by
  intro n
  induction n with
  | zero => intro _; exact ⟨[], rfl, fun i h => by omega⟩
  | succ n ih =>
    intro h
    obtain ⟨l, hl, hp⟩ := ih (fun i hi => h i (by omega))
    obtain ⟨x, hx⟩ := h n (by omega)
    refine ⟨l ++ [x], by simp [hl], fun i hi => ?_⟩
    by_cases hin : i < n
    · have e : (l ++ [x]).getD i d = l.getD i d := by rw [List.getD_eq_getElem?_getD, List.getElem?_append_left (by omega), ← List.getD_eq_getElem?_getD]
      rw [e]; exact hp i hin
    · obtain rfl : i = n := by omega
      have e : (l ++ [x]).getD i d = x := by rw [List.getD_eq_getElem?_getD, List.getElem?_append_right (by omega), hl]; simp
      rw [e]; exact hx

/-- A slice of records comes in. -/
theorem Held.recs {α : Type} {f : α → List Value} {sz by_ : Nat} {Q : α → Prop} (d : α) (ht : P.underlying t = some (.slice e)) (hC : P.cellsOf e = sz) (hby : P.bytesOf e = by_) (hf : ∀ x, (f x).length = sz) (h0 : 0 < sz)
    (hel : ∀ cs, Held enc P W e cs → ∃ x, cs = f x ∧ Q x) (h : Held enc P W t cs) :
    ∃ A c, ∃ l : List α, cs = [.slice A l.length c] ∧ l.length ≤ c ∧ c ≤ maxLen ∧ c * by_ ≤ reachBytes ∧ Reads W W.heap.size sz A l.length (Hm.recs f l) ∧ ∀ x ∈ l, Q x := by
  rcases h.slice ht with rfl | ⟨a, len, cap, rfl, hl, hm, hw, hb, hi⟩
  · exact ⟨none, 0, [], rfl, by simp, by simp [maxLen], by simp, ⟨by simp [Hm.recs], fun h => by simp at h⟩, by simp⟩
  · rw [hC] at hi hb
    rw [hby] at hw
    obtain ⟨l, hll, hp⟩ := list_choose (p := fun i x => W.cells? 0 (a.add (i * sz)) sz = some (f x) ∧ Q x) d len (fun i hil => by
      obtain ⟨cs', hc, hh⟩ := hi i (by omega)
      obtain ⟨x, rfl, hq⟩ := hel cs' hh
      exact ⟨x, hc, hq⟩)
    subst hll
    refine ⟨some a, cap, l, rfl, hl, hm, hw, ⟨by rw [recs_length hf], fun hn => ⟨a, rfl, hb (Nat.mul_pos (by omega) h0), fun j u hu => ?_⟩⟩, fun x hx => ?_⟩
    · have hj : j < l.length * sz := by
        rw [← recs_length hf]
        exact (List.getElem?_eq_some_iff.1 hu).1
      have hjd : j / sz < l.length := by
        rw [Nat.mul_comm] at hj
        exact Nat.div_lt_of_lt_mul hj
      have hjm : j % sz < sz := Nat.mod_lt _ h0
      obtain ⟨hc, _⟩ := hp (j / sz) hjd
      obtain ⟨_, _, hat⟩ := World.cells?_some hc
      have := hat (j % sz) hjm
      rw [Go.Deep.add_add, Nat.mul_comm (j / sz), Nat.div_add_mod] at this
      rw [this, ← hu]
      have e := recs_at hf l d (j / sz) (j % sz) hjd hjm
      rw [Nat.mul_comm (j / sz), Nat.div_add_mod] at e
      rw [e]
    · obtain ⟨i, hi', rfl⟩ := List.getElem_of_mem hx
      have := (hp i hi').2
      rwa [List.getD_eq_getElem?_getD, List.getElem?_eq_getElem hi'] at this
end

end Go.Hm
