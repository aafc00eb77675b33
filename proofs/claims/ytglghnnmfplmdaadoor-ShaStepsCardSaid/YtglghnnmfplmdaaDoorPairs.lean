/- A slice of structs of two numbers comes in. No program is named here. -/
import Derived.Test.YtglghnnmfplmdaaDoorLaw
import Derived.Deep.Slices
import Derived.Deep.Fields
import Derived.OpenShut

namespace Go.Hm
open Go Go.RowKit Go.WideShapes Go.ChangeShapes Go.Deep

def pairs (l : List (Int × Int)) : List Value := l.flatMap fun p => [.int .i64 p.1, .int .i64 p.2]
theorem pairs_length (l : List (Int × Int)) : (pairs l).length = l.length * 2 := by
  induction l with
  | nil => rfl
  | cons p l ih => simp only [pairs, List.flatMap_cons, List.length_append, List.length_cons, List.length_nil] at ih ⊢; rw [ih]; omega
theorem pairs_at (l : List (Int × Int)) : ∀ i, i < l.length → (pairs l)[i * 2]? = some (.int .i64 (l.getD i (0, 0)).1) ∧ (pairs l)[i * 2 + 1]? = some (.int .i64 (l.getD i (0, 0)).2) := by
  induction l with
  | nil => intro i h; simp at h
  | cons p l ih =>
    intro i h
    cases i with
    | zero => exact ⟨rfl, rfl⟩
    | succ i =>
      have := ih i (by simpa using h)
      rw [show (i + 1) * 2 = i * 2 + 1 + 1 by omega]
      exact this
theorem Reads.lenP {w : World} {B n : Nat} {A : Option Addr} {l : List (Int × Int)} (h : Reads w B 2 A n (pairs l)) : n = l.length := by
  have := h.1
  rw [pairs_length] at this
  omega
theorem Reads.pair {w : World} {B n i : Nat} {A : Option Addr} {l : List (Int × Int)} (h : Reads w B 2 A n (pairs l)) (hi : i < n) :
    ∃ ad, A = some ad ∧ ad.block < B ∧ w.cell? (ad.add (i * 2)) = some (.int .i64 (l.getD i (0, 0)).1) ∧ w.cell? (ad.add (i * 2 + 1)) = some (.int .i64 (l.getD i (0, 0)).2) := by
  obtain ⟨ad, e, hb, hc⟩ := h.2 (by omega)
  have hl := h.lenP
  obtain ⟨h1, h2⟩ := pairs_at l i (by omega)
  exact ⟨ad, e, hb, hc _ _ h1, hc _ _ h2⟩

theorem open_pairs {H : Type} {enc : TypeId × Value → H} {P : Program} {W : World} {t e : TypeId} {f0 f1 : Field} {base : Nat} {v : Value} {d : DataW H} {ps : List MemPlace}
    (ht : P.underlying t = some (.slice e)) (he : P.underlying e = some (.struct #[f0, f1])) (hone : oneCellFields P #[f0, f1] = true) (hC : P.cellsOf e = 2) (h0 : P.underlying f0.type = some (.int .i64)) (h1 : P.underlying f1.type = some (.int .i64))
    (hval : Value.okWide P W .any base t v) (h : DataW.Trod enc P W 0 (fun _ => true) true t v d ps) (hlt : ∀ p ∈ ps, p.block < W.heap.size) :
    ∃ A c, ∃ l : List (Int × Int), v = .slice A l.length c ∧ l.length ≤ c ∧ c ≤ maxLen ∧ Reads W W.heap.size 2 A l.length (pairs l) ∧ ∀ p ∈ l, (-9223372036854775808 ≤ p.1 ∧ p.1 ≤ 9223372036854775807) ∧ (-9223372036854775808 ≤ p.2 ∧ p.2 ≤ 9223372036854775807) := by
  obtain ⟨a0, len, cap, rfl⟩ := okWide_slice ht hval
  obtain ⟨fuel, hf⟩ := h
  rcases open_slice ht hf with ⟨hcs, hx⟩ | ⟨a, len', cap', m, n, D, Pl, hcs, _, hl, hm, hmm, hx, hi⟩
  · have : a0 = none ∧ len = 0 ∧ cap = 0 := by simpa [Value.cells] using hcs
    obtain ⟨rfl, rfl, rfl⟩ := this
    exact ⟨none, 0, [], rfl, by simp, by simp [maxLen], ⟨rfl, fun h => by simp at h⟩, by simp⟩
  · have : a0 = some a ∧ len = len' ∧ cap = cap' := by simpa [Value.cells] using hcs
    obtain ⟨rfl, rfl, rfl⟩ := this
    rw [if_pos rfl] at hmm
    subst hmm
    rw [hC] at hx hi
    have hp : ∀ i, i < len → ∃ x y : Int, W.cell? (a.add (i * 2)) = some (.int .i64 x) ∧ W.cell? (a.add (i * 2 + 1)) = some (.int .i64 y) ∧ ((-9223372036854775808 ≤ x ∧ x ≤ 9223372036854775807) ∧ (-9223372036854775808 ≤ y ∧ y ≤ 9223372036854775807)) := by
      intro i hil
      obtain ⟨cs', hc, ht'⟩ := hi i (by omega)
      obtain ⟨ys, n', hn', hy, hlen, hyl, hff⟩ := DataW.trod_struct he ht'
      obtain ⟨_, hcl, hat⟩ := World.cells?_some hc
      have key : ∀ (j : Nat) (f : Field), #[f0, f1][j]? = some f → P.underlying f.type = some (.int .i64) → j < 2 → ∃ x : Int, W.cell? (a.add (i * 2 + j)) = some (.int .i64 x) ∧ (-9223372036854775808 ≤ x ∧ x ≤ 9223372036854775807) := by
        intro j f hj hu hj2
        obtain ⟨ho, hk⟩ := hone_of hone j f hj
        have hcell := hat j (by omega)
        have h1 := hff j f hj
        rw [ho, hk] at h1
        have hone' : (cs'.drop j).take 1 = [cs'[j]'(by omega)] := by
          rw [List.drop_eq_getElem_cons (by omega)]
          rfl
        rw [hone'] at h1
        have hys : ys[j]? = some (ys[j]'(by simp at hyl; omega)) := List.getElem?_eq_getElem _
        rw [hys] at h1
        rw [Go.Deep.add_add, List.getElem?_eq_getElem (by omega : j < cs'.length)] at hcell
        generalize cs'[j]'(by omega) = u at *
        obtain ⟨x, hx, _, hw⟩ := DataW.trod_int hu h1
        injection hx with hx _
        subst hx
        simp [Lit.wf, IntKind.min, IntKind.max, IntKind.signed, IntKind.bits] at hw
        exact ⟨x, hcell, hw.1, by omega⟩
      obtain ⟨x, hx1, hx2⟩ := key 0 f0 rfl h0 (by omega)
      obtain ⟨y, hy1, hy2⟩ := key 1 f1 rfl h1 (by omega)
      exact ⟨x, y, by simpa using hx1, hy1, hx2, hy2⟩
    have hl2 : ∀ m, m ≤ len → ∃ l : List (Int × Int), l.length = m ∧ ∀ i, i < m → W.cell? (a.add (i * 2)) = some (.int .i64 (l.getD i (0, 0)).1) ∧ W.cell? (a.add (i * 2 + 1)) = some (.int .i64 (l.getD i (0, 0)).2) ∧
        ((-9223372036854775808 ≤ (l.getD i (0, 0)).1 ∧ (l.getD i (0, 0)).1 ≤ 9223372036854775807) ∧ (-9223372036854775808 ≤ (l.getD i (0, 0)).2 ∧ (l.getD i (0, 0)).2 ≤ 9223372036854775807)) := by
      intro m
      induction m with
      | zero => intro _; exact ⟨[], rfl, fun i h => by omega⟩
      | succ m ih =>
        intro hm'
        obtain ⟨l, hll, hq⟩ := ih (by omega)
        obtain ⟨x, y, h1, h2, h3⟩ := hp m (by omega)
        refine ⟨l ++ [(x, y)], by simp [hll], fun i hi' => ?_⟩
        by_cases him : i < m
        · have e : (l ++ [(x, y)]).getD i (0, 0) = l.getD i (0, 0) := by
            rw [List.getD_eq_getElem?_getD, List.getElem?_append_left (by omega), ← List.getD_eq_getElem?_getD]
          rw [e]
          exact hq i him
        · obtain rfl : i = m := by omega
          have e : (l ++ [(x, y)]).getD i (0, 0) = (x, y) := by
            rw [List.getD_eq_getElem?_getD, List.getElem?_append_right (by omega), hll]
            simp
          rw [e]
          exact ⟨h1, h2, h3⟩
    obtain ⟨l, hll, hq⟩ := hl2 len (Nat.le_refl _)
    simp only [Prod.mk.injEq] at hx
    obtain ⟨_, rfl⟩ := hx
    refine ⟨some a, _, l, by rw [hll], by rw [hll]; exact hl, hm, ⟨by rw [pairs_length], fun hn => ⟨a, rfl, ?_, ?_⟩⟩, ?_⟩
    · rw [hll] at hn
      exact hlt (.cell a.block a.off) (by
        simp only [List.mem_append]
        left
        unfold MemPlace.row
        simp only [List.mem_map, List.mem_range]
        exact ⟨0, by omega, rfl⟩)
    · intro j u hu
      have hj : j < l.length * 2 := by
        rcases Nat.lt_or_ge j (l.length * 2) with h1 | h1
        · exact h1
        · rw [List.getElem?_eq_none (by rw [pairs_length]; exact h1)] at hu
          cases hu
      obtain ⟨p1, p2⟩ := pairs_at l (j / 2) (by omega)
      obtain ⟨q1, q2, _⟩ := hq (j / 2) (by omega)
      rcases Nat.mod_two_eq_zero_or_one j with h1 | h1
      · have e : j / 2 * 2 = j := by omega
        rw [e] at p1 q1
        rw [q1, ← p1, hu]
      · have e : j / 2 * 2 + 1 = j := by omega
        rw [e] at p2 q2
        rw [q2, ← p2, hu]
    · intro p hp'
      obtain ⟨i, hi', rfl⟩ := List.getElem_of_mem hp'
      have := (hq i (by omega)).2.2
      rw [List.getD_eq_getElem?_getD, List.getElem?_eq_getElem hi'] at this
      exact this

/-- An array of unsigned numbers comes in, by value. -/
theorem open_arr_nums {H : Type} {enc : TypeId × Value → H} {P : Program} {W : World} {t e : TypeId} {k : IntKind} {n base : Nat} {v : Value} {d : DataW H} {ps : List MemPlace}
    (ht : P.underlying t = some (.array n e)) (he : P.underlying e = some (.int k)) (hs : k.signed = false) (hce : P.cellsOf e = 1) (hct : P.cellsOf t = n)
    (hval : Value.okWide P W .any base t v) (h : DataW.Trod enc P W 0 (fun _ => true) true t v d ps) :
    ∃ l : List Nat, v = .agg (nums k l).toArray ∧ l.length = n ∧ ∀ x ∈ l, (x : Int) ≤ k.max := by
  unfold Value.okWide at hval
  rw [ht] at hval
  obtain ⟨cs, rfl, hsz, _⟩ := hval
  rw [hct] at hsz
  obtain ⟨fuel, hf⟩ := h
  obtain ⟨xs, m, _, _, _, hxl, hi⟩ := DataW.trod_array ht hf
  have key : ∀ i (hi' : i < cs.size), ∃ x : Nat, cs[i] = .int k (x : Int) ∧ (x : Int) ≤ k.max := by
    intro i hi'
    have h1 := hi i (by omega)
    rw [hce, Nat.mul_one] at h1
    have hone : ((Value.agg cs).cells.toList.drop i).take 1 = [cs[i]] := by
      show (cs.toList.drop i).take 1 = _
      rw [List.drop_eq_getElem_cons (by simpa using hi')]
      simp
    rw [hone] at h1
    have hys : xs[i]? = some (xs[i]'(by omega)) := List.getElem?_eq_getElem _
    rw [hys] at h1
    obtain ⟨x, hx, _, hw⟩ := DataW.trod_int he h1
    injection hx with hx _
    have hw' : 0 ≤ x ∧ x ≤ k.max := by simpa [Lit.wf, IntKind.min, hs] using hw
    obtain ⟨y, rfl⟩ := Int.eq_ofNat_of_zero_le hw'.1
    exact ⟨y, hx, hw'.2⟩
  have hl : ∀ (l : List Value), (∀ i (hi : i < l.length), ∃ x : Nat, l[i] = .int k (x : Int) ∧ (x : Int) ≤ k.max) → ∃ m : List Nat, l = nums k m ∧ ∀ x ∈ m, (x : Int) ≤ k.max := by
    intro l
    induction l with
    | nil => intro _; exact ⟨[], rfl, by simp⟩
    | cons a l ih =>
      intro hh
      obtain ⟨x, hx, hx2⟩ := hh 0 (by simp)
      obtain ⟨m, hm, hm2⟩ := ih (fun i hi => hh (i + 1) (by simpa using hi))
      refine ⟨x :: m, by rw [nums_cons, ← hm]; simp at hx; rw [hx], fun y hy => ?_⟩
      rcases List.mem_cons.1 hy with rfl | hy
      · exact hx2
      · exact hm2 y hy
  obtain ⟨l, hl1, hl2⟩ := hl cs.toList (fun i hi => by simpa using key i (by simpa using hi))
  refine ⟨l, by rw [← hl1], ?_, hl2⟩
  rw [← nums_length k l, ← hl1, Array.length_toList, hsz]

end Go.Hm
