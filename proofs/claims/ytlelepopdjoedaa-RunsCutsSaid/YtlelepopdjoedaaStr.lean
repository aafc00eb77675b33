/- Strings as lists of bytes: what the walk's operations come to. No program is named here. -/
import Derived.Test.YtlelepopdjoedaaMore
import Derived.Lib.AppendStr

namespace Go.Hm
open Go Go.RowKit

theorem bstr_extract (l : List Nat) (i j : Nat) : (bstr l).extract i j = bstr ((l.drop i).take (j - i)) := by
  refine ByteArray.ext ?_
  rw [ByteArray.data_extract]
  show ((l.map UInt8.ofNat).toArray).extract i j = (((l.drop i).take (j - i)).map UInt8.ofNat).toArray
  simp
theorem bstr_from (l : List Nat) (i : Nat) : (bstr l).extract i l.length = bstr (l.drop i) := by
  rw [bstr_extract, List.take_of_length_le (by rw [List.length_drop]; omega)]
theorem bstr_to (l : List Nat) (j : Nat) : (bstr l).extract 0 j = bstr (l.take j) := by
  rw [bstr_extract]; simp
theorem bstr_get (l : List Nat) (k : Nat) (h8 : ∀ x ∈ l, x < 256) (hk : k < (bstr l).size) : ((bstr l)[k]'hk).toNat = l.getD k 0 := by
  have hk' : k < l.length := by rwa [bstr_size] at hk
  show (((l.map UInt8.ofNat).toArray)[k]'(by simpa using hk')).toNat = _
  simp only [List.getElem_toArray, List.getElem_map, UInt8.toNat_ofNat']
  rw [List.getD_eq_getElem?_getD, List.getElem?_eq_getElem hk', Option.getD_some]
  exact Nat.mod_eq_of_lt (h8 _ (List.getElem_mem hk'))

section
variable {P : Program} {t : TypeId}
theorem run_idx (ht : P.underlying t = some .string) (l : List Nat) (h8 : ∀ x ∈ l, x < 256) (k : Nat) (hk : k < l.length) (w : World) :
    (Instr.index t (.string (bstr l)) (.int .i64 (k : Int))).run P w = .ok (.int .u8 ((l.getD k 0 : Nat) : Int)) w := by
  rw [run_index_string w t (bstr l) .i64 (k : Int) ht, dif_pos ⟨by omega, by rw [bstr_size]; omega⟩]
  rw [bstr_get l _ h8]
  simp
theorem run_from (ht : P.underlying t = some .string) (l : List Nat) (k : Nat) (hk : k ≤ l.length) (w : World) :
    (Instr.slice t (.string (bstr l)) (some (.int .i64 (k : Int))) none none).run P w = .ok (.string (bstr (l.drop k))) w := by
  rw [run_slice_string_from_if w t (bstr l) .i64 (k : Int) ht, if_pos ⟨by omega, by rw [bstr_size]; omega⟩, Int.toNat_natCast, bstr_size, bstr_from]
theorem run_to (ht : P.underlying t = some .string) (l : List Nat) (k : Nat) (hk : k ≤ l.length) (w : World) :
    (Instr.slice t (.string (bstr l)) none (some (.int .i64 (k : Int))) none).run P w = .ok (.string (bstr (l.take k))) w := by
  rw [run_slice_string_to_if w t (bstr l) .i64 (k : Int) ht, if_pos ⟨by omega, by rw [bstr_size]; omega⟩, Int.toNat_natCast, bstr_to]
theorem run_slen (ht : P.underlying t = some .string) (l : List Nat) (ty : TypeId) (w : World) : (Builtin.len_ #[t] ty #[.string (bstr l)]).run P w = .ok (goInt l.length) w := by
  rw [run_len_string w t ty (bstr l) ht, bstr_size]
end
theorem strCells_bstr (l : List Nat) (h8 : ∀ x ∈ l, x < 256) : Lib.strCells (bstr l) = nums .u8 l := by
  unfold Lib.strCells nums
  show ((l.map UInt8.ofNat).toArray.toList).map _ = _
  simp only [List.map_map]
  refine List.map_congr_left fun x hx => ?_
  simp only [Function.comp, UInt8.toNat_ofNat']
  rw [Nat.mod_eq_of_lt (by have := h8 x hx; omega)]
/-- Texts as values. -/
def strs (l : List (List Nat)) : List Value := l.map fun s => .string (bstr s)
theorem strs_length (l : List (List Nat)) : (strs l).length = l.length := by simp [strs]
theorem strs_nil : strs [] = [] := rfl
theorem strs_append (l m : List (List Nat)) : strs (l ++ m) = strs l ++ strs m := by simp [strs]
theorem strs_at (l : List (List Nat)) (i : Nat) (h : i < l.length) : (strs l)[i]? = some (.string (bstr (l.getD i []))) := by simp [strs, List.getElem?_eq_getElem h]
theorem strs_oneCell (l : List (List Nat)) : ∀ u ∈ strs l, u.oneCell' = true := by
  intro u hu
  simp only [strs, List.mem_map] at hu
  obtain ⟨z, _, rfl⟩ := hu
  rfl
theorem Reads.lenT {w : World} {B n : Nat} {A : Option Addr} {l : List (List Nat)} (h : Reads w B 1 A n (strs l)) : n = l.length := by
  have := h.1
  rw [strs_length] at this
  omega
theorem Reads.str {w : World} {B n : Nat} {A : Option Addr} {l : List (List Nat)} {i : Nat} (h : Reads w B 1 A n (strs l)) (hi : i < n) : ∃ ad, A = some ad ∧ ad.block < B ∧ w.cell? (ad.add i) = some (.string (bstr (l.getD i []))) := by
  obtain ⟨ad, u, e, hb, hu, hc⟩ := h.at_ hi
  have hl : i < l.length := by have := h.lenT; omega
  rw [strs_at l i hl] at hu
  injection hu with hu
  subst hu
  exact ⟨ad, e, hb, hc⟩
theorem getD_memT {L : List (List Nat)} {k : Nat} {Q : List Nat → Prop} (h : ∀ x ∈ L, Q x) (hk : k < L.length) : Q (L.getD k []) := by
  rw [List.getD_eq_getElem?_getD, List.getElem?_eq_getElem hk]
  exact h _ (List.getElem_mem hk)

section
variable {P : Program} {ops : Array Oper} {rest : List Oper} {o : Oper} {a : Act} {Q : Exit → Act → World → Prop}
/-- append(b, s...) of a text. -/
theorem wpList_pushStr {w : World} {t e ts : TypeId} (E : ElT P t e (.int .u8 0) 1 1) (hts : P.underlying ts = some .string) (hgd : o.guard = none) (s x : Operand)
    (ho : o.op = .call { callee := .builtin .append, args := #[s, x], argTypes := #[t, ts] })
    {W : World} {B base n c : Nat} {A : Option Addr} {l l2 : List Nat} (hown : Own w base e (.slice A n c) (nums .u8 l)) (h8 : ∀ x ∈ l2, x < 256) (hs : a.eval s = .slice A n c) (hx : a.eval x = .string (bstr l2))
    (hb : Below B W w) (hbB : B ≤ base) (hbase : base ≤ w.heap.size) (hn : n + l2.length ≤ 140737488355328)
    (h : ∀ A' c' w', n + l2.length ≤ c' → c' ≤ maxLen → Own w' base e (.slice A' (n + l2.length) c') (nums .u8 (l ++ l2)) → w.grownBy w' (Value.ownBlock (.slice A n c)) → Below B W w' → wpList P ops Q rest (a.put o.dst (.slice A' (n + l2.length) c')) w') :
    wpList P ops Q (o :: rest) a w := by
  obtain ⟨i, hi, hz0, hz1, hz2⟩ := info_parts E.hi
  have hln := hown.len
  rw [nums_length] at hln
  have hown' : w.ownsRow base e 1 (.slice A n c) n (nums .u8 l) := by
    unfold Own at hown
    rwa [nums_length, ← hln] at hown
  refine Lib.wpList_append_own_string w hgd s x t ts ho base e i E.ht hts hi hz0 hz1 hz2 _ n _ hs hown' (bstr l2) hx (by rw [bstr_size]; unfold maxLen; omega) (by rw [bstr_size]; exact hn) hbase ?_
  intro v' w' h1 h2 _
  rw [strCells_bstr l2 h8, ← nums_append, bstr_size] at h1
  have hown2 : Own w' base e v' (nums .u8 (l ++ l2)) := by
    unfold Own
    rw [nums_length, List.length_append, ← hln]
    exact h1
  obtain ⟨A', c', rfl, hc1, hc2⟩ := hown2.slice
  rw [nums_length, List.length_append, ← hln] at hc1 hown2 ⊢
  exact h A' c' w' hc1 hc2 hown2 h2 (hb.grown h2 (Nat.le_trans hbB hbase) (fun k hk => by have := (hown.lt k hk).1; omega))
end
theorem strs_inj {l m : List (List Nat)} (hl : ∀ s ∈ l, ∀ x ∈ s, x < 256) (hm : ∀ s ∈ m, ∀ x ∈ s, x < 256) (h : strs l = strs m) : l = m := by
  induction l generalizing m with
  | nil => cases m with
    | nil => rfl
    | cons => simp [strs] at h
  | cons s l ih =>
    cases m with
    | nil => simp [strs] at h
    | cons r m =>
      simp only [strs, List.map_cons, List.cons.injEq, Value.string.injEq] at h
      have e := bstr_beq (hl s (by simp)) (hm r (by simp))
      rw [h.1] at e
      simp at e
      rw [e, ih (fun x hx => hl x (by simp [hx])) (fun x hx => hm x (by simp [hx])) h.2]

end Go.Hm
