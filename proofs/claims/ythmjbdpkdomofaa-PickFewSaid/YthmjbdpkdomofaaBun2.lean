/- Texts merged, for a claim has at most 60 files: Str, Opt, CellO, Cell, CellR, CellQ, Ieee, Pt, PtC, CellD, OrdP, OrdD, StaM, Bits, Cur, Stores, StaA, StaB, StaE, StaD, Shelf, PackA. -/
import Derived.BigQuiet
import Derived.Deep.MidRow
import Derived.Deep.QuietTactic
import Derived.Laws.ComplexArith
import Derived.Lib.AppendStr
import Derived.Lib.BitFns
import Derived.Lib.Bytealg
import Derived.Outline
import Derived.Shelf.Strconv.Itoa0
import Derived.Test.YthmjbdpkdomofaaBun1
import Derived.Test.YthmjbdpkdomofaaProg
/- Strings as lists of bytes: what the walk's operations come to. No program is named here. -/

namespace Go.Hm
open Go Go.RowKit

theorem bstr_extract (l : List Nat) (i j : Nat) : (bstr l).extract i j = bstr ((l.drop i).take (j - i)) := by
  refine ByteArray.ext ?_
  rw [ByteArray.data_extract]
  show ((l.map UInt8.ofNat).toArray).extract i j = (((l.drop i).take (j - i)).map UInt8.ofNat).toArray
  simp
theorem bstr_from (l : List Nat) (i : Nat) : (bstr l).extract i l.length = bstr (l.drop i) := by
  rw [bstr_extract, List.take_of_length_le (by rw [List.length_drop]; omega)]
theorem bstr_to (l : List Nat) (j : Nat) : (bstr l).extract 0 j = bstr (l.take j) := by
  rw [bstr_extract]; simp
theorem bstr_get (l : List Nat) (k : Nat) (h8 : ∀ x ∈ l, x < 256) (hk : k < (bstr l).size) : ((bstr l)[k]'hk).toNat = l.getD k 0 := by
  have hk' : k < l.length := by rwa [bstr_size] at hk
  show (((l.map UInt8.ofNat).toArray)[k]'(by simpa using hk')).toNat = _
  simp only [List.getElem_toArray, List.getElem_map, UInt8.toNat_ofNat']
  rw [List.getD_eq_getElem?_getD, List.getElem?_eq_getElem hk', Option.getD_some]
  exact Nat.mod_eq_of_lt (h8 _ (List.getElem_mem hk'))

section
variable {P : Program} {t : TypeId}
theorem run_idx (ht : P.underlying t = some .string) (l : List Nat) (h8 : ∀ x ∈ l, x < 256) (k : Nat) (hk : k < l.length) (w : World) :
    (Instr.index t (.string (bstr l)) (.int .i64 (k : Int))).run P w = .ok (.int .u8 ((l.getD k 0 : Nat) : Int)) w := by
  rw [run_index_string w t (bstr l) .i64 (k : Int) ht, dif_pos ⟨by omega, by rw [bstr_size]; omega⟩]
  rw [bstr_get l _ h8]
  simp
theorem run_from (ht : P.underlying t = some .string) (l : List Nat) (k : Nat) (hk : k ≤ l.length) (w : World) :
    (Instr.slice t (.string (bstr l)) (some (.int .i64 (k : Int))) none none).run P w = .ok (.string (bstr (l.drop k))) w := by
  rw [run_slice_string_from_if w t (bstr l) .i64 (k : Int) ht, if_pos ⟨by omega, by rw [bstr_size]; omega⟩, Int.toNat_natCast, bstr_size, bstr_from]
theorem run_to (ht : P.underlying t = some .string) (l : List Nat) (k : Nat) (hk : k ≤ l.length) (w : World) :
    (Instr.slice t (.string (bstr l)) none (some (.int .i64 (k : Int))) none).run P w = .ok (.string (bstr (l.take k))) w := by
  rw [run_slice_string_to_if w t (bstr l) .i64 (k : Int) ht, if_pos ⟨by omega, by rw [bstr_size]; omega⟩, Int.toNat_natCast, bstr_to]
theorem run_slen (ht : P.underlying t = some .string) (l : List Nat) (ty : TypeId) (w : World) : (Builtin.len_ #[t] ty #[.string (bstr l)]).run P w = .ok (goInt l.length) w := by
  rw [run_len_string w t ty (bstr l) ht, bstr_size]
end
theorem strCells_bstr (l : List Nat) (h8 : ∀ x ∈ l, x < 256) : Lib.strCells (bstr l) = nums .u8 l := by
  unfold Lib.strCells nums
  show ((l.map UInt8.ofNat).toArray.toList).map _ = _
  simp only [List.map_map]
  refine List.map_congr_left fun x hx => ?_
  simp only [Function.comp, UInt8.toNat_ofNat']
  rw [Nat.mod_eq_of_lt (by have := h8 x hx; omega)]
/-- Texts as values. -/
def strs (l : List (List Nat)) : List Value := l.map fun s => .string (bstr s)
theorem strs_length (l : List (List Nat)) : (strs l).length = l.length := by simp [strs]
theorem strs_nil : strs [] = [] := rfl
theorem strs_append (l m : List (List Nat)) : strs (l ++ m) = strs l ++ strs m := by simp [strs]
theorem strs_at (l : List (List Nat)) (i : Nat) (h : i < l.length) : (strs l)[i]? = some (.string (bstr (l.getD i []))) := by simp [strs, List.getElem?_eq_getElem h]
theorem strs_oneCell (l : List (List Nat)) : ∀ u ∈ strs l, u.oneCell' = true := by
  intro u hu
  simp only [strs, List.mem_map] at hu
  obtain ⟨z, _, rfl⟩ := hu
  rfl
theorem Reads.lenT {w : World} {B n : Nat} {A : Option Addr} {l : List (List Nat)} (h : Reads w B 1 A n (strs l)) : n = l.length := by
  have := h.1
  rw [strs_length] at this
  omega
theorem Reads.str {w : World} {B n : Nat} {A : Option Addr} {l : List (List Nat)} {i : Nat} (h : Reads w B 1 A n (strs l)) (hi : i < n) : ∃ ad, A = some ad ∧ ad.block < B ∧ w.cell? (ad.add i) = some (.string (bstr (l.getD i []))) := by
  obtain ⟨ad, u, e, hb, hu, hc⟩ := h.at_ hi
  have hl : i < l.length := by have := h.lenT; omega
  rw [strs_at l i hl] at hu
  injection hu with hu
  subst hu
  exact ⟨ad, e, hb, hc⟩
theorem getD_memT {L : List (List Nat)} {k : Nat} {Q : List Nat → Prop} (h : ∀ x ∈ L, Q x) (hk : k < L.length) : Q (L.getD k []) := by
  rw [List.getD_eq_getElem?_getD, List.getElem?_eq_getElem hk]
  exact h _ (List.getElem_mem hk)

section
variable {P : Program} {ops : Array Oper} {rest : List Oper} {o : Oper} {a : Act} {Q : Exit → Act → World → Prop}
/-- append(b, s...) of a text. -/
theorem wpList_pushStr {w : World} {t e ts : TypeId} (E : ElT P t e (.int .u8 0) 1 1) (hts : P.underlying ts = some .string) (hgd : o.guard = none) (s x : Operand)
    (ho : o.op = .call { callee := .builtin .append, args := #[s, x], argTypes := #[t, ts] })
    {W : World} {B base n c : Nat} {A : Option Addr} {l l2 : List Nat} (hown : Own w base e (.slice A n c) (nums .u8 l)) (h8 : ∀ x ∈ l2, x < 256) (hs : a.eval s = .slice A n c) (hx : a.eval x = .string (bstr l2))
    (hb : Below B W w) (hbB : B ≤ base) (hbase : base ≤ w.heap.size) (hn : n + l2.length ≤ 140737488355328)
    (h : ∀ A' c' w', n + l2.length ≤ c' → c' ≤ maxLen → Own w' base e (.slice A' (n + l2.length) c') (nums .u8 (l ++ l2)) → w.grownBy w' (Value.ownBlock (.slice A n c)) → Below B W w' → wpList P ops Q rest (a.put o.dst (.slice A' (n + l2.length) c')) w') :
    wpList P ops Q (o :: rest) a w := by
  obtain ⟨i, hi, hz0, hz1, hz2⟩ := info_parts E.hi
  have hln := hown.len
  rw [nums_length] at hln
  have hown' : w.ownsRow base e 1 (.slice A n c) n (nums .u8 l) := by
    unfold Own at hown
    rwa [nums_length, ← hln] at hown
  refine Lib.wpList_append_own_string w hgd s x t ts ho base e i E.ht hts hi hz0 hz1 hz2 _ n _ hs hown' (bstr l2) hx (by rw [bstr_size]; unfold maxLen; omega) (by rw [bstr_size]; exact hn) hbase ?_
  intro v' w' h1 h2 _
  rw [strCells_bstr l2 h8, ← nums_append, bstr_size] at h1
  have hown2 : Own w' base e v' (nums .u8 (l ++ l2)) := by
    unfold Own
    rw [nums_length, List.length_append, ← hln]
    exact h1
  obtain ⟨A', c', rfl, hc1, hc2⟩ := hown2.slice
  rw [nums_length, List.length_append, ← hln] at hc1 hown2 ⊢
  exact h A' c' w' hc1 hc2 hown2 h2 (hb.grown h2 (Nat.le_trans hbB hbase) (fun k hk => by have := (hown.lt k hk).1; omega))
end
theorem strs_inj {l m : List (List Nat)} (hl : ∀ s ∈ l, ∀ x ∈ s, x < 256) (hm : ∀ s ∈ m, ∀ x ∈ s, x < 256) (h : strs l = strs m) : l = m := by
  induction l generalizing m with
  | nil => cases m with
    | nil => rfl
    | cons => simp [strs] at h
  | cons s l ih =>
    cases m with
    | nil => simp [strs] at h
    | cons r m =>
      simp only [strs, List.map_cons, List.cons.injEq, Value.string.injEq] at h
      have e := bstr_beq (hl s (by simp)) (hm r (by simp))
      rw [h.1] at e
      simp at e
      rw [e, ih (fun x hx => hl x (by simp [hx])) (fun x hx => hm x (by simp [hx])) h.2]

end Go.Hm
/- What is answered with a truth beside: bytes, numbers, texts, or none. -/

namespace Go.Proofs.Ythmjbdpkdomofaa
open Go.RowKit Go.Hm
theorem strT : Try.prog.underlying 9 = some .string := by kernel_rfl
/-- The answer v; only draws are counted. -/
def DrewPost (v : Value) (w : World) (e : Ending) (w' : World) : Prop := e = .returned v ∧ ∃ k, w' = w.drewN k
/-- The answer v; nothing that was is turned. -/
def NewPost (v : Value) (w : World) (e : Ending) (w' : World) : Prop := e = .returned v ∧ New w w'
/-- The answer v; nothing at all is turned. -/
def ValPost (v : Value) (w : World) (e : Ending) (w' : World) : Prop := e = .returned v ∧ w = w'
theorem DrewPost.new {v : Value} {w w' : World} {e : Ending} (h : DrewPost v w e w') : NewPost v w e w' := by
  obtain ⟨h1, k, rfl⟩ := h
  exact ⟨h1, new_drewN w k⟩
/-- Bytes or none, and whether there are any. -/
def OptB (o : Option (List Nat)) (w : World) (e : Ending) (w' : World) : Prop :=
  match o with
  | none => e = .returned (.tuple #[.slice none 0 0, .bool false]) ∧ Below w.heap.size w w'
  | some l => ∃ A n c, e = .returned (.tuple #[.slice A n c, .bool true]) ∧ Own w' w.heap.size 5 (.slice A n c) (nums .u8 l) ∧ Below w.heap.size w w'
theorem OptB.u {o : Option (List Nat)} {w w' : World} {e : Ending} (h : OptB o w e w') :
    ∃ A n c, e = .returned (.tuple #[.slice A n c, .bool o.isSome]) ∧ Own w' w.heap.size 5 (.slice A n c) (nums .u8 (o.getD [])) ∧ Below w.heap.size w w' := by
  cases o with
  | none => exact ⟨none, 0, 0, h.1, Own.nil_, h.2⟩
  | some l => exact h
def OptW (o : Option (List Nat)) (w : World) (e : Ending) (w' : World) : Prop :=
  match o with
  | none => e = .returned (.tuple #[.slice none 0 0, .bool false]) ∧ Below w.heap.size w w'
  | some l => ∃ A n c, e = .returned (.tuple #[.slice A n c, .bool true]) ∧ Own w' w.heap.size 89 (.slice A n c) (nums .u64 l) ∧ Below w.heap.size w w'
theorem OptW.u {o : Option (List Nat)} {w w' : World} {e : Ending} (h : OptW o w e w') :
    ∃ A n c, e = .returned (.tuple #[.slice A n c, .bool o.isSome]) ∧ Own w' w.heap.size 89 (.slice A n c) (nums .u64 (o.getD [])) ∧ Below w.heap.size w w' := by
  cases o with
  | none => exact ⟨none, 0, 0, h.1, Own.nil_, h.2⟩
  | some l => exact h

end Go.Proofs.Ythmjbdpkdomofaa
/- Contract on cmp.Compare of numbers. -/

namespace Go.Hm
open Go Go.RowKit
/-- Which of two numbers is ahead. -/
def cmpI (x y : Int) : Int := if x < y then -1 else if y < x then 1 else 0

end Go.Hm

namespace Go.Proofs.Ythmjbdpkdomofaa
open Go.RowKit Go.Hm
set_option maxRecDepth 100000 in
theorem isNaN_any {w : World} {x : Int} : Calls Try.prog 77 #[.int .i64 x] w (ValPost (.bool false) w) := by
  go_enter Try.func77, Try.ntmps77
  go_wp2
  go_ret
  exact ⟨by simp, rfl⟩
set_option maxHeartbeats 1000000 in
set_option maxRecDepth 100000 in
theorem cmpI_any {w : World} {x y : Int} : Calls Try.prog 73 #[.int .i64 x, .int .i64 y] w (ValPost (.int .i64 (cmpI x y)) w) := by
  have P := fun z : Int => Lib.hid (isNaN_any (w := w) (x := z))
  have K1 := Lib.hid (fun (h : x < y) => show cmpI x y = -1 by rw [cmpI, if_pos h])
  have K2 := Lib.hid (fun (h : y < x) => show cmpI x y = 1 by rw [cmpI, if_neg (by omega), if_pos h])
  have K3 := Lib.hid (fun (h : ¬ x < y) (h2 : ¬ y < x) => show cmpI x y = 0 by rw [cmpI, if_neg h, if_neg h2])
  generalize cmpI x y = O at *
  by_cases h1 : x < y
  · have O1 := Lib.hid (K1.out h1)
    clear K1 K2 K3
    go_enter Try.func73, Try.ntmps73
    go_wp2_with (first | (go_at_call 77; refine ((P _).out).mono ?_; rintro e w' ⟨rfl, rfl⟩))
    go_ret
    exact ⟨by rw [O1.out]; rfl, rfl⟩
  · by_cases h2 : y < x
    · have O1 := Lib.hid (K2.out h2)
      clear K1 K2 K3
      go_enter Try.func73, Try.ntmps73
      go_wp2_with (first | (go_at_call 77; refine ((P _).out).mono ?_; rintro e w' ⟨rfl, rfl⟩))
      go_ret
      exact ⟨by rw [O1.out]; rfl, rfl⟩
    · have O1 := Lib.hid (K3.out h1 h2)
      clear K1 K2 K3
      go_enter Try.func73, Try.ntmps73
      go_wp2_with (first | (go_at_call 77; refine ((P _).out).mono ?_; rintro e w' ⟨rfl, rfl⟩))
      go_ret
      exact ⟨by rw [O1.out]; rfl, rfl⟩

end Go.Proofs.Ythmjbdpkdomofaa
/- Contracts on cells: point.Right, cell.Right. -/

namespace Go.Proofs.Ythmjbdpkdomofaa
open Go.RowKit Go.Hm
set_option maxHeartbeats 2000000 in
set_option maxRecDepth 100000 in
theorem within_any {w : World} (x y : Int) :
    Calls Try.prog 76 #[.agg #[.int .i64 x, .int .i64 y], .int .i64 1048576] w (NewPost (.bool (inBox x y)) w) := by
  obtain ⟨W0, hW0⟩ : ∃ W, W = w.alloc (.cells #[.int .i64 x, .int .i64 y] 51) := ⟨_, rfl⟩
  have b0 : New w W0 := by rw [hW0]; exact (Below.refl _ _).alloc (Nat.le_refl _) _
  have B0 : Blk W0 w.heap.size 51 #[.int .i64 x, .int .i64 y] := by rw [hW0]; exact Blk.new _ _ _
  obtain ⟨x0, x1⟩ := cells2 B0
  have HO := Lib.hid (show inBox x y = (decide (-1048576 ≤ x) && decide (x ≤ 1048576) && decide (-1048576 ≤ y) && decide (y ≤ 1048576)) from rfl)
  generalize inBox x y = O at *
  rw [hW0] at x0 x1
  clear B0
  cases h1 : decide (-1048576 ≤ x) <;> cases h2 : decide (x ≤ 1048576) <;> cases h3 : decide (-1048576 ≤ y) <;> cases h4 : decide (y ≤ 1048576)
  all_goals
    rw [h1, h2, h3, h4] at HO
    go_enter Try.func76, Try.ntmps76
    go_wp2
    go_ret
    exact ⟨by rw [HO.out]; rfl, by rw [← hW0]; exact b0⟩
set_option maxHeartbeats 2000000 in
set_option maxRecDepth 100000 in
theorem pright_any {w : World} (x y : Int) :
    Calls Try.prog 71 #[.agg #[.int .i64 x, .int .i64 y]] w (NewPost (.bool (inBox x y)) w) := by
  obtain ⟨W0, hW0⟩ : ∃ W, W = w.alloc (.cells #[.int .i64 x, .int .i64 y] 51) := ⟨_, rfl⟩
  have b0 : New w W0 := by rw [hW0]; exact (Below.refl _ _).alloc (Nat.le_refl _) _
  have B0 : Blk W0 w.heap.size 51 #[.int .i64 x, .int .i64 y] := by rw [hW0]; exact Blk.new _ _ _
  obtain ⟨x0, x1⟩ := cells2 B0
  rw [hW0] at x0 x1
  clear B0
  go_enter Try.func71, Try.ntmps71
  go_wp2_with (first
    | (go_at_call 76; refine (within_any x y).mono ?_; rintro e w' ⟨rfl, b1⟩))
  go_ret
  exact ⟨rfl, New.trans b0 (by rw [hW0]; exact b1)⟩

end Go.Proofs.Ythmjbdpkdomofaa
/- Contract on cell.Right. -/

namespace Go.Proofs.Ythmjbdpkdomofaa
open Go.RowKit Go.Hm
theorem new2 (w : World) (a b : Obj) : New w ((w.alloc a).alloc b) := New.trans ((Below.refl _ _).alloc (Nat.le_refl _) _) ((Below.refl _ _).alloc (Nat.le_refl _) _)
theorem bstr_nil {s : List Nat} : (bstr s).toList = [] ↔ s = [] := by
  rw [bstr_toList]
  simp
set_option maxHeartbeats 2000000 in
set_option maxRecDepth 100000 in
theorem cright_any {w : World} {b : Bool} {n : Int} {s : List Nat} {x y : Int} {cn : List Nat} {t : Int} {nu : Bool} (hs : s.length ≤ 140737488351232) :
    Calls Try.prog 67 #[.agg #[.bool b, .int .i64 n, .string (bstr s), .int .i64 x, .int .i64 y], .agg #[.string (bstr cn), .int .i64 t, .bool nu]] w (NewPost (.bool (rightB (b, n, s, x, y) t nu)) w) := by
  have z1 := bstr_size s
  generalize hO : rightB (b, n, s, x, y) t nu = O
  have HO := Lib.hid hO
  have Z := Lib.hid (bstr_nil (s := s))
  clear hO
  have B0 := Blk.new w 53 #[.bool b, .int .i64 n, .string (bstr s), .int .i64 x, .int .i64 y]
  have B1 := Blk.new (w.alloc (.cells #[.bool b, .int .i64 n, .string (bstr s), .int .i64 x, .int .i64 y] 53)) 61 #[.string (bstr cn), .int .i64 t, .bool nu]
  obtain ⟨x0, x1, x2, x3, x4⟩ := cells5 (B0.alloc (.cells #[.string (bstr cn), .int .i64 t, .bool nu] 61))
  obtain ⟨y0, y1, y2⟩ := ccells B1
  clear B0 B1
  go_enter Try.func67, Try.ntmps67
  go_wp2_with (first
    | (go_at_call 71; refine (pright_any x y).mono ?_; rintro e w' ⟨rfl, b1⟩))
  all_goals go_ret
  all_goals try refine ⟨?_, new2 w _ _⟩
  all_goals try refine ⟨?_, New.trans (new2 w _ _) (by assumption)⟩
  all_goals
    rw [← HO.out]
    have Z := Z.out
    clear x0 x1 x2 x3 x4 y0 y1 y2 HO
    simp_all [rightB]
  · by_cases h1 : n = 1 <;> simp [*]
  · omega

end Go.Proofs.Ythmjbdpkdomofaa
/- Contracts on strings.Compare, cell.compareNulls and cell.Compare (but for points). -/

namespace Go.Hm
open Go Go.RowKit
/-- Which of two texts is ahead. -/
def cmpT (a b : List Nat) : Int := Lib.compareBytes (a.map UInt8.ofNat) (b.map UInt8.ofNat)
/-- Which of two cells is ahead, of which one at least is null. -/
def cmpN (a b : Bool) : Int := if a && b then 0 else if a then -1 else 1
/-- Which of two cells is ahead (points are not spoken of). -/
def cmpC (t : Int) (a b : CellS) : Int := if a.1 || b.1 then cmpN a.1 b.1 else if t = 0 ∨ t = 1 then cmpI a.2.1 b.2.1 else if t = 2 then cmpT a.2.2.1 b.2.2.1 else 0

end Go.Hm

namespace Go.Proofs.Ythmjbdpkdomofaa
open Go.RowKit Go.Hm
set_option maxRecDepth 100000 in
theorem bstrCmp_any {w : World} {a b : List Nat} : Calls Try.prog 78 #[.string (bstr a), .string (bstr b)] w (ValPost (.int .i64 (cmpT a b)) w) := by
  go_enter Try.func78, Try.ntmps78
  go_wp2
  rw [run_callFunc_extern Try.func81 (by kernel_rfl) (by kernel_rfl) (by kernel_rfl) (e := Extern.BytealgCompare.compare) (by kernel_rfl), Lib.run_compareString]
  simp only [Result.andThen]
  rw [Oper.upon_value]
  go_wp2
  go_ret
  exact ⟨rfl, rfl⟩
set_option maxRecDepth 100000 in
theorem strCmp_any {w : World} {a b : List Nat} : Calls Try.prog 74 #[.string (bstr a), .string (bstr b)] w (ValPost (.int .i64 (cmpT a b)) w) := by
  go_enter Try.func74, Try.ntmps74
  go_wp2_with (go_at_call 78; refine bstrCmp_any.mono ?_; rintro e w' ⟨rfl, rfl⟩)
  go_ret
  exact ⟨rfl, rfl⟩
set_option maxHeartbeats 1000000 in
set_option maxRecDepth 100000 in
theorem cmpNulls_any {w : World} {a b : Bool} {n m : Int} {s r : ByteArray} {x y x2 y2 : Int} :
    Calls Try.prog 72 #[.agg #[.bool a, .int .i64 n, .string s, .int .i64 x, .int .i64 y], .agg #[.bool b, .int .i64 m, .string r, .int .i64 x2, .int .i64 y2]] w (NewPost (.int .i64 (cmpN a b)) w) := by
  have B0 := Blk.new w 53 #[.bool a, .int .i64 n, .string s, .int .i64 x, .int .i64 y]
  have B1 := Blk.new (w.alloc (.cells #[.bool a, .int .i64 n, .string s, .int .i64 x, .int .i64 y] 53)) 53 #[.bool b, .int .i64 m, .string r, .int .i64 x2, .int .i64 y2]
  obtain ⟨x0, _⟩ := cells5 (B0.alloc (.cells #[.bool b, .int .i64 m, .string r, .int .i64 x2, .int .i64 y2] 53))
  obtain ⟨y0, _⟩ := cells5 B1
  clear B0 B1
  go_enter Try.func72, Try.ntmps72
  cases a <;> cases b
  all_goals
    go_wp2
    go_ret
    exact ⟨rfl, new2 w _ _⟩
set_option maxHeartbeats 2000000 in
set_option maxRecDepth 100000 in
theorem compare_any {w : World} {t : Int} {a b : Bool} {n m : Int} {s r : List Nat} {x y x2 y2 : Int} (h3 : ¬ (t = 3 ∧ a = false ∧ b = false)) :
    Calls Try.prog 68 #[.int .i64 t, .agg #[.bool a, .int .i64 n, .string (bstr s), .int .i64 x, .int .i64 y], .agg #[.bool b, .int .i64 m, .string (bstr r), .int .i64 x2, .int .i64 y2]] w (NewPost (.int .i64 (cmpC t (a, n, s, x, y) (b, m, r, x2, y2))) w) := by
  have B0 := Blk.new w 53 #[.bool a, .int .i64 n, .string (bstr s), .int .i64 x, .int .i64 y]
  have B1 := Blk.new (w.alloc (.cells #[.bool a, .int .i64 n, .string (bstr s), .int .i64 x, .int .i64 y] 53)) 53 #[.bool b, .int .i64 m, .string (bstr r), .int .i64 x2, .int .i64 y2]
  obtain ⟨x0, x1, x2', x3, x4⟩ := cells5 (B0.alloc (.cells #[.bool b, .int .i64 m, .string (bstr r), .int .i64 x2, .int .i64 y2] 53))
  obtain ⟨y0, y1, y2', y3, y4⟩ := cells5 B1
  generalize hO : cmpC t (a, n, s, x, y) (b, m, r, x2, y2) = O
  have HO := Lib.hid hO
  have H3 := Lib.hid h3
  clear B0 B1 hO h3
  cases a <;> cases b
  case' false.false => have h3 : ¬ t = 3 := fun e => H3.out ⟨e, rfl, rfl⟩
  all_goals
    clear H3
    go_enter Try.func68, Try.ntmps68
    go_wp2_with (first
      | (go_at_call 72; refine cmpNulls_any.mono ?_; rintro e w' ⟨rfl, b1⟩)
      | (go_at_call 73; refine cmpI_any.mono ?_; rintro e w' ⟨rfl, rfl⟩)
      | (go_at_call 74; refine strCmp_any.mono ?_; rintro e w' ⟨rfl, rfl⟩))
  all_goals go_ret
  all_goals try refine ⟨?_, new2 w _ _⟩
  all_goals try refine ⟨?_, New.trans (new2 w _ _) (by assumption)⟩
  all_goals
    rw [← HO.out]
    clear x0 x1 x2' x3 x4 y0 y1 y2' y3 y4 HO
    simp_all [cmpC]

end Go.Proofs.Ythmjbdpkdomofaa
/- Whole numbers as floats: what is exact. No program is named here. -/

namespace Go.Hm
open Ieee
theorem dbl : Ieee.double.fractionBits = 52 ∧ Ieee.double.exponentBits = 11 := ⟨rfl, rfl⟩
theorem dbl_least : Ieee.double.leastPlace = -1074 := by decide
theorem dbl_binade : Ieee.double.binade = 4503599627370496 := by decide
theorem dbl_inf : Ieee.double.infRung = 9218868437227405312 := by decide
theorem dbl_sign : Ieee.double.signWeight = 9223372036854775808 := by decide
theorem cut_exact (way : Toward) (neg : Bool) (n d : Nat) : way.cut neg (n * 2 ^ d) d = n := by
  by_cases h0 : n = 0
  · subst h0
    unfold Toward.cut
    simp only [Nat.zero_mul, Nat.zero_div, Nat.zero_mod]
    cases way <;> simp
  · have hl : d ≤ (n * 2 ^ d).log2 := by
      rw [Nat.le_log2 (by have := Nat.two_pow_pos d; exact Nat.mul_ne_zero h0 (by omega))]
      exact Nat.le_mul_of_pos_left _ (by omega)
    have hm : min d ((n * 2 ^ d).log2 + 2) = d := Nat.min_eq_left (by omega)
    unfold Toward.cut
    simp only [hm, Nat.one_shiftLeft, Nat.mul_div_cancel _ (Nat.two_pow_pos d), Nat.mul_mod_left]
    have hp := Nat.two_pow_pos d
    cases way <;> simp <;> omega
theorem log2_mul_pow {n : Nat} (h : n ≠ 0) (k : Nat) : (n * 2 ^ k).log2 = n.log2 + k := by
  have hp := Nat.two_pow_pos k
  have h1 : 2 ^ (n.log2 + k) ≤ n * 2 ^ k := by
    rw [Nat.pow_add]
    exact Nat.mul_le_mul_right _ (Nat.log2_self_le h)
  have h2 : n * 2 ^ k < 2 ^ (n.log2 + k + 1) := by
    rw [show n.log2 + k + 1 = (n.log2 + 1) + k by omega, Nat.pow_add]
    exact Nat.mul_lt_mul_of_pos_right (Nat.lt_log2_self) hp
  have hne : n * 2 ^ k ≠ 0 := Nat.mul_ne_zero h (by omega)
  have a1 := (Nat.le_log2 hne).2 h1
  have a2 := (Nat.log2_lt hne).2 h2
  omega
theorem read_word (f : Format) (s : Bool) (R : Nat) (hR : R < f.signWeight) : f.read (f.word s R) =
    if R < f.binade then .number s R f.leastPlace
    else if R < f.infRung then .number s (f.binade + R % f.binade) (f.leastPlace + (R / f.binade - 1 : Nat))
    else if R = f.infRung then .infinity s else .nan s (R - f.infRung) := by
  have h1 : (f.word s R / f.signWeight % 2 == 1) = s := by
    unfold Format.word
    cases s with
    | false =>
      rw [if_neg (by simp), Nat.div_eq_of_lt hR]
      rfl
    | true =>
      rw [if_pos rfl, Nat.add_div_left _ (by omega), Nat.div_eq_of_lt hR]
      rfl
  have h2 : f.word s R % f.signWeight = R := by
    unfold Format.word
    cases s with
    | false => rw [if_neg (by simp), Nat.mod_eq_of_lt hR]
    | true => rw [if_pos rfl, Nat.add_mod_left, Nat.mod_eq_of_lt hR]
  unfold Format.read
  simp only [h1, h2]
/-- The nearest word of a whole number of fewer than 54 digits is that number. -/
theorem read_nearest (s : Bool) (n k : Nat) (hn : n < 9007199254740992) : ∃ k' : Nat, Ieee.double.read (Ieee.double.nearest s (n * 2 ^ k) (-(k : Int))) = .number s (n * 2 ^ k') (-(k' : Int)) := by
  by_cases h0 : n = 0
  · subst h0
    obtain ⟨j, hj⟩ : ∃ j : Nat, Ieee.double.leastPlace = -(j : Int) := ⟨1074, by rw [dbl_least]; rfl⟩
    refine ⟨j, ?_⟩
    rw [Nat.zero_mul, Nat.zero_mul, Format.nearest, if_pos rfl, read_word _ _ _ (by rw [dbl_sign]; omega), if_pos (by rw [dbl_binade]; omega), hj]
  · have hp := Nat.two_pow_pos k
    have hne : n * 2 ^ k ≠ 0 := Nat.mul_ne_zero h0 (by omega)
    have hlog : n.log2 ≤ 52 := by
      have := (Nat.log2_lt h0).2 (show n < 2 ^ 53 by omega)
      omega
    have e1 : (-(k : Int)) + ((n * 2 ^ k).log2 : Nat) - (52 : Nat) = (n.log2 : Int) - 52 := by rw [log2_mul_pow h0]; omega
    obtain ⟨d, hd⟩ : ∃ d, d = 52 - n.log2 := ⟨_, rfl⟩
    have hlast : max ((-(k : Int)) + ((n * 2 ^ k).log2 : Nat) - (Ieee.double.fractionBits : Nat)) Ieee.double.leastPlace = -(d : Int) := by
      rw [dbl.1, e1, dbl_least]
      omega
    have hkept : Toward.even.cut s ((n * 2 ^ k) <<< ((-(k : Int)) - -(d : Int)).toNat) (-(d : Int) - -(k : Int)).toNat = n * 2 ^ d := by
      by_cases hkd : k ≤ d
      · rw [show ((-(k : Int)) - -(d : Int)).toNat = d - k by omega, show (-(d : Int) - -(k : Int)).toNat = 0 by omega, Nat.shiftLeft_eq, Nat.mul_assoc, ← Nat.pow_add, show k + (d - k) = d by omega]
        have := cut_exact .even s (n * 2 ^ d) 0
        rwa [Nat.pow_zero, Nat.mul_one] at this
      · rw [show ((-(k : Int)) - -(d : Int)).toNat = 0 by omega, show (-(d : Int) - -(k : Int)).toNat = k - d by omega, Nat.shiftLeft_eq, Nat.pow_zero, Nat.mul_one]
        have := cut_exact .even s (n * 2 ^ d) (k - d)
        rwa [Nat.mul_assoc, ← Nat.pow_add, show d + (k - d) = k by omega] at this
    have hlo : 4503599627370496 ≤ n * 2 ^ d := by
      have := Nat.mul_le_mul_right (2 ^ d) (Nat.log2_self_le h0)
      rw [← Nat.pow_add, show n.log2 + d = 52 by omega] at this
      exact Nat.le_trans (by decide) this
    have hhi : n * 2 ^ d < 9007199254740992 := by
      have := Nat.mul_lt_mul_of_pos_right (Nat.lt_log2_self (n := n)) (Nat.two_pow_pos d)
      rw [← Nat.pow_add, show n.log2 + 1 + d = 53 by omega] at this
      exact Nat.lt_of_lt_of_le this (by decide)
    refine ⟨d, ?_⟩
    have hd2 : d ≤ 52 := by omega
    have hw : Ieee.double.nearest s (n * 2 ^ k) (-(k : Int)) = Ieee.double.word s (min ((-(d : Int) - Ieee.double.leastPlace).toNat * Ieee.double.binade + n * 2 ^ d) Ieee.double.infRung) := by
      unfold Format.nearest
      rw [if_neg hne]
      simp only [hlast, hkept]
    clear hlast hkept hlog e1 hd hne hp h0 hn
    generalize Ieee.double.nearest s (n * 2 ^ k) (-(k : Int)) = V at *
    generalize n * 2 ^ d = K at *
    rw [hw, read_word _ _ _ (by rw [dbl_sign, dbl_inf]; omega)]
    have e2 : (-(d : Int) - Ieee.double.leastPlace).toNat = 1074 - d := by rw [dbl_least]; omega
    rw [e2, dbl_binade, dbl_inf, dbl_least]
    generalize hm : 1074 - d = m
    have hm2 : m ≤ 1074 ∧ 1022 ≤ m := by omega
    have hr : min (m * 4503599627370496 + K) 9218868437227405312 = m * 4503599627370496 + K := Nat.min_eq_left (by omega)
    rw [hr]
    have r1 : ¬ m * 4503599627370496 + K < 4503599627370496 := by omega
    have r2 : m * 4503599627370496 + K < 9218868437227405312 := by omega
    have r3 : 4503599627370496 + (m * 4503599627370496 + K) % 4503599627370496 = K := by omega
    have r4 : (m * 4503599627370496 + K) / 4503599627370496 - 1 = m := by omega
    have r5 : (-1074 : Int) + (m : Int) = -(d : Int) := by omega
    rw [if_neg r1, if_pos r2, r3, r4, r5]
/-- The datum is the number x (of either sign, if it is none). -/
def RepD (x : Int) (d : Datum) : Prop := ∃ (s : Bool) (k : Nat), d = .number s (x.natAbs * 2 ^ k) (-(k : Int)) ∧ (x ≠ 0 → s = decide (x < 0))
/-- The word reads as the number x. -/
def Rep (x : Int) (b : Nat) : Prop := RepD x (Ieee.double.read b)
theorem signed_rep {s : Bool} {x : Int} (h : x ≠ 0 → s = decide (x < 0)) (k u : Nat) : Ieee.signed s (x.natAbs * 2 ^ k) u = x * ((2 ^ (k + u) : Nat) : Int) := by
  have e : (x.natAbs * 2 ^ k) <<< u = x.natAbs * 2 ^ (k + u) := by rw [Nat.shiftLeft_eq, Nat.mul_assoc, ← Nat.pow_add]
  unfold Ieee.signed
  rw [e]
  generalize 2 ^ (k + u) = p
  by_cases h0 : x = 0
  · subst h0
    cases s <;> simp
  · by_cases hx : x < 0
    · rw [h h0, decide_eq_true hx, if_pos rfl, Int.natCast_mul, show ((x.natAbs : Nat) : Int) = -x by omega, Int.neg_mul, Int.neg_neg]
    · rw [h h0, decide_eq_false hx, if_neg (by simp), Int.natCast_mul, show ((x.natAbs : Nat) : Int) = x by omega]
theorem RepD.write {x : Int} {d : Datum} (h : RepD x d) (hx : x.natAbs < 9007199254740992) : Rep x (Ieee.double.write d) := by
  obtain ⟨s, k, rfl, hs⟩ := h
  obtain ⟨j, hj⟩ := read_nearest s x.natAbs k hx
  exact ⟨s, j, hj, hs⟩
theorem RepD.opposite {x : Int} {d : Datum} (h : RepD x d) : RepD (-x) d.opposite := by
  obtain ⟨s, k, rfl, hs⟩ := h
  refine ⟨!s, k, ?_, fun h0 => ?_⟩
  · rw [Int.natAbs_neg]
    rfl
  · rw [hs (by omega)]
    by_cases hx : x < 0
    · rw [decide_eq_true hx, decide_eq_false (by omega)]
      rfl
    · rw [decide_eq_false hx, decide_eq_true (by omega)]
      rfl
theorem RepD.product {x y : Int} {d e : Datum} (h : RepD x d) (h2 : RepD y e) : ∃ r, d.product e = some r ∧ RepD (x * y) r := by
  obtain ⟨s, k, rfl, hs⟩ := h
  obtain ⟨t, j, rfl, ht⟩ := h2
  refine ⟨_, rfl, s ^^ t, k + j, ?_, fun h0 => ?_⟩
  · rw [Int.natAbs_mul, Nat.pow_add]
    congr 1
    · generalize 2 ^ k = p
      generalize 2 ^ j = q
      simp only [Nat.mul_assoc, Nat.mul_left_comm, Nat.mul_comm]
    · omega
  · have hx : x ≠ 0 := by rintro rfl; simp at h0
    have hy : y ≠ 0 := by rintro rfl; simp at h0
    rw [hs hx, ht hy]
    rcases Int.lt_or_gt_of_ne hx with hx | hx <;> rcases Int.lt_or_gt_of_ne hy with hy | hy
    · have := Int.mul_pos_of_neg_of_neg hx hy
      simp [hx, hy]; omega
    · have := Int.mul_neg_of_neg_of_pos hx hy
      simp [hx, this]; omega
    · have := Int.mul_neg_of_pos_of_neg hx hy
      simp [hy, this]; omega
    · have := Int.mul_pos hx hy
      have a1 : ¬ x < 0 := by omega
      have a2 : ¬ y < 0 := by omega
      have a3 : ¬ x * y < 0 := by omega
      simp [a1, a2, a3]
theorem RepD.sum {x y : Int} {d e : Datum} (h : RepD x d) (h2 : RepD y e) : ∃ r, d.sum e = some r ∧ RepD (x + y) r := by
  obtain ⟨s, k, rfl, hs⟩ := h
  obtain ⟨t, j, rfl, ht⟩ := h2
  obtain ⟨m, hm⟩ : ∃ m, m = max k j := ⟨_, rfl⟩
  have hb : min (-(k : Int)) (-(j : Int)) = -(m : Int) := by omega
  have hk : k + (-(k : Int) - -(m : Int)).toNat = m := by omega
  have hj : j + (-(j : Int) - -(m : Int)).toNat = m := by omega
  have ht : Ieee.signed s (x.natAbs * 2 ^ k) (-(k : Int) - -(m : Int)).toNat + Ieee.signed t (y.natAbs * 2 ^ j) (-(j : Int) - -(m : Int)).toNat = (x + y) * ((2 ^ m : Nat) : Int) := by
    rw [signed_rep hs, signed_rep ht, hk, hj, Int.add_mul]
  have hp : 0 < 2 ^ m := Nat.two_pow_pos m
  refine ⟨_, rfl, ?_⟩
  simp only [hb, ht]
  generalize x + y = z
  refine ⟨if z * ((2 ^ m : Nat) : Int) = 0 then s && t else decide (z * ((2 ^ m : Nat) : Int) < 0), m, ?_, fun h0 => ?_⟩
  · rw [Int.natAbs_mul, Int.natAbs_natCast]
  · have hz : ¬ z * ((2 ^ m : Nat) : Int) = 0 := by
      rw [Int.mul_eq_zero]
      rintro (hh | hh)
      · exact h0 hh
      · omega
    rw [if_neg hz]
    have hp2 : (0 : Int) < ((2 ^ m : Nat) : Int) := by omega
    generalize ((2 ^ m : Nat) : Int) = p at *
    congr 1
    rw [eq_iff_iff]
    constructor
    · intro hh
      exact Classical.byContradiction fun hn => by
        have := Int.mul_nonneg (show 0 ≤ z by omega) (show 0 ≤ p by omega)
        omega
    · intro hh
      exact Int.mul_neg_of_neg_of_pos hh hp2
theorem RepD.toInt {x : Int} {d : Datum} (h : RepD x d) : d.toInt .zero = some x := by
  obtain ⟨s, k, rfl, hs⟩ := h
  have e1 : (-(k : Int)).toNat = 0 := by omega
  have e2 : (-(-(k : Int))).toNat = k := by omega
  have e3 := signed_rep hs 0 0
  rw [Nat.pow_zero, Nat.mul_one] at e3
  simp only [Datum.toInt, Datum.integral, e1, e2, Nat.shiftLeft_zero, cut_exact]
  rw [e3]
  simp
theorem rep_ofInt (n : Int) (h : n.natAbs < 9007199254740992) : Rep n (floatOfInt .f64 n) := by
  have : RepD n (.number (n < 0) n.natAbs 0) := ⟨decide (n < 0), 0, by simp, fun _ => rfl⟩
  exact this.write h
theorem rep_mul {x y : Int} {a b : Nat} (h : Rep x a) (h2 : Rep y b) (hx : (x * y).natAbs < 9007199254740992) : ∃ r, floatBits .mul .f64 a b = some r ∧ Rep (x * y) r := by
  obtain ⟨r, h3, h4⟩ := RepD.product h h2
  exact ⟨Ieee.double.write r, by show ((Ieee.double.read a).product (Ieee.double.read b)).map Ieee.double.write = _; rw [h3]; rfl, h4.write hx⟩
theorem rep_add {x y : Int} {a b : Nat} (h : Rep x a) (h2 : Rep y b) (hx : (x + y).natAbs < 9007199254740992) : ∃ r, floatBits .add .f64 a b = some r ∧ Rep (x + y) r := by
  obtain ⟨r, h3, h4⟩ := RepD.sum h h2
  exact ⟨Ieee.double.write r, by show ((Ieee.double.read a).sum (Ieee.double.read b)).map Ieee.double.write = _; rw [h3]; rfl, h4.write hx⟩
theorem rep_sub {x y : Int} {a b : Nat} (h : Rep x a) (h2 : Rep y b) (hx : (x - y).natAbs < 9007199254740992) : ∃ r, floatBits .sub .f64 a b = some r ∧ Rep (x - y) r := by
  obtain ⟨r, h3, h4⟩ := RepD.sum h (RepD.opposite h2)
  exact ⟨Ieee.double.write r, by show ((Ieee.double.read a).sum (Ieee.double.read b).opposite).map Ieee.double.write = _; rw [h3]; rfl, h4.write hx⟩
theorem rep_int {x : Int} {a : Nat} (h : Rep x a) (hx : -9223372036854775808 ≤ x ∧ x ≤ 9223372036854775807) : floatToIntVal .f64 a .i64 = some x := by
  have h3 : (FloatKind.f64.decode a).toInt .zero = some x := RepD.toInt h
  unfold floatToIntVal
  rw [h3]
  exact if_pos hx
/-- A complex number of whole parts. -/
def RepC (x y : Int) (a b : Nat) : Prop := Rep x a ∧ Rep y b
theorem repC_mul {x y u v : Int} {a b c d : Nat} (h : RepC x y a b) (h2 : RepC u v c d) (h3 : (x * u).natAbs < 9007199254740992) (h4 : (y * v).natAbs < 9007199254740992) (h5 : (x * u - y * v).natAbs < 9007199254740992)
    (h6 : (x * v).natAbs < 9007199254740992) (h7 : (y * u).natAbs < 9007199254740992) (h8 : (x * v + y * u).natAbs < 9007199254740992) : ∃ re im, cMulBits a b c d = some (re, im) ∧ RepC (x * u - y * v) (x * v + y * u) re im := by
  obtain ⟨r1, e1, k1⟩ := rep_mul h.1 h2.1 h3
  obtain ⟨r2, e2, k2⟩ := rep_mul h.2 h2.2 h4
  obtain ⟨r3, e3, k3⟩ := rep_sub k1 k2 h5
  obtain ⟨r4, e4, k4⟩ := rep_mul h.1 h2.2 h6
  obtain ⟨r5, e5, k5⟩ := rep_mul h.2 h2.1 h7
  obtain ⟨r6, e6, k6⟩ := rep_add k4 k5 h8
  exact ⟨r3, r6, by simp [cMulBits, e1, e2, e3, e4, e5, e6], k3, k6⟩
theorem repC_add {x y u v : Int} {a b c d : Nat} (h : RepC x y a b) (h2 : RepC u v c d) (h3 : (x + u).natAbs < 9007199254740992) (h4 : (y + v).natAbs < 9007199254740992) : ∃ re im, cSumBits .add .f64 a b c d = some (re, im) ∧ RepC (x + u) (y + v) re im := by
  obtain ⟨r1, e1, k1⟩ := rep_add h.1 h2.1 h3
  obtain ⟨r2, e2, k2⟩ := rep_add h.2 h2.2 h4
  exact ⟨r1, r2, by simp [cSumBits, e1, e2], k1, k2⟩
theorem repC_sub {x y u v : Int} {a b c d : Nat} (h : RepC x y a b) (h2 : RepC u v c d) (h3 : (x - u).natAbs < 9007199254740992) (h4 : (y - v).natAbs < 9007199254740992) : ∃ re im, cSumBits .sub .f64 a b c d = some (re, im) ∧ RepC (x - u) (y - v) re im := by
  obtain ⟨r1, e1, k1⟩ := rep_sub h.1 h2.1 h3
  obtain ⟨r2, e2, k2⟩ := rep_sub h.2 h2.2 h4
  exact ⟨r1, r2, by simp [cSumBits, e1, e2], k1, k2⟩
theorem read_neg (f : Format) (b : Nat) : f.read (b ^^^ 2 ^ (f.exponentBits + f.fractionBits)) = (f.read b).opposite := by
  have hS : f.signWeight = 2 ^ (f.exponentBits + f.fractionBits) := rfl
  generalize hn : f.exponentBits + f.fractionBits = n at *
  have hp := Nat.two_pow_pos n
  have h1 : ((b ^^^ 2 ^ n) / 2 ^ n % 2 == 1) = !(b / 2 ^ n % 2 == 1) := by
    rw [Nat.xor_div_two_pow, Nat.div_self hp]
    generalize b / 2 ^ n = c
    have e : (c ^^^ 1) % 2 = (c % 2) ^^^ 1 := by
      have := @Nat.xor_mod_two_pow c 1 1
      simpa using this
    rw [e]
    rcases Nat.mod_two_eq_zero_or_one c with h | h
    · rw [h]
      rfl
    · rw [h]
      rfl
  have h2 : (b ^^^ 2 ^ n) % 2 ^ n = b % 2 ^ n := by
    rw [Nat.xor_mod_two_pow, Nat.mod_self, Nat.xor_zero]
  unfold Format.read
  rw [hS]
  simp only [h1, h2]
  generalize b % 2 ^ n = R
  by_cases a1 : R < f.binade
  · rw [if_pos a1, if_pos a1]
    rfl
  · rw [if_neg a1, if_neg a1]
    by_cases a2 : R < f.infRung
    · rw [if_pos a2, if_pos a2]
      rfl
    · rw [if_neg a2, if_neg a2]
      by_cases a3 : R = f.infRung
      · rw [if_pos a3, if_pos a3]
        rfl
      · rw [if_neg a3, if_neg a3]
        rfl
theorem rep_neg {x : Int} {b : Nat} (h : Rep x b) : Rep (-x) (Op.negFloat .f64 b) := by
  have := RepD.opposite h
  rw [← read_neg] at this
  exact this
theorem unary_negF (k : FloatKind) (b : Nat) : Op.unary .neg (.float k b) = pure (.float k (Op.negFloat k b)) := rfl
/-- The square of a right point, by its complex number. -/
theorem repC_norm {x y : Int} {a b : Nat} (h : RepC x y a b) (hx : -2097152 ≤ x ∧ x ≤ 2097152) (hy : -2097152 ≤ y ∧ y ≤ 2097152) : ∃ re im, cMulBits a b a (Op.negFloat .f64 b) = some (re, im) ∧ floatToIntVal .f64 re .i64 = some (x * x + y * y) := by
  have q : ∀ u v : Int, -2097152 ≤ u ∧ u ≤ 2097152 → -2097152 ≤ v ∧ v ≤ 2097152 → -4398046511104 ≤ u * v ∧ u * v ≤ 4398046511104 := by
    intro u v hu hv
    have h1 : (u * v).natAbs ≤ 2097152 * 2097152 := by
      rw [Int.natAbs_mul]
      exact Nat.mul_le_mul (by omega) (by omega)
    omega
  have h1 := q x x hx hx
  have h2 := q y (-y) hy (by omega)
  have h3 := q x (-y) hx (by omega)
  have h4 := q y x hy hx
  have e : y * -y = -(y * y) := by rw [Int.mul_neg]
  obtain ⟨re, im, k1, k2⟩ := repC_mul h ⟨h.1, rep_neg h.2⟩ (by omega) (by omega) (by omega) (by omega) (by omega) (by omega)
  refine ⟨re, im, k1, ?_⟩
  have := rep_int k2.1 (by omega)
  rw [this, e, Int.sub_neg]

end Go.Hm
/- Contracts on points: point.number, point.Norm, ref06.Norm, ref06.sign. -/

namespace Go.Proofs.Ythmjbdpkdomofaa
open Go.RowKit Go.Hm
/-- A complex number of whole parts; nothing that was is turned. -/
def CpxPost (x y : Int) (w : World) (e : Ending) (w' : World) : Prop := ∃ a b, e = .returned (.complex .f64 a b) ∧ RepC x y a b ∧ New w w'
set_option maxHeartbeats 1000000 in
set_option maxRecDepth 100000 in
theorem number_any {w : World} {x y : Int} (hx : x.natAbs < 9007199254740992) (hy : y.natAbs < 9007199254740992) :
    Calls Try.prog 82 #[.agg #[.int .i64 x, .int .i64 y]] w (CpxPost x y w) := by
  obtain ⟨W0, hW0⟩ : ∃ W, W = w.alloc (.cells #[.int .i64 x, .int .i64 y] 51) := ⟨_, rfl⟩
  have b0 : New w W0 := by rw [hW0]; exact (Below.refl _ _).alloc (Nat.le_refl _) _
  have B0 : Blk W0 w.heap.size 51 #[.int .i64 x, .int .i64 y] := by rw [hW0]; exact Blk.new _ _ _
  obtain ⟨x0, x1⟩ := cells2 B0
  rw [hW0] at x0 x1
  have R := Lib.hid (show RepC x y (floatOfInt .f64 x) (floatOfInt .f64 y) from ⟨rep_ofInt x hx, rep_ofInt y hy⟩)
  clear B0 hx hy
  go_enter Try.func82, Try.ntmps82
  go_wp2
  go_ret
  exact ⟨_, _, rfl, R.out, by rw [← hW0]; exact b0⟩
set_option maxHeartbeats 1000000 in
set_option maxRecDepth 100000 in
theorem norm_any {w : World} {x y : Int} (hx : -2097152 ≤ x ∧ x ≤ 2097152) (hy : -2097152 ≤ y ∧ y ≤ 2097152) :
    Calls Try.prog 80 #[.agg #[.int .i64 x, .int .i64 y]] w (NewPost (.int .i64 (x * x + y * y)) w) := by
  obtain ⟨W0, hW0⟩ : ∃ W, W = w.alloc (.cells #[.int .i64 x, .int .i64 y] 51) := ⟨_, rfl⟩
  have b0 : New w W0 := by rw [hW0]; exact (Below.refl _ _).alloc (Nat.le_refl _) _
  have B0 : Blk W0 w.heap.size 51 #[.int .i64 x, .int .i64 y] := by rw [hW0]; exact Blk.new _ _ _
  obtain ⟨x0, x1⟩ := cells2 B0
  rw [hW0] at x0 x1
  have P := Lib.hid (number_any (w := W0) (x := x) (y := y) (by omega) (by omega))
  have KN := Lib.hid (fun (a b : Nat) (h : RepC x y a b) => repC_norm h hx hy)
  have HW := Lib.hid hW0
  have HB := Lib.hid b0
  clear B0 hx hy hW0 b0
  go_enter Try.func80, Try.ntmps80
  go_wp2_with fail
  rw [← HW.out]
  refine P.out.mono ?_
  rintro e w1 ⟨a, b, rfl, hr, b1⟩
  obtain ⟨re, im, e1, e2⟩ := KN.out a b hr
  have u := unary_negF .f64 b
  have m := fun w : World => run_complex_mul (P := Try.prog) w 101 a b a (Op.negFloat .f64 b) re im e1
  have f := fun w : World => run_convert_float_int (P := Try.prog) w 103 3 .f64 .i64 re _ (by kernel_rfl) (by kernel_rfl) e2
  clear x0 x1 e1 e2 hr P KN
  go_wp2
  go_ret
  exact ⟨rfl, New.trans HB.out b1⟩

end Go.Proofs.Ythmjbdpkdomofaa
/- Contracts on cmp.Or, point.Compare, ref06.Norm, ref06.sign, ref06.Compare. -/

namespace Go.Hm
open Go Go.RowKit
/-- The first of these that is not 0. -/
def orI : List Int → Int
  | [] => 0
  | x :: l => if x = 0 then orI l else x
theorem orI_at {l : List Int} {k : Nat} (h : ∀ j, j < k → l.getD j 0 = 0) (hk : k < l.length) (hn : l.getD k 0 ≠ 0) : orI l = l.getD k 0 := by
  induction l generalizing k with
  | nil => simp at hk
  | cons x l ih =>
    cases k with
    | zero =>
      have : x ≠ 0 := by simpa using hn
      simp [orI, this]
    | succ k =>
      have hx : x = 0 := by simpa using h 0 (by omega)
      have := ih (k := k) (fun j hj => by simpa using h (j + 1) (by omega)) (by simpa using hk) (by simpa using hn)
      simp [orI, hx, this]
theorem orI_none {l : List Int} (h : ∀ j, j < l.length → l.getD j 0 = 0) : orI l = 0 := by
  induction l with
  | nil => rfl
  | cons x l ih =>
    have hx : x = 0 := by simpa using h 0 (by simp)
    have := ih (fun j hj => by simpa using h (j + 1) (by simpa using hj))
    simp [orI, hx, this]
/-- Which of two points is ahead. -/
def cmpP (x y u v : Int) : Int := orI [cmpI (x * x + y * y) (u * u + v * v), cmpI x u, cmpI y v]
theorem sq_le {u v : Int} (hu : -2097152 ≤ u ∧ u ≤ 2097152) (hv : -2097152 ≤ v ∧ v ≤ 2097152) : -4398046511104 ≤ u * v ∧ u * v ≤ 4398046511104 := by
  have h1 : (u * v).natAbs ≤ 2097152 * 2097152 := by
    rw [Int.natAbs_mul]
    exact Nat.mul_le_mul (by omega) (by omega)
  omega
theorem cmpI_ne {x y : Int} (h : x ≠ y) : cmpI x y ≠ 0 := by
  unfold cmpI
  split
  · simp
  · split
    · simp
    · omega
theorem cmpI_self (x : Int) : cmpI x x = 0 := by simp [cmpI]

end Go.Hm

namespace Go.Proofs.Ythmjbdpkdomofaa
open Go.RowKit Go.Hm
set_option maxHeartbeats 1000000 in
set_option maxRecDepth 100000 in
theorem or_any {w : World} {A : Option Addr} {n c : Nat} {l : List Int} (h : Reads w w.heap.size 1 A n (ints .i64 l)) (hn : n ≤ 4611686018427387903) :
    Calls Try.prog 79 #[.slice A n c] w (ValPost (.int .i64 (orI l)) w) := by
  obtain rfl := h.lenI
  have K1 := Lib.hid (fun (k : Nat) (h : ∀ j, j < k → l.getD j 0 = 0) (hk : k < l.length) (hn : l.getD k 0 ≠ 0) => orI_at h hk hn)
  have K2 := Lib.hid (fun (h : ∀ j, j < l.length → l.getD j 0 = 0) => orI_none h)
  generalize orI l = O at *
  go_enter Try.func79, Try.ntmps79
  go_wp2
  go_loop [8] (fun i => ∃ k : Nat, k ≤ l.length ∧ i = .int .i64 (k : Int) ∧ Hid (∀ j, j < k → l.getD j 0 = 0)) (fun i => l.length - (intOf i).toNat)
  case atStart => exact ⟨0, by omega, rfl, Lib.hid (by intro j hj; omega)⟩
  case round =>
    obtain ⟨k, hk, rfl, H⟩ := hrel
    by_cases hlt : k < l.length
    · obtain ⟨ad, rfl, hbk, hcell⟩ := h.int hlt
      have M1 := Lib.hid (fun (hn : l.getD k 0 ≠ 0) => K1.out k H.out hlt hn)
      have M0 := Lib.hid (fun (hz : l.getD k 0 = 0) => show ∀ j, j < k + 1 → l.getD j 0 = 0 by
        intro j hj
        rcases Nat.lt_succ_iff_lt_or_eq.1 hj with hj | rfl
        · exact H.out j hj
        · exact hz)
      generalize l.getD k 0 = x at *
      by_cases hx : x = 0
      · have M2 := Lib.hid (M0.out hx)
        subst hx
        clear M0 M1 K1 H
        go_wp2
        go_round
        case rel => exact ⟨k + 1, by omega, by go_num, M2⟩
        case measure => simp [intOf]; omega
      · have M2 := Lib.hid (M1.out hx)
        have e1 : (x != 0) = true := by simpa using hx
        clear M0 M1 K1 H hx
        go_wp2
        go_ret
        exact ⟨by rw [M2.out]; rfl, rfl⟩
    · obtain rfl : k = l.length := by omega
      have M2 := Lib.hid (K2.out H.out)
      clear K1 K2 H hlt
      go_wp2
      go_ret
      exact ⟨by rw [M2.out]; rfl, rfl⟩
set_option maxHeartbeats 2000000 in
set_option maxRecDepth 100000 in
theorem pcompare_any {w : World} {x y u v : Int} (hx : -2097152 ≤ x ∧ x ≤ 2097152) (hy : -2097152 ≤ y ∧ y ≤ 2097152) (hu : -2097152 ≤ u ∧ u ≤ 2097152) (hv : -2097152 ≤ v ∧ v ≤ 2097152) :
    Calls Try.prog 75 #[.agg #[.int .i64 x, .int .i64 y], .agg #[.int .i64 u, .int .i64 v]] w (NewPost (.int .i64 (cmpP x y u v)) w) := by
  obtain ⟨W0, hW0⟩ : ∃ W, W = (w.alloc (.cells #[.int .i64 x, .int .i64 y] 51)).alloc (.cells #[.int .i64 u, .int .i64 v] 51) := ⟨_, rfl⟩
  have b0 : New w W0 := by rw [hW0]; exact ((Below.refl _ _).alloc (Nat.le_refl _) _).alloc (by simp) _
  have B0 : Blk W0 w.heap.size 51 #[.int .i64 x, .int .i64 y] := by rw [hW0]; exact (Blk.new _ _ _).alloc _
  have C0 : Blk W0 (w.heap.size + 1) 51 #[.int .i64 u, .int .i64 v] := by
    rw [hW0]
    have := Blk.new (w.alloc (.cells #[.int .i64 x, .int .i64 y] 51)) 51 #[.int .i64 u, .int .i64 v]
    simpa using this
  have F1 := Lib.hid (fun (W : World) (hW : New W0 W) => cells2 (B0.below hW B0.lt))
  have F2 := Lib.hid (fun (W : World) (hW : New W0 W) => cells2 (C0.below hW C0.lt))
  have P1 := Lib.hid (fun (W : World) => norm_any (w := W) hx hy)
  have P2 := Lib.hid (fun (W : World) => norm_any (w := W) hu hv)
  have HW := Lib.hid hW0
  have HB := Lib.hid b0
  have HO := Lib.hid (show cmpP x y u v = orI [cmpI (x * x + y * y) (u * u + v * v), cmpI x u, cmpI y v] from rfl)
  generalize cmpP x y u v = O at *
  generalize x * x + y * y = nx at *
  generalize u * u + v * v = nu at *
  clear B0 C0 hx hy hu hv hW0 b0
  go_enter Try.func75, Try.ntmps75
  go_wp2_with fail
  rw [← HW.out]
  refine wp_region_up New [(true, 0), (true, 2), (true, 5), (true, 6), (true, 7), (true, 8), (true, 10), (true, 11), (true, 12), (true, 13), (false, 1), (false, 3), (false, 4), (false, 9), (false, 14), (false, 15), (false, 16), (true, 17)]
    New.refl New.trans (by kernel_rfl) (by kernel_rfl) (by kernel_rfl) (by kernel_rfl) ?_
  have hU := New.drew W0
  repeat (first
    | (refine up_quiet rfl rfl (v := ?_) (fun W hW => ?_) ?_; rotate_left; (obtain ⟨x0, x1⟩ := F1.out W (New.trans hU hW); obtain ⟨y0, y1⟩ := F2.out W (New.trans hU hW); go_simp <;> with_reducible rfl); simp only [Act.put, List.setIfInBounds_toArray, List.set_cons_zero, List.set_cons_succ])
    | (refine up_call rfl rfl (fun K hK => ?_); go_simp
       first
         | (with_reducible refine (P1.out _).mono ?_)
         | (with_reducible refine (P2.out _).mono ?_)
       rintro e w9 ⟨rfl, c⟩
       refine hK _ _ c ?_
       clear hK
       replace hU := New.trans hU c)
    | (refine up_call rfl rfl (fun K hK => ?_); go_simp
       (with_reducible refine cmpI_any.mono ?_)
       rintro e w9 ⟨rfl, rfl⟩
       refine hK _ _ (New.refl _) ?_
       clear hK))
  have bA : New w9 (w9.alloc (.cells #[.int .i64 (cmpI nx nu), .int .i64 (cmpI x u), .int .i64 (cmpI y v)] 3)) := (Below.refl _ _).alloc (Nat.le_refl _) _
  have RL := Lib.hid (or_any (c := 3) (Reads.litV w9 3 #[.int .i64 (cmpI nx nu), .int .i64 (cmpI x u), .int .i64 (cmpI y v)] 3 (ints .i64 [cmpI nx nu, cmpI x u, cmpI y v]) rfl rfl) (by omega))
  rw [← HO.out] at RL
  refine up_call rfl rfl (fun K hK => ?_)
  go_simp
  refine hK _ _ bA ?_
  clear hK
  refine up_call rfl rfl (fun K hK => ?_)
  go_simp
  refine RL.out.mono ?_
  rintro e w8 ⟨rfl, rfl⟩
  refine hK _ _ (New.refl _) ?_
  clear hK
  replace hU := New.trans hU bA
  refine up_quiet rfl rfl (v := ?_) (fun W hW => ?_) ?_
  rotate_left
  · go_simp <;> with_reducible rfl
  simp only [Act.put, List.setIfInBounds_toArray, List.set_cons_zero, List.set_cons_succ]
  refine up_nil ?_
  go_wp2
  go_ret
  exact ⟨rfl, New.trans HB.out hU⟩
set_option maxHeartbeats 1000000 in
set_option maxRecDepth 100000 in
theorem rnorm_any {w : World} {x y : Int} (hx : -2097152 ≤ x ∧ x ≤ 2097152) (hy : -2097152 ≤ y ∧ y ≤ 2097152) :
    Calls Try.prog 69 #[.agg #[.int .i64 x, .int .i64 y]] w (NewPost (.int .i64 (x * x + y * y)) w) := by
  have b0 : New w (w.alloc (.cells #[.int .i64 x, .int .i64 y] 51)) := (Below.refl _ _).alloc (Nat.le_refl _) _
  obtain ⟨x0, x1⟩ := cells2 (Blk.new w 51 #[.int .i64 x, .int .i64 y])
  have h1 := sq_le hx hx
  have h2 := sq_le hy hy
  have w1 : IntKind.i64.wrap (x * x) = x * x := by rw [IntKind.wrap_i64]; omega
  have w2 : IntKind.i64.wrap (y * y) = y * y := by rw [IntKind.wrap_i64]; omega
  have w3 : IntKind.i64.wrap (x * x + y * y) = x * x + y * y := by rw [IntKind.wrap_i64]; omega
  clear h1 h2 hx hy
  go_enter Try.func69, Try.ntmps69
  go_wp2
  go_ret
  exact ⟨rfl, b0⟩
set_option maxRecDepth 100000 in
theorem rsign_any {w : World} {x y : Int} : Calls Try.prog 70 #[.int .i64 x, .int .i64 y] w (ValPost (.int .i64 (cmpI x y)) w) := by
  have K1 := Lib.hid (fun (h : x < y) => show cmpI x y = -1 by rw [cmpI, if_pos h])
  have K2 := Lib.hid (fun (h : ¬ x < y) (h2 : y < x) => show cmpI x y = 1 by rw [cmpI, if_neg h, if_pos h2])
  have K3 := Lib.hid (fun (h : ¬ x < y) (h2 : ¬ y < x) => show cmpI x y = 0 by rw [cmpI, if_neg h, if_neg h2])
  generalize cmpI x y = O at *
  by_cases h1 : x < y
  · have O1 := Lib.hid (K1.out h1)
    clear K1 K2 K3
    go_enter Try.func70, Try.ntmps70
    go_wp2
    go_ret
    exact ⟨by rw [O1.out]; rfl, rfl⟩
  · by_cases h2 : y < x
    · have O1 := Lib.hid (K2.out h1 h2)
      clear K1 K2 K3
      go_enter Try.func70, Try.ntmps70
      go_wp2
      go_ret
      exact ⟨by rw [O1.out]; rfl, rfl⟩
    · have O1 := Lib.hid (K3.out h1 h2)
      clear K1 K2 K3
      go_enter Try.func70, Try.ntmps70
      go_wp2
      go_ret
      exact ⟨by rw [O1.out]; rfl, rfl⟩
set_option maxHeartbeats 2000000 in
set_option maxRecDepth 100000 in
theorem rpcompare_any {w : World} {x y u v : Int} (hx : -2097152 ≤ x ∧ x ≤ 2097152) (hy : -2097152 ≤ y ∧ y ≤ 2097152) (hu : -2097152 ≤ u ∧ u ≤ 2097152) (hv : -2097152 ≤ v ∧ v ≤ 2097152) :
    Calls Try.prog 66 #[.agg #[.int .i64 x, .int .i64 y], .agg #[.int .i64 u, .int .i64 v]] w (NewPost (.int .i64 (cmpP x y u v)) w) := by
  obtain ⟨W0, hW0⟩ : ∃ W, W = (w.alloc (.cells #[.int .i64 x, .int .i64 y] 51)).alloc (.cells #[.int .i64 u, .int .i64 v] 51) := ⟨_, rfl⟩
  have b0 : New w W0 := by rw [hW0]; exact ((Below.refl _ _).alloc (Nat.le_refl _) _).alloc (by simp) _
  have B0 : Blk W0 w.heap.size 51 #[.int .i64 x, .int .i64 y] := by rw [hW0]; exact (Blk.new _ _ _).alloc _
  have C0 : Blk W0 (w.heap.size + 1) 51 #[.int .i64 u, .int .i64 v] := by
    rw [hW0]
    have := Blk.new (w.alloc (.cells #[.int .i64 x, .int .i64 y] 51)) 51 #[.int .i64 u, .int .i64 v]
    simpa using this
  have F1 := Lib.hid (fun (W : World) (hW : New W0 W) => cells2 (B0.below hW B0.lt))
  have F2 := Lib.hid (fun (W : World) (hW : New W0 W) => cells2 (C0.below hW C0.lt))
  have P1 := Lib.hid (fun (W : World) => rnorm_any (w := W) hx hy)
  have P2 := Lib.hid (fun (W : World) => rnorm_any (w := W) hu hv)
  have HW := Lib.hid hW0
  have HB := Lib.hid b0
  have HO := Lib.hid (show cmpP x y u v = orI [cmpI (x * x + y * y) (u * u + v * v), cmpI x u, cmpI y v] from rfl)
  generalize cmpP x y u v = O at *
  generalize x * x + y * y = nx at *
  generalize u * u + v * v = nu at *
  clear B0 C0 hx hy hu hv hW0 b0
  go_enter Try.func66, Try.ntmps66
  go_wp2_with fail
  rw [← HW.out]
  refine wp_region_up New [(true, 0), (true, 2), (false, 1), (false, 3), (true, 4)]
    New.refl New.trans (by kernel_rfl) (by kernel_rfl) (by kernel_rfl) (by kernel_rfl) ?_
  have hU := New.drew W0
  repeat (first
    | (refine up_quiet rfl rfl (v := ?_) (fun W hW => ?_) ?_; rotate_left; (obtain ⟨x0, x1⟩ := F1.out W (New.trans hU hW); obtain ⟨y0, y1⟩ := F2.out W (New.trans hU hW); go_simp <;> with_reducible rfl); simp only [Act.put, List.setIfInBounds_toArray, List.set_cons_zero, List.set_cons_succ])
    | (refine up_call rfl rfl (fun K hK => ?_); go_simp
       first
         | (with_reducible refine (P1.out _).mono ?_)
         | (with_reducible refine (P2.out _).mono ?_)
       rintro e w9 ⟨rfl, c⟩
       refine hK _ _ c ?_
       clear hK
       replace hU := New.trans hU c))
  refine up_nil ?_
  by_cases hn : nx = nu
  · have e1 : (nx != nu) = false := by simp [hn]
    have HO2 : Hid (O = orI [cmpI x u, cmpI y v]) := Lib.hid (by rw [HO.out, hn, cmpI_self]; rfl)
    clear HO hn
    obtain ⟨x0, x1⟩ := F1.out _ hU
    obtain ⟨y0, y1⟩ := F2.out _ hU
    by_cases hxu : x = u
    · have e2 : (x != u) = false := by simp [hxu]
      have HO3 : Hid (O = cmpI y v) := Lib.hid (by rw [HO2.out, hxu, cmpI_self]; by_cases h : cmpI y v = 0 <;> simp [orI, h])
      clear HO2 hxu
      go_wp2_with (go_at_call 70; refine rsign_any.mono ?_; rintro e w' ⟨rfl, rfl⟩)
      go_ret
      exact ⟨by rw [HO3.out]; rfl, New.trans HB.out hU⟩
    · have e2 : (x != u) = true := by simp [hxu]
      have HO3 : Hid (O = cmpI x u) := Lib.hid (by rw [HO2.out, orI, if_neg (cmpI_ne hxu)])
      clear HO2 hxu
      go_wp2_with (go_at_call 70; refine rsign_any.mono ?_; rintro e w' ⟨rfl, rfl⟩)
      go_ret
      exact ⟨by rw [HO3.out]; rfl, New.trans HB.out hU⟩
  · have e1 : (nx != nu) = true := by simp [hn]
    have HO2 : Hid (O = cmpI nx nu) := Lib.hid (by rw [HO.out, orI, if_neg (cmpI_ne hn)])
    clear HO hn
    go_wp2_with fail
    have hV := hU
    refine wp_region_up New [(true, 0), (true, 2), (false, 1), (false, 3), (false, 4), (true, 5)]
      New.refl New.trans (by kernel_rfl) (by kernel_rfl) (by kernel_rfl) (by kernel_rfl) ?_
    replace hU := New.trans hU (New.drew _)
    repeat (first
      | (refine up_quiet rfl rfl (v := ?_) (fun W hW => ?_) ?_; rotate_left; (obtain ⟨x0, x1⟩ := F1.out W (New.trans hU hW); obtain ⟨y0, y1⟩ := F2.out W (New.trans hU hW); go_simp <;> with_reducible rfl); simp only [Act.put, List.setIfInBounds_toArray, List.set_cons_zero, List.set_cons_succ])
      | (refine up_call rfl rfl (fun K hK => ?_); go_simp
         first
           | (with_reducible refine (P1.out _).mono ?_)
           | (with_reducible refine (P2.out _).mono ?_)
         rintro e w9 ⟨rfl, c⟩
         refine hK _ _ c ?_
         clear hK
         replace hU := New.trans hU c)
      | (refine up_call rfl rfl (fun K hK => ?_); go_simp
         (with_reducible refine rsign_any.mono ?_)
         rintro e w9 ⟨rfl, rfl⟩
         refine hK _ _ (New.refl _) ?_
         clear hK))
    refine up_nil ?_
    go_wp2
    go_ret
    exact ⟨by rw [HO2.out]; rfl, New.trans HB.out hU⟩

end Go.Proofs.Ythmjbdpkdomofaa
/- Contracts on cell.Compare and ref07.Compare, of any type. -/

namespace Go.Hm
open Go Go.RowKit
theorem cb_less : ∀ a b : List UInt8, Lib.compareBytes a b = if Op.bytesLess a b = true then -1 else if a = b then 0 else 1
  | [], [] => by simp [Lib.compareBytes, Op.bytesLess]
  | [], _ :: _ => by simp [Lib.compareBytes, Op.bytesLess]
  | _ :: _, [] => by simp [Lib.compareBytes, Op.bytesLess]
  | x :: a, y :: b => by
    have ih := cb_less a b
    have h3 := UInt8.lt_irrefl x
    by_cases h1 : x < y
    · simp [Lib.compareBytes, Op.bytesLess, h1]
    · by_cases h2 : y < x
      · have hne : x ≠ y := by rintro rfl; exact h1 h2
        simp [Lib.compareBytes, Op.bytesLess, h1, h2, hne]
      · have he : x = y := UInt8.le_antisymm (UInt8.not_lt.1 h2) (UInt8.not_lt.1 h1)
        subst he
        simp [Lib.compareBytes, Op.bytesLess, ih]
theorem cmpT_less (a b : List Nat) : cmpT a b = if Op.bytesLess (bstr a).toList (bstr b).toList = true then -1 else if (bstr a).toList == (bstr b).toList then 0 else 1 := by
  have e : ∀ l : List Nat, (bstr l).toList = l.map UInt8.ofNat := fun l => by rw [Lib.toList_data]; rfl
  rw [cmpT, cb_less, e, e]
  simp
/-- Which of two cells is ahead. -/
def cmpD (t : Int) (a b : CellS) : Int := if a.1 || b.1 then cmpN a.1 b.1 else if t = 0 ∨ t = 1 then cmpI a.2.1 b.2.1 else if t = 2 then cmpT a.2.2.1 b.2.2.1 else if t = 3 then cmpP a.2.2.2.1 a.2.2.2.2 b.2.2.2.1 b.2.2.2.2 else 0
theorem cmpD_C {t : Int} {a b : CellS} (h : ¬ (t = 3 ∧ a.1 = false ∧ b.1 = false)) : cmpD t a b = cmpC t a b := by
  unfold cmpD cmpC
  by_cases h1 : (a.1 || b.1) = true
  · rw [if_pos h1, if_pos h1]
  · rw [if_neg h1, if_neg h1]
    have h3 : ¬ t = 3 := fun e => h ⟨e, by simp_all, by simp_all⟩
    simp [h3]
/-- Both points are near. -/
def nearP (x y u v : Int) : Prop := (-2097152 ≤ x ∧ x ≤ 2097152) ∧ (-2097152 ≤ y ∧ y ≤ 2097152) ∧ (-2097152 ≤ u ∧ u ≤ 2097152) ∧ (-2097152 ≤ v ∧ v ≤ 2097152)

end Go.Hm

namespace Go.Proofs.Ythmjbdpkdomofaa
open Go.RowKit Go.Hm
set_option maxHeartbeats 2000000 in
set_option maxRecDepth 100000 in
theorem compareD_any {w : World} {t : Int} {a b : Bool} {n m : Int} {s r : List Nat} {x y x2 y2 : Int} (hp : nearP x y x2 y2) :
    Calls Try.prog 68 #[.int .i64 t, .agg #[.bool a, .int .i64 n, .string (bstr s), .int .i64 x, .int .i64 y], .agg #[.bool b, .int .i64 m, .string (bstr r), .int .i64 x2, .int .i64 y2]] w (NewPost (.int .i64 (cmpD t (a, n, s, x, y) (b, m, r, x2, y2))) w) := by
  by_cases h3 : t = 3 ∧ a = false ∧ b = false
  · obtain ⟨rfl, rfl, rfl⟩ := h3
    have hO : cmpD 3 (false, n, s, x, y) (false, m, r, x2, y2) = cmpP x y x2 y2 := by simp [cmpD]
    rw [hO]
    have P := Lib.hid (fun (W : World) => pcompare_any (w := W) hp.1 hp.2.1 hp.2.2.1 hp.2.2.2)
    have B0 := Blk.new w 53 #[.bool false, .int .i64 n, .string (bstr s), .int .i64 x, .int .i64 y]
    have B1 := Blk.new (w.alloc (.cells #[.bool false, .int .i64 n, .string (bstr s), .int .i64 x, .int .i64 y] 53)) 53 #[.bool false, .int .i64 m, .string (bstr r), .int .i64 x2, .int .i64 y2]
    obtain ⟨x0, x1, x2', x3, x4⟩ := cells5 (B0.alloc (.cells #[.bool false, .int .i64 m, .string (bstr r), .int .i64 x2, .int .i64 y2] 53))
    obtain ⟨y0, y1, y2', y3, y4⟩ := cells5 B1
    clear B0 B1 hO hp
    go_enter Try.func68, Try.ntmps68
    go_wp2_with (go_at_call 75; refine (P.out _).mono ?_; rintro e w' ⟨rfl, b1⟩)
    go_ret
    exact ⟨rfl, New.trans (new2 w _ _) b1⟩
  · rw [cmpD_C h3]
    exact compare_any h3
set_option maxRecDepth 100000 in
theorem rints_any {w : World} {x y : Int} : Calls Try.prog 65 #[.int .i64 x, .int .i64 y] w (ValPost (.int .i64 (cmpI x y)) w) := by
  have K1 := Lib.hid (fun (h : x < y) => show cmpI x y = -1 by rw [cmpI, if_pos h])
  have K2 := Lib.hid (fun (h : ¬ x < y) (h2 : y < x) => show cmpI x y = 1 by rw [cmpI, if_neg h, if_pos h2])
  have K3 := Lib.hid (fun (h : ¬ x < y) (h2 : ¬ y < x) => show cmpI x y = 0 by rw [cmpI, if_neg h, if_neg h2])
  generalize cmpI x y = O at *
  by_cases h1 : x < y
  · have O1 := Lib.hid (K1.out h1)
    clear K1 K2 K3
    go_enter Try.func65, Try.ntmps65
    go_wp2
    go_ret
    exact ⟨by rw [O1.out]; rfl, rfl⟩
  · by_cases h2 : y < x
    · have O1 := Lib.hid (K2.out h1 h2)
      clear K1 K2 K3
      go_enter Try.func65, Try.ntmps65
      go_wp2
      go_ret
      exact ⟨by rw [O1.out]; rfl, rfl⟩
    · have O1 := Lib.hid (K3.out h1 h2)
      clear K1 K2 K3
      go_enter Try.func65, Try.ntmps65
      go_wp2
      go_ret
      exact ⟨by rw [O1.out]; rfl, rfl⟩
set_option maxHeartbeats 4000000 in
set_option maxRecDepth 100000 in
theorem rcompareD_any {w : World} {t : Int} {a b : Bool} {n m : Int} {s r : List Nat} {x y x2 y2 : Int} (hp : nearP x y x2 y2) :
    Calls Try.prog 62 #[.int .i64 t, .agg #[.bool a, .int .i64 n, .string (bstr s), .int .i64 x, .int .i64 y], .agg #[.bool b, .int .i64 m, .string (bstr r), .int .i64 x2, .int .i64 y2]] w (NewPost (.int .i64 (cmpD t (a, n, s, x, y) (b, m, r, x2, y2))) w) := by
  have P := Lib.hid (fun (W : World) => rpcompare_any (w := W) hp.1 hp.2.1 hp.2.2.1 hp.2.2.2)
  have B0 := Blk.new w 53 #[.bool a, .int .i64 n, .string (bstr s), .int .i64 x, .int .i64 y]
  have B1 := Blk.new (w.alloc (.cells #[.bool a, .int .i64 n, .string (bstr s), .int .i64 x, .int .i64 y] 53)) 53 #[.bool b, .int .i64 m, .string (bstr r), .int .i64 x2, .int .i64 y2]
  obtain ⟨x0, x1, x2', x3, x4⟩ := cells5 (B0.alloc (.cells #[.bool b, .int .i64 m, .string (bstr r), .int .i64 x2, .int .i64 y2] 53))
  obtain ⟨y0, y1, y2', y3, y4⟩ := cells5 B1
  have HT := Lib.hid (cmpT_less s r)
  have HO := Lib.hid (show cmpD t (a, n, s, x, y) (b, m, r, x2, y2) = (if a || b then cmpN a b else if t = 0 ∨ t = 1 then cmpI n m else if t = 2 then cmpT s r else if t = 3 then cmpP x y x2 y2 else 0) from rfl)
  generalize cmpD t (a, n, s, x, y) (b, m, r, x2, y2) = O at *
  generalize cmpT s r = T at *
  generalize cmpP x y x2 y2 = PP at *
  generalize h1 : Op.bytesLess (bstr s).toList (bstr r).toList = L1 at *
  generalize h2 : ((bstr s).toList == (bstr r).toList) = L2 at *
  clear B0 B1 hp
  cases L1 <;> cases L2
  all_goals cases a <;> cases b
  all_goals
    go_enter Try.func62, Try.ntmps62
    go_wp2_with (first
      | (go_at_call 65; refine rints_any.mono ?_; rintro e w' ⟨rfl, rfl⟩)
      | (go_at_call 66; refine (P.out _).mono ?_; rintro e w' ⟨rfl, b1⟩))
  all_goals go_ret
  all_goals try refine ⟨?_, new2 w _ _⟩
  all_goals try refine ⟨?_, New.trans (new2 w _ _) (by assumption)⟩
  all_goals
    rw [HO.out]
    try rw [HT.out]
    clear x0 x1 x2' x3 x4 y0 y1 y2' y3 y4 HO HT P
    simp_all [cmpN]

end Go.Proofs.Ythmjbdpkdomofaa
/- Plain facts of the order of numbers and points. No program is named here. -/

namespace Go.Hm
open Go Go.RowKit
theorem cmpI_le {x y : Int} : cmpI x y ≤ 0 ↔ x ≤ y := by
  unfold cmpI
  split
  · omega
  · split <;> omega
theorem cmpI_zero {x y : Int} : cmpI x y = 0 ↔ x = y := by
  unfold cmpI
  split
  · omega
  · split <;> omega
theorem cmpI_neg (x y : Int) : cmpI y x = -cmpI x y := by
  unfold cmpI
  by_cases h1 : x < y
  · rw [if_pos h1, if_neg (by omega), if_pos h1]; rfl
  · by_cases h2 : y < x
    · rw [if_pos h2, if_neg h1, if_pos h2]
    · rw [if_neg h2, if_neg h1, if_neg h1, if_neg h2]; rfl
theorem orI3 (a b c : Int) : orI [a, b, c] = if a = 0 then (if b = 0 then c else b) else a := by
  simp only [orI]
  by_cases h1 : a = 0 <;> by_cases h2 : b = 0 <;> by_cases h3 : c = 0 <;> simp [h1, h2, h3]
theorem cmpP_neg (x y u v : Int) : cmpP u v x y = -cmpP x y u v := by
  unfold cmpP
  rw [cmpI_neg (x * x + y * y), cmpI_neg x, cmpI_neg y, orI3, orI3]
  by_cases h1 : cmpI (x * x + y * y) (u * u + v * v) = 0
  · rw [if_pos (by omega), if_pos h1]
    by_cases h2 : cmpI x u = 0
    · rw [if_pos (by omega), if_pos h2]
    · rw [if_neg (by omega), if_neg h2]
  · rw [if_neg (by omega), if_neg h1]
theorem cmpP_zero {x y u v : Int} : cmpP x y u v = 0 ↔ x = u ∧ y = v := by
  unfold cmpP
  rw [orI3]
  constructor
  · intro h
    split at h
    · split at h
      · rename_i h1 h2
        exact ⟨cmpI_zero.1 h2, cmpI_zero.1 h⟩
      · rename_i h1 h2
        exact absurd h h2
    · rename_i h1
      exact absurd h h1
  · rintro ⟨rfl, rfl⟩
    simp [cmpI_self]
theorem cmpP_le {x y u v : Int} : cmpP x y u v ≤ 0 ↔ x * x + y * y < u * u + v * v ∨ (x * x + y * y = u * u + v * v ∧ (x < u ∨ (x = u ∧ y ≤ v))) := by
  unfold cmpP
  rw [orI3]
  generalize x * x + y * y = n
  generalize u * u + v * v = m
  have a1 := @cmpI_le n m
  have a2 := @cmpI_zero n m
  have b1 := @cmpI_le x u
  have b2 := @cmpI_zero x u
  have c1 := @cmpI_le y v
  split
  · split
    · omega
    · omega
  · omega
theorem cmpP_trans {x y u v r s : Int} (h1 : cmpP x y u v ≤ 0) (h2 : cmpP u v r s ≤ 0) : cmpP x y r s ≤ 0 := by
  rw [cmpP_le] at *
  generalize x * x + y * y = n at *
  generalize u * u + v * v = m at *
  generalize r * r + s * s = k at *
  omega
theorem cmpP_one (x y u v : Int) : cmpP x y u v = -1 ∨ cmpP x y u v = 0 ∨ cmpP x y u v = 1 := by
  have q : ∀ a b : Int, cmpI a b = -1 ∨ cmpI a b = 0 ∨ cmpI a b = 1 := by
    intro a b
    unfold cmpI
    split
    · simp
    · split <;> simp
  unfold cmpP
  rw [orI3]
  split
  · split
    · exact q _ _
    · exact q _ _
  · exact q _ _
theorem cmpP_least (x y : Int) : cmpP 0 0 x y ≤ 0 := by
  rw [cmpP_le]
  have h1 : 0 ≤ x * x := by
    rcases Int.le_total 0 x with h | h
    · exact Int.mul_nonneg h h
    · exact Int.mul_nonneg_of_nonpos_of_nonpos h h
  have h2 : 0 ≤ y * y := by
    rcases Int.le_total 0 y with h | h
    · exact Int.mul_nonneg h h
    · exact Int.mul_nonneg_of_nonpos_of_nonpos h h
  by_cases h : x * x + y * y = 0
  · have hx : x = 0 := by
      have : x * x = 0 := by omega
      rcases Int.mul_eq_zero.1 this with h | h <;> exact h
    have hy : y = 0 := by
      have : y * y = 0 := by omega
      rcases Int.mul_eq_zero.1 this with h | h <;> exact h
    subst hx hy
    simp
  · left
    simp
    omega

end Go.Hm
/- Plain facts of the order of cells. -/

namespace Go.Hm
open Go Go.RowKit
theorem cb_neg : ∀ a b : List UInt8, Lib.compareBytes b a = -Lib.compareBytes a b
  | [], [] => by simp [Lib.compareBytes]
  | [], _ :: _ => by simp [Lib.compareBytes]
  | _ :: _, [] => by simp [Lib.compareBytes]
  | x :: a, y :: b => by
    have ih := cb_neg a b
    unfold Lib.compareBytes
    by_cases h1 : x < y
    · have h2 : ¬ y < x := fun h => UInt8.lt_irrefl _ (UInt8.lt_trans h h1)
      rw [if_neg h2, if_pos h1, if_pos h1]; rfl
    · by_cases h2 : y < x
      · rw [if_pos h2, if_neg h1, if_pos h2]
      · rw [if_neg h2, if_neg h1, if_neg h1, if_neg h2, ih]
theorem cb_zero : ∀ a b : List UInt8, Lib.compareBytes a b = 0 ↔ a = b
  | [], [] => by simp [Lib.compareBytes]
  | [], _ :: _ => by simp [Lib.compareBytes]
  | _ :: _, [] => by simp [Lib.compareBytes]
  | x :: a, y :: b => by
    have ih := cb_zero a b
    unfold Lib.compareBytes
    by_cases h1 : x < y
    · have hne : x ≠ y := by rintro rfl; exact UInt8.lt_irrefl _ h1
      rw [if_pos h1]
      simp [hne]
    · by_cases h2 : y < x
      · have hne : x ≠ y := by rintro rfl; exact h1 h2
        rw [if_neg h1, if_pos h2]
        simp [hne]
      · have he : x = y := UInt8.le_antisymm (UInt8.not_lt.1 h2) (UInt8.not_lt.1 h1)
        subst he
        rw [if_neg h1, if_neg h1, ih]
        simp
theorem cb_trans : ∀ a b c : List UInt8, Lib.compareBytes a b ≤ 0 → Lib.compareBytes b c ≤ 0 → Lib.compareBytes a c ≤ 0
  | [], b, [] => by simp [Lib.compareBytes]
  | [], b, _ :: _ => by simp [Lib.compareBytes]
  | _ :: _, [], c => by simp [Lib.compareBytes]
  | _ :: _, _ :: _, [] => by simp [Lib.compareBytes]
  | x :: a, y :: b, z :: c => by
    have ih := cb_trans a b c
    unfold Lib.compareBytes
    intro h1 h2
    by_cases xz : x < z
    · rw [if_pos xz]; decide
    · rw [if_neg xz]
      by_cases xy : x < y
      · have yz : ¬ y < z := fun h => xz (UInt8.lt_trans xy h)
        rw [if_neg yz] at h2
        by_cases zy : z < y
        · rw [if_pos zy] at h2; omega
        · have he : y = z := UInt8.le_antisymm (UInt8.not_lt.1 zy) (UInt8.not_lt.1 yz)
          exact absurd (he ▸ xy) xz
      · rw [if_neg xy] at h1
        by_cases yx : y < x
        · rw [if_pos yx] at h1; omega
        · rw [if_neg yx] at h1
          have he : x = y := UInt8.le_antisymm (UInt8.not_lt.1 yx) (UInt8.not_lt.1 xy)
          subst he
          rw [if_neg xz] at h2
          by_cases zx : z < x
          · rw [if_pos zx] at h2; omega
          · rw [if_neg zx] at h2 ⊢
            exact ih h1 h2
theorem cmpN_neg {a b : Bool} (h : (a || b) = true) : cmpN b a = -cmpN a b := by
  cases a <;> cases b <;> simp_all [cmpN]
theorem cmpD_neg (t : Int) (a b : CellS) : cmpD t b a = -cmpD t a b := by
  unfold cmpD
  by_cases h : (a.1 || b.1) = true
  · have h' : (b.1 || a.1) = true := by rw [Bool.or_comm]; exact h
    rw [if_pos h', if_pos h, cmpN_neg h]
  · have h' : ¬ (b.1 || a.1) = true := by rw [Bool.or_comm]; exact h
    rw [if_neg h', if_neg h, cmpI_neg a.2.1, cmpP_neg a.2.2.2.1, cmpT, cmpT, cb_neg]
    split
    · rfl
    · split
      · rfl
      · split
        · rfl
        · rfl
theorem map_u8_inj : ∀ {a b : List Nat}, (∀ z ∈ a, z < 256) → (∀ z ∈ b, z < 256) → a.map UInt8.ofNat = b.map UInt8.ofNat → a = b
  | [], [], _, _, _ => rfl
  | [], _ :: _, _, _, h => by simp at h
  | _ :: _, [], _, _, h => by simp at h
  | x :: a, y :: b, ha, hb, h => by
    rw [List.map_cons, List.map_cons, List.cons.injEq] at h
    have e1 : x = y := by
      have := congrArg UInt8.toNat h.1
      rw [UInt8.toNat_ofNat', UInt8.toNat_ofNat', Nat.mod_eq_of_lt (ha x (by simp)), Nat.mod_eq_of_lt (hb y (by simp))] at this
      exact this
    rw [e1, map_u8_inj (fun z hz => ha z (by simp [hz])) (fun z hz => hb z (by simp [hz])) h.2]
theorem cmpD_zero {t : Int} {nu : Bool} {a b : CellS} (ha : rightB a t nu = true) (hb : rightB b t nu = true) (fa : ∀ z ∈ a.2.2.1, z < 256) (fb : ∀ z ∈ b.2.2.1, z < 256) : cmpD t a b = 0 ↔ a = b := by
  obtain ⟨na, ia, sa, xa, ya⟩ := a
  obtain ⟨nb, ib, sb, xb, yb⟩ := b
  simp only at fa fb
  have ht : cmpT sa sb = 0 ↔ sa = sb := by
    rw [cmpT, cb_zero]
    exact ⟨map_u8_inj fa fb, fun h => by rw [h]⟩
  unfold rightB at ha hb
  unfold cmpD
  cases na <;> cases nb
  · simp only [Bool.or_self, Bool.false_eq_true, if_false] at ha hb ⊢
    by_cases h0 : t = 0
    · subst h0
      simp at ha hb
      simp [cmpI_zero, ha, hb]
    · by_cases h1 : t = 1
      · subst h1
        simp at ha hb
        simp [cmpI_zero, ha, hb]
      · by_cases h2 : t = 2
        · subst h2
          simp at ha hb
          simp [ht, ha, hb]
        · by_cases h3 : t = 3
          · subst h3
            simp at ha hb
            simp [cmpP_zero, ha, hb]
          · simp [h0, h1, h2, h3] at ha
  · simp [cmpN]
  · simp [cmpN]
  · simp at ha hb
    simp [cmpN, ha, hb]
theorem cmpD_null {t : Int} {a b : CellS} (h : a.1 = true) : cmpD t a b ≤ 0 := by
  unfold cmpD
  rw [if_pos (by simp [h]), h]
  cases b.1 <;> simp [cmpN]
theorem cmpD_trans {t : Int} {a b c : CellS} (h1 : cmpD t a b ≤ 0) (h2 : cmpD t b c ≤ 0) : cmpD t a c ≤ 0 := by
  obtain ⟨na, ia, sa, xa, ya⟩ := a
  obtain ⟨nb, ib, sb, xb, yb⟩ := b
  obtain ⟨nc, ic, sc, xc, yc⟩ := c
  unfold cmpD at *
  cases na
  · cases nb
    · cases nc
      · simp only [Bool.or_self, Bool.false_eq_true, if_false] at h1 h2 ⊢
        split
        · rename_i ht
          rw [if_pos ht, cmpI_le] at h1 h2
          rw [cmpI_le]
          omega
        · rename_i ht
          rw [if_neg ht] at h1 h2
          split
          · rename_i ht
            rw [if_pos ht, cmpT] at h1 h2
            exact cb_trans _ _ _ h1 h2
          · rename_i ht
            rw [if_neg ht] at h1 h2
            split
            · rename_i ht
              rw [if_pos ht, cmpP_le] at h1 h2
              rw [cmpP_le]
              generalize xa * xa + ya * ya = n1 at *
              generalize xb * xb + yb * yb = n2 at *
              generalize xc * xc + yc * yc = n3 at *
              omega
            · omega
      · simp [cmpN] at h2
    · simp [cmpN] at h1
  · cases nc <;> simp [cmpN]
theorem right_near {t : Int} {nu : Bool} {a : CellS} (h : rightB a t nu = true) : (-1048576 ≤ a.2.2.2.1 ∧ a.2.2.2.1 ≤ 1048576) ∧ -1048576 ≤ a.2.2.2.2 ∧ a.2.2.2.2 ≤ 1048576 := by
  obtain ⟨na, ia, sa, xa, ya⟩ := a
  unfold rightB at h
  show (-1048576 ≤ xa ∧ xa ≤ 1048576) ∧ -1048576 ≤ ya ∧ ya ≤ 1048576
  cases na
  · simp only [Bool.false_eq_true, if_false] at h
    by_cases h0 : t = 0
    · subst h0; simp at h; omega
    · by_cases h1 : t = 1
      · subst h1; simp at h; omega
      · by_cases h2 : t = 2
        · subst h2; simp at h; omega
        · by_cases h3 : t = 3
          · subst h3; simp [inBox] at h; omega
          · simp [h0, h1, h2, h3] at h
  · simp at h; omega

end Go.Hm
/- Stats of cells: plain lists. -/

namespace Go.Hm
open Go Go.RowKit
/-- A stat: how many are null, whether there is one that is not, the least, the greatest. -/
abbrev StatS := Int × Bool × CellS × CellS
def stat0 : StatS := (0, false, cell0, cell0)
def statV (s : StatS) : List Value := .int .i64 s.1 :: .bool s.2.1 :: (cellV s.2.2.1 ++ cellV s.2.2.2)
def nullsL (l : List CellS) : Nat := (l.filter fun c => c.1).length
/-- s is the stat of l. -/
structure IsStat (t : Int) (l : List CellS) (s : StatS) : Prop where
  nulls : s.1 = (nullsL l : Int)
  has : s.2.1 = true ↔ ∃ c ∈ l, c.1 = false
  none : s.2.1 = false → s.2.2.1 = cell0 ∧ s.2.2.2 = cell0
  least : s.2.1 = true → (s.2.2.1 ∈ l ∧ s.2.2.1.1 = false) ∧ ∀ c ∈ l, c.1 = false → cmpD t s.2.2.1 c ≤ 0
  most : s.2.1 = true → (s.2.2.2 ∈ l ∧ s.2.2.2.1 = false) ∧ ∀ c ∈ l, c.1 = false → cmpD t c s.2.2.2 ≤ 0
theorem cmpD_self (t : Int) (c : CellS) : cmpD t c c = 0 := by
  have := cmpD_neg t c c
  omega
theorem nullsL_append (a b : List CellS) : nullsL (a ++ b) = nullsL a + nullsL b := by
  unfold nullsL
  rw [List.filter_append, List.length_append]
theorem nullsL_le (l : List CellS) : nullsL l ≤ l.length := List.length_filter_le _ _
def singleS (c : CellS) : StatS := if c.1 then (1, false, cell0, cell0) else (0, true, c, c)
theorem isStat_nil (t : Int) : IsStat t [] stat0 := ⟨rfl, by simp [stat0], fun _ => ⟨rfl, rfl⟩, fun h => by simp [stat0] at h, fun h => by simp [stat0] at h⟩
theorem isStat_one (t : Int) (c : CellS) : IsStat t [c] (singleS c) := by
  have h0 := cmpD_self t c
  unfold singleS
  cases hc : c.1 with
  | true =>
    rw [if_pos rfl]
    exact ⟨by simp [nullsL, hc], by simp [hc], fun _ => ⟨rfl, rfl⟩, fun h => by simp at h, fun h => by simp at h⟩
  | false =>
    rw [if_neg (by simp)]
    refine ⟨by simp [nullsL, hc], by simp [hc], fun h => by simp at h, fun _ => ⟨⟨by simp, hc⟩, fun d hd _ => ?_⟩, fun _ => ⟨⟨by simp, hc⟩, fun d hd _ => ?_⟩⟩
    · rw [List.mem_singleton.1 hd]
      show cmpD t c c ≤ 0
      omega
    · rw [List.mem_singleton.1 hd]
      show cmpD t c c ≤ 0
      omega
/-- The stat of cells and, behind them, of others. -/
def mergeS (t : Int) (a b : StatS) : StatS :=
  if a.2.1 then (a.1 + b.1, true, if b.2.1 && decide (cmpD t b.2.2.1 a.2.2.1 < 0) then b.2.2.1 else a.2.2.1, if b.2.1 && decide (0 < cmpD t b.2.2.2 a.2.2.2) then b.2.2.2 else a.2.2.2)
  else if b.2.1 then (a.1 + b.1, true, b.2.2.1, b.2.2.2) else (a.1 + b.1, false, cell0, cell0)
theorem IsStat.merge {t : Int} {a b : List CellS} {x y : StatS} (h : IsStat t a x) (k : IsStat t b y) : IsStat t (a ++ b) (mergeS t x y) := by
  obtain ⟨xn, xh, x1, x2⟩ := x
  obtain ⟨yn, yh, y1, y2⟩ := y
  obtain ⟨h1, h2, h3, h4, h5⟩ := h
  obtain ⟨k1, k2, k3, k4, k5⟩ := k
  dsimp only at *
  have hn : xn + yn = (nullsL (a ++ b) : Int) := by rw [nullsL_append]; omega
  have hex : (∃ c ∈ a ++ b, c.1 = false) ↔ (xh = true ∨ yh = true) := by
    rw [h2, k2]
    constructor
    · rintro ⟨c, hc, e⟩
      rcases List.mem_append.1 hc with hc | hc
      · exact .inl ⟨c, hc, e⟩
      · exact .inr ⟨c, hc, e⟩
    · rintro (⟨c, hc, e⟩ | ⟨c, hc, e⟩)
      · exact ⟨c, List.mem_append_left _ hc, e⟩
      · exact ⟨c, List.mem_append_right _ hc, e⟩
  unfold mergeS
  dsimp only
  cases xh with
  | true =>
    rw [if_pos rfl]
    obtain ⟨⟨p1, p2⟩, p3⟩ := h4 rfl
    obtain ⟨⟨q1, q2⟩, q3⟩ := h5 rfl
    cases yh with
    | false =>
      have hno : ∀ c ∈ b, c.1 = false → False := fun c hc e => by have := k2.2 ⟨c, hc, e⟩; simp at this
      simp only [Bool.false_and, Bool.false_eq_true, if_false]
      refine ⟨hn, ?_, ?_, ?_, ?_⟩
      · rw [hex]; simp
      · intro h; simp at h
      · intro _
        exact ⟨⟨List.mem_append_left _ p1, p2⟩, fun c hc e => by
          rcases List.mem_append.1 hc with hc | hc
          · exact p3 c hc e
          · exact (hno c hc e).elim⟩
      · intro _
        exact ⟨⟨List.mem_append_left _ q1, q2⟩, fun c hc e => by
          rcases List.mem_append.1 hc with hc | hc
          · exact q3 c hc e
          · exact (hno c hc e).elim⟩
    | true =>
      obtain ⟨⟨u1, u2⟩, u3⟩ := k4 rfl
      obtain ⟨⟨v1, v2⟩, v3⟩ := k5 rfl
      simp only [Bool.true_and, decide_eq_true_eq]
      refine ⟨hn, ?_, ?_, ?_, ?_⟩
      · rw [hex]; simp
      · intro h; simp at h
      · intro _
        dsimp only
        by_cases hlt : cmpD t y1 x1 < 0
        · rw [if_pos hlt]
          exact ⟨⟨List.mem_append_right _ u1, u2⟩, fun c hc e => by
            rcases List.mem_append.1 hc with hc | hc
            · exact cmpD_trans (by omega) (p3 c hc e)
            · exact u3 c hc e⟩
        · rw [if_neg hlt]
          have hg : cmpD t x1 y1 ≤ 0 := by rw [cmpD_neg]; omega
          exact ⟨⟨List.mem_append_left _ p1, p2⟩, fun c hc e => by
            rcases List.mem_append.1 hc with hc | hc
            · exact p3 c hc e
            · exact cmpD_trans hg (u3 c hc e)⟩
      · intro _
        dsimp only
        by_cases hlt : 0 < cmpD t y2 x2
        · rw [if_pos hlt]
          have hg : cmpD t x2 y2 ≤ 0 := by rw [cmpD_neg]; omega
          exact ⟨⟨List.mem_append_right _ v1, v2⟩, fun c hc e => by
            rcases List.mem_append.1 hc with hc | hc
            · exact cmpD_trans (q3 c hc e) hg
            · exact v3 c hc e⟩
        · rw [if_neg hlt]
          exact ⟨⟨List.mem_append_left _ q1, q2⟩, fun c hc e => by
            rcases List.mem_append.1 hc with hc | hc
            · exact q3 c hc e
            · exact cmpD_trans (v3 c hc e) (by omega)⟩
  | false =>
    have hno : ∀ c ∈ a, c.1 = false → False := fun c hc e => by have := h2.2 ⟨c, hc, e⟩; simp at this
    rw [if_neg (by simp)]
    cases yh with
    | false =>
      rw [if_neg (by simp)]
      exact ⟨hn, by rw [hex]; simp, fun _ => ⟨rfl, rfl⟩, fun h => by simp at h, fun h => by simp at h⟩
    | true =>
      rw [if_pos rfl]
      obtain ⟨⟨u1, u2⟩, u3⟩ := k4 rfl
      obtain ⟨⟨v1, v2⟩, v3⟩ := k5 rfl
      refine ⟨hn, by rw [hex]; simp, fun h => by simp at h, ?_, ?_⟩
      · intro _
        exact ⟨⟨List.mem_append_right _ u1, u2⟩, fun c hc e => by
          rcases List.mem_append.1 hc with hc | hc
          · exact (hno c hc e).elim
          · exact u3 c hc e⟩
      · intro _
        exact ⟨⟨List.mem_append_right _ v1, v2⟩, fun c hc e => by
          rcases List.mem_append.1 hc with hc | hc
          · exact (hno c hc e).elim
          · exact v3 c hc e⟩
/-- Cells of a type have one stat. -/
theorem IsStat.uniq {t : Int} {l : List CellS} (hr : ∀ c ∈ l, rightB c t true = true) (h8 : ∀ c ∈ l, ∀ z ∈ c.2.2.1, z < 256) {x y : StatS} (h : IsStat t l x) (k : IsStat t l y) : x = y := by
  obtain ⟨xn, xh, x1, x2⟩ := x
  obtain ⟨yn, yh, y1, y2⟩ := y
  obtain ⟨h1, h2, h3, h4, h5⟩ := h
  obtain ⟨k1, k2, k3, k4, k5⟩ := k
  dsimp only at *
  have hh : xh = yh := by rw [Bool.eq_iff_iff, h2, k2]
  subst hh
  have key : ∀ {a b : CellS}, a ∈ l → b ∈ l → cmpD t a b ≤ 0 → cmpD t b a ≤ 0 → a = b := fun {a b} ha hb p q => by
    rw [cmpD_neg] at q
    exact (cmpD_zero (hr a ha) (hr b hb) (h8 a ha) (h8 b hb)).1 (by omega)
  rw [show xn = yn by omega]
  cases xh with
  | false =>
    rw [(h3 rfl).1, (h3 rfl).2, (k3 rfl).1, (k3 rfl).2]
  | true =>
    obtain ⟨⟨p1, p2⟩, p3⟩ := h4 rfl
    obtain ⟨⟨q1, q2⟩, q3⟩ := h5 rfl
    obtain ⟨⟨u1, u2⟩, u3⟩ := k4 rfl
    obtain ⟨⟨v1, v2⟩, v3⟩ := k5 rfl
    rw [key p1 u1 (p3 _ u1 u2) (u3 _ p1 p2), key q1 v1 (v3 _ q1 q2) (q3 _ v1 v2)]
/-- May cells of which s is the stat have c? -/
def mayB (t : Int) (s : StatS) (c : CellS) : Bool :=
  if c.1 then decide (0 < s.1) else s.2.1 && (decide (cmpD t s.2.2.1 c ≤ 0) && decide (cmpD t c s.2.2.2 ≤ 0))
/-- Is s right for a type? -/
def rightS (t : Int) (s : StatS) : Bool :=
  if t < 0 ∨ 3 < t ∨ s.1 < 0 ∨ 65536 < s.1 then false
  else if s.2.1 then rightB s.2.2.1 t false && (rightB s.2.2.2 t false && decide (cmpD t s.2.2.1 s.2.2.2 ≤ 0))
  else decide (s.2.2.1 = cell0) && decide (s.2.2.2 = cell0)
theorem nullsL_pos {l : List CellS} {c : CellS} (hc : c ∈ l) (h : c.1 = true) : 0 < nullsL l := by
  unfold nullsL
  exact List.length_pos_of_mem (List.mem_filter.2 ⟨hc, h⟩)
theorem IsStat.may {t : Int} {l : List CellS} {s : StatS} (h : IsStat t l s) {c : CellS} (hc : c ∈ l) : mayB t s c = true := by
  unfold mayB
  cases e : c.1 with
  | true =>
    have := nullsL_pos hc e
    have := h.nulls
    simp
    omega
  | false =>
    have hh := h.has.2 ⟨c, hc, e⟩
    have h1 := (h.least hh).2 c hc e
    have h2 := (h.most hh).2 c hc e
    simp [hh, h1, h2]
theorem rightB_null {c : CellS} {t : Int} (h : rightB c t true = true) (hc : c.1 = false) : rightB c t false = true := by
  unfold rightB at h ⊢
  rw [hc] at h ⊢
  simpa using h
theorem IsStat.right {t : Int} {l : List CellS} {s : StatS} (h : IsStat t l s) (hr : ∀ c ∈ l, rightB c t true = true) (ht : 0 ≤ t ∧ t ≤ 3) (hl : l.length ≤ 65536) : rightS t s = true := by
  unfold rightS
  have hn := nullsL_le l
  have := h.nulls
  rw [if_neg (by omega)]
  cases hh : s.2.1 with
  | false =>
    obtain ⟨e1, e2⟩ := h.none hh
    simp [e1, e2]
  | true =>
    obtain ⟨⟨p1, p2⟩, p3⟩ := h.least hh
    obtain ⟨⟨q1, q2⟩, q3⟩ := h.most hh
    simp [rightB_null (hr _ p1) p2, rightB_null (hr _ q1) q2, p3 _ q1 q2]

end Go.Hm
/- What the walk's operations on bits come to, as numbers. No program is named here. -/

namespace Go.Hm
open Go

theorem or_shl (x y k : Nat) (hy : y < 2 ^ k) : (x * 2 ^ k) ||| y = x * 2 ^ k + y := by
  rw [Nat.mul_comm, ← Nat.two_pow_add_eq_or_of_lt hy]
theorem or_add (x y k : Nat) (hy : y < 2 ^ k) (hx : x % 2 ^ k = 0) : x ||| y = x + y := nat_join k x y hx hy
theorem or128 (x : Nat) : bits .or .u8 ((x : Int) % 256) 128 = ((x % 128 + 128 : Nat) : Int) := by
  have h := u8_or_nat (x % 256) 128 (by omega) (by omega)
  rw [show ((x : Int) % 256) = ((x % 256 : Nat) : Int) from by omega, show (128 : Int) = ((128 : Nat) : Int) from rfl, h]
  congr 1
  by_cases hx : x % 256 < 128
  · rw [Nat.or_comm, or_add 128 (x % 256) 7 hx rfl]; omega
  · have e : x % 256 = 128 + x % 128 := by omega
    rw [e, Nat.or_comm, ← or_add 128 (x % 128) 7 (by omega) rfl, ← Nat.or_assoc, Nat.or_self, or_add 128 (x % 128) 7 (by omega) rfl]; omega

theorem num_take_lt (T : List Nat) (k : Nat) (hk : k ≤ T.length) (h8 : ∀ x ∈ T, x < 256) : num (T.take k) < 2 ^ (8 * k) := by
  have h := num_lt (T.take k) (fun x hx => h8 x (List.mem_of_mem_take hx))
  rw [List.length_take, Nat.min_eq_left hk, show (256 : Nat) = 2 ^ 8 from rfl, ← Nat.pow_mul] at h
  exact h
theorem getD_lt (T : List Nat) (k : Nat) (h8 : ∀ x ∈ T, x < 256) : T.getD k 0 < 256 := by
  by_cases hk : k < T.length
  · rw [List.getD_eq_getElem?_getD, List.getElem?_eq_getElem hk]
    exact h8 _ (List.getElem_mem hk)
  · rw [List.getD_eq_getElem?_getD, List.getElem?_eq_none (by omega)]
    simp
theorem num_step (T : List Nat) (k : Nat) (hk : k < T.length) (h8 : ∀ x ∈ T, x < 256) : num (T.take k) ||| (T.getD k 0 * 2 ^ (8 * k)) = num (T.take (k + 1)) := by
  rw [take_snoc T k 0 hk, num_snoc, List.length_take, Nat.min_eq_left (by omega), Nat.or_comm, or_shl _ _ _ (num_take_lt T k (by omega) h8), show (256 : Nat) = 2 ^ 8 from rfl, ← Nat.pow_mul, Nat.add_comm]
theorem mul_two_pow_lt {x k m : Nat} (hx : x < 256) (hk : 8 * (k + 1) ≤ m) : x * 2 ^ (8 * k) < 2 ^ m := by
  have h1 : x * 2 ^ (8 * k) < 256 * 2 ^ (8 * k) := Nat.mul_lt_mul_of_pos_right hx (Nat.two_pow_pos _)
  have h2 : 256 * 2 ^ (8 * k) = 2 ^ (8 * (k + 1)) := by rw [Nat.mul_add, Nat.pow_add, Nat.mul_comm]
  have h3 : 2 ^ (8 * (k + 1)) ≤ 2 ^ m := Nat.pow_le_pow_right (by omega) hk
  omega
theorem num_step_u8 (T : List Nat) (k : Nat) (hk : k < T.length) (hT : T.length ≤ 1) (h8 : ∀ x ∈ T, x < 256) :
    bits .or .u8 ((num (T.take k) : Nat) : Int) (((T.getD k 0 : Nat) : Int) * 2 ^ (8 * k) % 256) = ((num (T.take (k + 1)) : Nat) : Int) := by
  have hx := getD_lt T k h8
  have hm := mul_two_pow_lt (m := 8) hx (show 8 * (k + 1) ≤ 8 by omega)
  have hn := num_take_lt T k (by omega) h8
  have hn2 : 2 ^ (8 * k) ≤ 2 ^ 8 := Nat.pow_le_pow_right (by omega) (by omega)
  have e1 : (((T.getD k 0 : Nat) : Int) * 2 ^ (8 * k) % 256) = ((T.getD k 0 * 2 ^ (8 * k) : Nat) : Int) := by
    have e2 : ((T.getD k 0 * 2 ^ (8 * k) : Nat) : Int) = ((T.getD k 0 : Nat) : Int) * 2 ^ (8 * k) := by simp
    have e3 : ((T.getD k 0 * 2 ^ (8 * k) : Nat) : Int) < 256 := by
      have : T.getD k 0 * 2 ^ (8 * k) < 256 := hm
      omega
    rw [e2] at e3 ⊢
    skip
    exact Int.emod_eq_of_lt (by rw [← e2]; omega) e3
  rw [e1, u8_or_nat _ _ (Nat.lt_of_lt_of_le hn hn2) hm, num_step T k hk h8]
theorem num_step_u32 (T : List Nat) (k : Nat) (hk : k < T.length) (hT : T.length ≤ 4) (h8 : ∀ x ∈ T, x < 256) :
    bits .or .u32 ((num (T.take k) : Nat) : Int) (((T.getD k 0 : Nat) : Int) % 4294967296 * 2 ^ (8 * k) % 4294967296) = ((num (T.take (k + 1)) : Nat) : Int) := by
  have hx := getD_lt T k h8
  have hm := mul_two_pow_lt (m := 32) hx (show 8 * (k + 1) ≤ 32 by omega)
  have hn := num_take_lt T k (by omega) h8
  have hn2 : 2 ^ (8 * k) ≤ 2 ^ 32 := Nat.pow_le_pow_right (by omega) (by omega)
  have e1 : (((T.getD k 0 : Nat) : Int) % 4294967296 * 2 ^ (8 * k) % 4294967296) = ((T.getD k 0 * 2 ^ (8 * k) : Nat) : Int) := by
    have e2 : ((T.getD k 0 * 2 ^ (8 * k) : Nat) : Int) = ((T.getD k 0 : Nat) : Int) * 2 ^ (8 * k) := by simp
    have e3 : ((T.getD k 0 * 2 ^ (8 * k) : Nat) : Int) < 4294967296 := by
      have : T.getD k 0 * 2 ^ (8 * k) < 4294967296 := hm
      omega
    rw [e2] at e3 ⊢
    rw [Int.emod_eq_of_lt (a := ((T.getD k 0 : Nat) : Int)) (by omega) (by omega)]
    exact Int.emod_eq_of_lt (by rw [← e2]; omega) e3
  rw [e1, u32_or_nat _ _ (Nat.lt_of_lt_of_le hn hn2) hm, num_step T k hk h8]
theorem num_step_u64 (T : List Nat) (k : Nat) (hk : k < T.length) (hT : T.length ≤ 8) (h8 : ∀ x ∈ T, x < 256) :
    bits .or .u64 ((num (T.take k) : Nat) : Int) (IntKind.u64.wrap (IntKind.u64.wrap ((T.getD k 0 : Nat) : Int) * 2 ^ (8 * k))) = ((num (T.take (k + 1)) : Nat) : Int) := by
  rw [IntKind.wrap_u64, IntKind.wrap_u64]
  have hx := getD_lt T k h8
  have hm := mul_two_pow_lt (m := 64) hx (show 8 * (k + 1) ≤ 64 by omega)
  have hn := num_take_lt T k (by omega) h8
  have hn2 : 2 ^ (8 * k) ≤ 2 ^ 64 := Nat.pow_le_pow_right (by omega) (by omega)
  have e1 : (((T.getD k 0 : Nat) : Int) % 18446744073709551616 * 2 ^ (8 * k) % 18446744073709551616) = ((T.getD k 0 * 2 ^ (8 * k) : Nat) : Int) := by
    have e2 : ((T.getD k 0 * 2 ^ (8 * k) : Nat) : Int) = ((T.getD k 0 : Nat) : Int) * 2 ^ (8 * k) := by simp
    have e3 : ((T.getD k 0 * 2 ^ (8 * k) : Nat) : Int) < 18446744073709551616 := by
      have : T.getD k 0 * 2 ^ (8 * k) < 18446744073709551616 := hm
      omega
    rw [e2] at e3 ⊢
    rw [Int.emod_eq_of_lt (a := ((T.getD k 0 : Nat) : Int)) (by omega) (by omega)]
    exact Int.emod_eq_of_lt (by rw [← e2]; omega) e3
  rw [e1, u64_or_nat _ _ (Nat.lt_of_lt_of_le hn hn2) hm, num_step T k hk h8]
theorem byte_at (x k : Nat) : ((x : Int) / 2 ^ (8 * k) % 256) = ((x / 256 ^ k % 256 : Nat) : Int) := by
  rw [show (256 : Nat) ^ k = 2 ^ (8 * k) by rw [show (256 : Nat) = 2 ^ 8 from rfl, ← Nat.pow_mul]]
  simp

end Go.Hm
/- Contracts of package cursor. -/

namespace Go.Proofs.Ythmjbdpkdomofaa
open Go.RowKit Go.Hm

def Unit0 : Ending := .returned (.tuple #[])

theorem setCell2_grown {w : World} {g i j : Nat} {x y : Value} : w.grownBy ((w.setCell ⟨g, i, none⟩ x).setCell ⟨g, j, none⟩ y) (some g) :=
  ⟨rfl, rfl, rfl, by simp [World.setCell], fun k _ hne => (Below.heap_setCell _ _ _ _ (by intro e; exact hne (by rw [e]))).trans (Below.heap_setCell _ _ _ _ (by intro e; exact hne (by rw [e])))⟩
theorem setCell_grown {w : World} {g i : Nat} {x : Value} : w.grownBy (w.setCell ⟨g, i, none⟩ x) (some g) :=
  ⟨rfl, rfl, rfl, by simp [World.setCell], fun k _ hne => Below.heap_setCell _ _ _ _ (by intro e; exact hne (by rw [e]))⟩

def LeftPost (l : List Nat) (w : World) (e : Ending) (w' : World) : Prop := e = .returned (.int .i64 (l.length : Int)) ∧ w = w'
def BadPost (b : Bool) (w : World) (e : Ending) (w' : World) : Prop := e = .returned (.bool b) ∧ w = w'



/-- bytes.Clone: a copy of one's own. -/
def ClonePost (l : List Nat) (w : World) (e : Ending) (w' : World) : Prop :=
  ∃ A n c, e = .returned (.slice A n c) ∧ Own w' w.heap.size 5 (.slice A n c) (nums .u8 l) ∧ Below w.heap.size w w'


end Go.Proofs.Ythmjbdpkdomofaa
/- Stores of records and of whole blocks. No program is named here. -/

namespace Go.Hm
open Go Go.RowKit
theorem setCell_gr {w : World} {g i : Nat} {x : Value} : w.grownBy (w.setCell ⟨g, i, none⟩ x) (some g) :=
  ⟨rfl, rfl, rfl, by simp [World.setCell], fun k _ hne => Below.heap_setCell _ _ _ _ (fun e => hne (by rw [e]))⟩
variable {P : Program}
/-- Five cells are stored into a block, from a place on. -/
theorem wpList_store5 {ops : Array Oper} {rest : List Oper} {op : Oper} {a : Act} {w : World} {Q : Exit → Act → World → Prop} (hgd : op.guard = none) (ty : TypeId) (x y : Operand) (ho : op.op = .store ty x y)
    (g o : Nat) {v0 v1 v2 v3 v4 : Value} (hx : a.eval x = .pointer (some ⟨g, o, none⟩)) (hy : a.eval y = .agg #[v0, v1, v2, v3, v4]) {t : TypeId} {cs : Array Value} (hB : Blk w g t cs) (hsz : o + 5 ≤ cs.size)
    (hi : (P.info? ty).map (·.size) = some 5) (h1 : (#[v0, v1, v2, v3, v4] : Array Value).all (·.oneCell') = true)
    (h : ∀ W, Blk W g t (((((cs.setIfInBounds o v0).setIfInBounds (o + 1) v1).setIfInBounds (o + 1 + 1) v2).setIfInBounds (o + 1 + 1 + 1) v3).setIfInBounds (o + 1 + 1 + 1 + 1) v4) →
      (∀ B w0, Below B w0 w → B ≤ g → Below B w0 W) → (∀ g' t' cs', g' ≠ g → Blk w g' t' cs' → Blk W g' t' cs') → wpList P ops Q rest (a.put op.dst undef) W) : wpList P ops Q (op :: rest) a w := by
  have ht : w.there g o (#[v0, v1, v2, v3, v4] : Array Value).size := by
    intro j hj
    have hj : j < 5 := hj
    refine ⟨?_, hB.frozen _⟩
    rw [hB.cell, Array.getElem?_eq_getElem (by omega)]
    rfl
  refine wpList_store_mid hgd ty x y ho g o #[v0, v1, v2, v3, v4] hx hy ht hi h1 ?_
  refine h _ (((((hB.set_ o v0).set_ (o + 1) v1).set_ (o + 1 + 1) v2).set_ (o + 1 + 1 + 1) v3).set_ (o + 1 + 1 + 1 + 1) v4) (fun B w0 hb hg => ?_) (fun g' t' cs' hne k => ?_)
  · exact ((((hb.setCell (p := ⟨g, o, none⟩) hg v0).setCell (p := ⟨g, o + 1, none⟩) hg v1).setCell (p := ⟨g, o + 1 + 1, none⟩) hg v2).setCell (p := ⟨g, o + 1 + 1 + 1, none⟩) hg v3).setCell (p := ⟨g, o + 1 + 1 + 1 + 1, none⟩) hg v4
  · exact ((((k.far (p := ⟨g, o, none⟩) hne v0).far (p := ⟨g, o + 1, none⟩) hne v1).far (p := ⟨g, o + 1 + 1, none⟩) hne v2).far (p := ⟨g, o + 1 + 1 + 1, none⟩) hne v3).far (p := ⟨g, o + 1 + 1 + 1 + 1, none⟩) hne v4
/-- A whole block is stored. -/
theorem wpList_storeB {ops : Array Oper} {rest : List Oper} {o : Oper} {a : Act} {w : World} {Q : Exit → Act → World → Prop} (hgd : o.guard = none) (ty : TypeId) (x y : Operand) (ho : o.op = .store ty x y)
    (g : Nat) (cells : Array Value) (hx : a.eval x = .pointer (some ⟨g, 0, none⟩)) (hy : a.eval y = .agg cells) {t : TypeId} {old : Array Value} (hB : Blk w g t old) (hi : (P.info? ty).map (·.size) = some cells.size)
    (hold : old.size = cells.size) (h1 : cells.all (·.oneCell') = true)
    (h : ∀ W, Blk W g t cells → (∀ B w0, Below B w0 w → B ≤ g → Below B w0 W) → (∀ g' t' cs', g' ≠ g → Blk w g' t' cs' → Blk W g' t' cs') → wpList P ops Q rest (a.put o.dst undef) W) : wpList P ops Q (o :: rest) a w := by
  refine wpList_store_row hgd ty x y ho g cells hx hy t old hB hi hold h1 ?_
  have hfar : ∀ k, k ≠ g → (w.setRow g cells).heap[k]? = w.heap[k]? := fun k hne => by
    simp [World.setRow, Array.getElem?_modify]
    intro e
    exact absurd e.symm hne
  refine h _ ?_ (fun B w0 hb hg => ⟨hb.os, hb.tape, hb.output, by simpa [World.setRow] using hb.size, fun k hk => ?_⟩) (fun g' t' cs' hne k => (hfar g' hne).trans k)
  · unfold Blk at hB ⊢
    simp [World.setRow, Array.getElem?_modify, hB]
  · rw [hfar k (by omega)]
    exact hb.block k hk
/-- A whole block is stored, at the operation. -/
theorem wp_storeB {o : Oper} {a : Act} {w : World} {K : Act → World → Prop} {Q : Exit → Act → World → Prop} (ty : TypeId) (x y : Operand) (ho : o.op = .store ty x y)
    (g : Nat) (cells : Array Value) (hx : a.eval x = .pointer (some ⟨g, 0, none⟩)) (hy : a.eval y = .agg cells) {t : TypeId} {old : Array Value} (hB : Blk w g t old) (hi : (P.info? ty).map (·.size) = some cells.size)
    (hold : old.size = cells.size) (h1 : cells.all (·.oneCell') = true)
    (h : ∀ W, Blk W g t cells → (∀ B w0, Below B w0 w → B ≤ g → Below B w0 W) → (∀ g' t' cs', g' ≠ g → Blk w g' t' cs' → Blk W g' t' cs') → K (a.put o.dst undef) W) : o.wp P a w K Q := by
  refine wp_store_row ty x y ho g cells hx hy t old hB hi hold h1 ?_
  have hfar : ∀ k, k ≠ g → (w.setRow g cells).heap[k]? = w.heap[k]? := fun k hne => by
    simp [World.setRow, Array.getElem?_modify]
    intro e
    exact absurd e.symm hne
  refine h _ ?_ (fun B w0 hb hg => ⟨hb.os, hb.tape, hb.output, by simpa [World.setRow] using hb.size, fun k hk => ?_⟩) (fun g' t' cs' hne k => (hfar g' hne).trans k)
  · unfold Blk at hB ⊢
    simp [World.setRow, Array.getElem?_modify, hB]
  · rw [hfar k (by omega)]
    exact hb.block k hk
theorem cells12 {w : World} {g : Nat} {ty : TypeId} {a0 a1 a2 a3 a4 a5 a6 a7 a8 a9 aa ab : Value} (h : Blk w g ty #[a0, a1, a2, a3, a4, a5, a6, a7, a8, a9, aa, ab]) :
    w.cell? ⟨g, 0, none⟩ = some a0 ∧ w.cell? ⟨g, 1, none⟩ = some a1 ∧ w.cell? ⟨g, 2, none⟩ = some a2 ∧ w.cell? ⟨g, 3, none⟩ = some a3 ∧ w.cell? ⟨g, 4, none⟩ = some a4 ∧ w.cell? ⟨g, 5, none⟩ = some a5
      ∧ w.cell? ⟨g, 6, none⟩ = some a6 ∧ w.cell? ⟨g, 7, none⟩ = some a7 ∧ w.cell? ⟨g, 8, none⟩ = some a8 ∧ w.cell? ⟨g, 9, none⟩ = some a9 ∧ w.cell? ⟨g, 10, none⟩ = some aa ∧ w.cell? ⟨g, 11, none⟩ = some ab := by
  have h0 := h.cell 0
  have h1 := h.cell 1
  have h2 := h.cell 2
  have h3 := h.cell 3
  have h4 := h.cell 4
  have h5 := h.cell 5
  have h6 := h.cell 6
  have h7 := h.cell 7
  have h8 := h.cell 8
  have h9 := h.cell 9
  have h10 := h.cell 10
  have h11 := h.cell 11
  simp at h0 h1 h2 h3 h4 h5 h6 h7 h8 h9 h10 h11
  exact ⟨h0, h1, h2, h3, h4, h5, h6, h7, h8, h9, h10, h11⟩
/-- A whole block is stored; no other is turned. -/
theorem wpList_storeG {ops : Array Oper} {rest : List Oper} {o : Oper} {a : Act} {w : World} {Q : Exit → Act → World → Prop} (hgd : o.guard = none) (ty : TypeId) (x y : Operand) (ho : o.op = .store ty x y)
    (g : Nat) (cells : Array Value) (hx : a.eval x = .pointer (some ⟨g, 0, none⟩)) (hy : a.eval y = .agg cells) {t : TypeId} {old : Array Value} (hB : Blk w g t old) (hi : (P.info? ty).map (·.size) = some cells.size)
    (hold : old.size = cells.size) (h1 : cells.all (·.oneCell') = true)
    (h : ∀ W, Blk W g t cells → w.grownBy W (some g) → wpList P ops Q rest (a.put o.dst undef) W) : wpList P ops Q (o :: rest) a w := by
  refine wpList_store_row hgd ty x y ho g cells hx hy t old hB hi hold h1 ?_
  refine h _ ?_ ⟨rfl, rfl, rfl, by simp [World.setRow], fun k _ hne => ?_⟩
  · unfold Blk at hB ⊢
    simp [World.setRow, Array.getElem?_modify, hB]
  · simp [World.setRow, Array.getElem?_modify]
    intro e
    exact absurd (by rw [e]) hne
/-- What is turned beside lies beyond. -/
theorem grown_then {w w3 W : World} {g b : Nat} (G : w.grownBy w3 (some g)) (k : w3.grownBy W (some b)) (hb : w.heap.size ≤ b) : w.grownBy W (some g) :=
  ⟨k.os.trans G.os, k.tape.trans G.tape, k.output.trans G.output, Nat.le_trans G.size k.size, fun i hi hne => (k.block i (Nat.lt_of_lt_of_le hi G.size) (fun e => by injection e with e; omega)).trans (G.block i hi hne)⟩
/-- Five cells are stored into a block, from a place on; no other is turned. -/
theorem wpList_store5G {ops : Array Oper} {rest : List Oper} {op : Oper} {a : Act} {w : World} {Q : Exit → Act → World → Prop} (hgd : op.guard = none) (ty : TypeId) (x y : Operand) (ho : op.op = .store ty x y)
    (g o : Nat) {v0 v1 v2 v3 v4 : Value} (hx : a.eval x = .pointer (some ⟨g, o, none⟩)) (hy : a.eval y = .agg #[v0, v1, v2, v3, v4]) {t : TypeId} {cs : Array Value} (hB : Blk w g t cs) (hsz : o + 5 ≤ cs.size)
    (hi : (P.info? ty).map (·.size) = some 5) (h1 : (#[v0, v1, v2, v3, v4] : Array Value).all (·.oneCell') = true)
    (h : ∀ W, Blk W g t (((((cs.setIfInBounds o v0).setIfInBounds (o + 1) v1).setIfInBounds (o + 1 + 1) v2).setIfInBounds (o + 1 + 1 + 1) v3).setIfInBounds (o + 1 + 1 + 1 + 1) v4) →
      w.grownBy W (some g) → wpList P ops Q rest (a.put op.dst undef) W) : wpList P ops Q (op :: rest) a w := by
  have ht : w.there g o (#[v0, v1, v2, v3, v4] : Array Value).size := by
    intro j hj
    have hj : j < 5 := hj
    refine ⟨?_, hB.frozen _⟩
    rw [hB.cell, Array.getElem?_eq_getElem (by omega)]
    rfl
  refine wpList_store_mid hgd ty x y ho g o #[v0, v1, v2, v3, v4] hx hy ht hi h1 ?_
  exact h _ (((((hB.set_ o v0).set_ (o + 1) v1).set_ (o + 1 + 1) v2).set_ (o + 1 + 1 + 1) v3).set_ (o + 1 + 1 + 1 + 1) v4)
    (((((setCell_gr (w := w) (g := g) (i := o) (x := v0)).trans setCell_gr).trans setCell_gr).trans setCell_gr).trans setCell_gr)

end Go.Hm
/- Contracts on package stat: the stat of a cell, two stats merged. -/

namespace Go.Hm
open Go Go.RowKit
def statA (s : StatS) : Value := .agg (statV s).toArray

end Go.Hm

namespace Go.Proofs.Ythmjbdpkdomofaa
open Go.RowKit Go.Hm

end Go.Proofs.Ythmjbdpkdomofaa
/- The contract of stat.Merge. -/

namespace Go.Hm
open Go Go.RowKit
def near (c : CellS) : Prop := (-1048576 ≤ c.2.2.2.1 ∧ c.2.2.2.1 ≤ 1048576) ∧ -1048576 ≤ c.2.2.2.2 ∧ c.2.2.2.2 ≤ 1048576
theorem near0 : near cell0 := by unfold near cell0; decide
theorem near_two {a b : CellS} (h : near a) (k : near b) : nearP a.2.2.2.1 a.2.2.2.2 b.2.2.2.1 b.2.2.2.2 := by
  unfold near at h k
  unfold nearP
  omega

end Go.Hm

namespace Go.Proofs.Ythmjbdpkdomofaa
open Go.RowKit Go.Hm
theorem compareA_any {w : World} {t : Int} {a b : CellS} (ha : near a) (hb : near b) : Calls Try.prog 68 #[.int .i64 t, cellA a, cellA b] w (NewPost (.int .i64 (cmpD t a b)) w) := compareD_any (near_two ha hb)

end Go.Proofs.Ythmjbdpkdomofaa
/- Equality of stats, as an equation for every world. -/

namespace Go.Hm
open Go Go.RowKit
def eqC (a b : CellS) : Bool := a.1 == b.1 && (a.2.1 == b.2.1 && ((bstr a.2.2.1).toList == (bstr b.2.2.1).toList && (a.2.2.2.1 == b.2.2.2.1 && a.2.2.2.2 == b.2.2.2.2)))
theorem eqC_is {a b : CellS} (ha : ∀ z ∈ a.2.2.1, z < 256) (hb : ∀ z ∈ b.2.2.1, z < 256) : eqC a b = decide (a = b) := by
  obtain ⟨a0, a1, a2, a3, a4⟩ := a
  obtain ⟨b0, b1, b2, b3, b4⟩ := b
  unfold eqC
  dsimp only at *
  rw [bstr_beq ha hb, Bool.eq_iff_iff]
  simp
def eqS (a b : StatS) : Bool := a.1 == b.1 && (a.2.1 == b.2.1 && (eqC a.2.2.1 b.2.2.1 && eqC a.2.2.2 b.2.2.2))
theorem eqS_is {a b : StatS} (h1 : ∀ z ∈ a.2.2.1.2.2.1, z < 256) (h2 : ∀ z ∈ a.2.2.2.2.2.1, z < 256) (h3 : ∀ z ∈ b.2.2.1.2.2.1, z < 256) (h4 : ∀ z ∈ b.2.2.2.2.2.1, z < 256) : eqS a b = true ↔ a = b := by
  obtain ⟨n, c, p, q⟩ := a
  obtain ⟨m, d, r, s⟩ := b
  unfold eqS
  dsimp only at *
  rw [eqC_is h1 h3, eqC_is h2 h4]
  simp

end Go.Hm

namespace Go.Proofs.Ythmjbdpkdomofaa
open Go.RowKit Go.Hm
set_option maxHeartbeats 1000000 in
set_option maxRecDepth 100000 in
theorem eqStat_any {n n' : Int} {b b' : Bool} {p q p' q' : CellS} (W : World) :
    (binOp .eql 55 (statA (n, b, p, q)) (statA (n', b', p', q'))).run Try.prog W = .ok (.bool (eqS (n, b, p, q) (n', b', p', q'))) W := by
  obtain ⟨p1, p2, p3, p4, p5⟩ := p
  obtain ⟨q1, q2, q3, q4, q5⟩ := q
  obtain ⟨r1, r2, r3, r4, r5⟩ := p'
  obtain ⟨s1, s2, s3, s4, s5⟩ := q'
  show (binOp .eql 55 (.agg #[.int .i64 n, .bool b, .bool p1, .int .i64 p2, .string (bstr p3), .int .i64 p4, .int .i64 p5, .bool q1, .int .i64 q2, .string (bstr q3), .int .i64 q4, .int .i64 q5]) (.agg #[.int .i64 n', .bool b', .bool r1, .int .i64 r2, .string (bstr r3), .int .i64 r4, .int .i64 r5, .bool s1, .int .i64 s2, .string (bstr s3), .int .i64 s4, .int .i64 s5])).run Try.prog W = _
  go_simp
  unfold eqS eqC
  repeat' split
  all_goals simp_all

end Go.Proofs.Ythmjbdpkdomofaa
/- The contracts of stat.May and stat.Right. -/

namespace Go.Proofs.Ythmjbdpkdomofaa
open Go.RowKit Go.Hm
/-- A stat whose cells are plain data. -/
def statFine (s : StatS) : Prop := (s.2.2.1.2.2.1.length ≤ 140737488351232 ∧ ∀ z ∈ s.2.2.1.2.2.1, z < 256) ∧ s.2.2.2.2.2.1.length ≤ 140737488351232 ∧ ∀ z ∈ s.2.2.2.2.2.1, z < 256
set_option maxHeartbeats 4000000 in
set_option maxRecDepth 100000 in
theorem sright_any {w : World} {t : Int} {s : StatS} (hf : statFine s) : Calls Try.prog 63 #[.int .i64 t, statA s] w (NewPost (.bool (rightS t s)) w) := by
  obtain ⟨M, hM⟩ : ∃ M, M = rightS t s := ⟨_, rfl⟩
  rw [← hM]
  unfold rightS at hM
  obtain ⟨n, b, p, q⟩ := s
  obtain ⟨⟨hf1, hf2⟩, hf3, hf4⟩ := hf
  dsimp only at hM hf1 hf2 hf3 hf4
  have E : ∀ W, (binOp .eql 55 (statA (n, false, p, q)) (statA (n, false, cell0, cell0))).run Try.prog W = .ok (.bool (decide (p = cell0) && decide (q = cell0))) W := fun W => by
    rw [eqStat_any]
    have : eqS (n, false, p, q) (n, false, cell0, cell0) = (decide (p = cell0) && decide (q = cell0)) := by
      rw [Bool.eq_iff_iff, eqS_is hf2 hf4 (by simp [cell0]) (by simp [cell0])]
      simp
    rw [this]
  have HN := fun (h1 : rightB p t false = true) (h2 : rightB q t false = true) (W : World) => compareA_any (w := W) (t := t) (a := p) (b := q) (right_near h1) (right_near h2)
  have R1 := fun (W : World) => cright_any (w := W) (b := p.1) (n := p.2.1) (s := p.2.2.1) (x := p.2.2.2.1) (y := p.2.2.2.2) (cn := []) (t := t) (nu := false) hf1
  have R2 := fun (W : World) => cright_any (w := W) (b := q.1) (n := q.2.1) (s := q.2.2.1) (x := q.2.2.2.1) (y := q.2.2.2.2) (cn := []) (t := t) (nu := false) hf3
  generalize (decide (p = cell0) && decide (q = cell0)) = eq at *
  generalize cmpD t p q = o at *
  obtain ⟨p1, p2, p3, p4, p5⟩ := p
  obtain ⟨q1, q2, q3, q4, q5⟩ := q
  dsimp only at R1 R2 hM
  generalize rightB (p1, p2, p3, p4, p5) t false = m1 at *
  generalize rightB (q1, q2, q3, q4, q5) t false = m2 at *
  have E : ∀ W, (binOp .eql 55 (.agg #[.int .i64 n, .bool false, .bool p1, .int .i64 p2, .string (bstr p3), .int .i64 p4, .int .i64 p5, .bool q1, .int .i64 q2, .string (bstr q3), .int .i64 q4, .int .i64 q5]) (.agg #[.int .i64 n, .bool false, .bool false, .int .i64 0, .string ⟨#[]⟩, .int .i64 0, .int .i64 0, .bool false, .int .i64 0, .string ⟨#[]⟩, .int .i64 0, .int .i64 0])).run Try.prog W = .ok (.bool eq) W := E
  have R1 : Hid (∀ W, Calls Try.prog 67 #[.agg #[.bool p1, .int .i64 p2, .string (bstr p3), .int .i64 p4, .int .i64 p5], .agg #[.string ⟨#[]⟩, .int .i64 t, .bool false]] W (NewPost (.bool m1) W)) := Lib.hid R1
  have R2 : Hid (∀ W, Calls Try.prog 67 #[.agg #[.bool q1, .int .i64 q2, .string (bstr q3), .int .i64 q4, .int .i64 q5], .agg #[.string ⟨#[]⟩, .int .i64 t, .bool false]] W (NewPost (.bool m2) W)) := Lib.hid R2
  unfold cellA cellV at HN
  dsimp only at HN
  have HN := Lib.hid HN
  show Calls Try.prog 63 #[.int .i64 t, .agg #[.int .i64 n, .bool b, .bool p1, .int .i64 p2, .string (bstr p3), .int .i64 p4, .int .i64 p5, .bool q1, .int .i64 q2, .string (bstr q3), .int .i64 q4, .int .i64 q5]] w (NewPost (.bool M) w)
  have B0 := Blk.new w 55 #[.int .i64 n, .bool b, .bool p1, .int .i64 p2, .string (bstr p3), .int .i64 p4, .int .i64 p5, .bool q1, .int .i64 q2, .string (bstr q3), .int .i64 q4, .int .i64 q5]
  have hb : New w (w.alloc (.cells #[.int .i64 n, .bool b, .bool p1, .int .i64 p2, .string (bstr p3), .int .i64 p4, .int .i64 p5, .bool q1, .int .i64 q2, .string (bstr q3), .int .i64 q4, .int .i64 q5] 55)) := (Below.refl _ _).alloc (Nat.le_refl _) _
  have HB0 := Lib.hid B0
  have Hb := Lib.hid hb
  obtain ⟨x0, x1, x2, x3, x4, x5, x6, x7, x8, x9, x10, x11⟩ := cells12 B0
  clear B0 hb hf1 hf2 hf3 hf4
  by_cases hr : t < 0 ∨ 3 < t ∨ n < 0 ∨ 65536 < n
  · rw [if_pos hr] at hM
    have HM := Lib.hid hM
    clear hM E
    by_cases h1 : t < 0
    all_goals try by_cases h2 : 3 < t
    all_goals try by_cases h3 : n < 0
    all_goals try (have h4 : 65536 < n := by omega)
    all_goals
      clear hr
      go_enter Try.func63, Try.ntmps63
      go_wp2
      go_ret
      exact ⟨by rw [HM.out]; rfl, Hb.out⟩
  rw [if_neg hr] at hM
  have h1 : ¬ t < 0 := by omega
  have h2 : ¬ 3 < t := by omega
  have h3 : ¬ n < 0 := by omega
  have h4 : ¬ 65536 < n := by omega
  clear hr
  cases b with
  | false =>
    rw [if_neg (by simp)] at hM
    have HM := Lib.hid hM
    clear hM
    go_enter Try.func63, Try.ntmps63
    go_wp2
    go_ret
    exact ⟨by rw [HM.out]; rfl, Hb.out⟩
  | true =>
    rw [if_pos rfl] at hM
    have HM := Lib.hid hM
    clear hM E
    go_enter Try.func63, Try.ntmps63
    go_wp2_with fail
    refine (R1.out _).mono ?_
    rintro e w1 ⟨rfl, b1⟩
    have B0 := (HB0.out.alloc _).below b1 (by simp; omega)
    have BC := (Blk.new _ _ _).below b1 (by simp)
    have hl := New.trans (New.trans Hb.out ((Below.refl _ _).alloc (Nat.le_refl _) _)) b1
    simp only [World.size_alloc] at BC
    clear x0 x1 x2 x3 x4 x5 x6 x7 x8 x9 x10 x11 HB0 Hb b1
    obtain ⟨x0, x1, x2, x3, x4, x5, x6, x7, x8, x9, x10, x11⟩ := cells12 B0
    obtain ⟨y0, y1, y2⟩ := ccells BC
    cases m1 with
    | false =>
      go_wp2_with fail
      go_ret
      exact ⟨by rw [HM.out]; rfl, hl⟩
    | true =>
      go_wp2_with fail
      refine (R2.out _).mono ?_
      rintro e w2 ⟨rfl, b2⟩
      replace B0 := B0.below b2 B0.lt
      replace hl := New.trans hl b2
      clear x0 x1 x2 x3 x4 x5 x6 x7 x8 x9 x10 x11 b2 y0 y1 y2 BC
      obtain ⟨x0, x1, x2, x3, x4, x5, x6, x7, x8, x9, x10, x11⟩ := cells12 B0
      cases m2 with
      | false =>
        go_wp2_with fail
        go_ret
        exact ⟨by rw [HM.out]; rfl, hl⟩
      | true =>
        have C := Lib.hid (HN.out (by trivial) (by trivial))
        go_wp2_with fail
        refine (C.out _).mono ?_
        rintro e w3 ⟨rfl, b3⟩
        go_wp2
        go_ret
        exact ⟨by rw [HM.out]; rfl, New.trans hl b3⟩

end Go.Proofs.Ythmjbdpkdomofaa
/- bits.Len64's contract, laid at this seat (the fields are the program's own facts). -/

namespace Go.Proofs.Ythmjbdpkdomofaa
open Go.Shelf
def lays129_ren : Go.Shelf.Ren := ⟨fun | 129 => 60 | n => n, fun | 53 => 89 | 3 => 3 | 4 => 4 | 46 => 82 | 5 => 5 | 9 => 9 | n => n, fun | n => n⟩
theorem lays129 : Go.Proofs.Lays.n129 Try.prog lays129_ren := {
  mixed := by kernel_rfl
  f129 := Try.func60.trans (congrArg some (by kernel_rfl))
  t3 := Try.underlying3
  a3 := Try.isAgg3
  z3 := Try.sizeOf3
  v3 := Try.zeroValue3
  t4 := Try.underlying4
  a4 := Try.isAgg4
  z4 := Try.sizeOf4
  v4 := Try.zeroValue4
  t5 := Try.underlying5
  a5 := Try.isAgg5
  z5 := Try.sizeOf5
  v5 := Try.zeroValue5
  t9 := Try.underlying9
  a9 := Try.isAgg9
  z9 := Try.sizeOf9
  v9 := Try.zeroValue9
  t46 := Try.underlying82
  a46 := Try.isAgg82
  z46 := Try.sizeOf82
  v46 := Try.zeroValue82
  t53 := Try.underlying89
  a53 := Try.isAgg89
  z53 := Try.sizeOf89
  v53 := Try.zeroValue89 }
theorem bits_Len64 (x : Int) (w : World) (h0 : 0 ≤ x) (h1 : x ≤ 18446744073709551615) :
    Calls Try.prog 60 #[.int .u64 x] w fun e w' => e = .returned (.int .i64 (Lib.bitLen x.toNat)) ∧ w' = w := Any.bits_Len64 lays129 x w h0 h1

end Go.Proofs.Ythmjbdpkdomofaa
/- The package bitpack and its answer: widths, byte counts, comparing. -/

namespace Go.Hm
/-- The least width that holds each of l. -/
def wid (l : List Nat) : Nat := l.foldl (fun a x => max a (Lib.bitLen x)) 0
theorem bitLen_iff (n : Nat) : ∀ k, k ≤ 64 → n < 18446744073709551616 → (Lib.bitLen n ≤ k ↔ n < 2 ^ k) := by
  intro k hk hn
  refine ⟨fun h => ?_, fun h => Lib.bitLen_le n k hk h⟩
  induction k generalizing n with
  | zero =>
    by_cases h0 : n = 0
    · omega
    · have := Lib.bitLen_half n h0 hn
      omega
  | succ k ih =>
    by_cases h0 : n = 0
    · subst h0; exact Nat.two_pow_pos _
    · have h1 := Lib.bitLen_half n h0 hn
      have h2 := ih (n / 2) (by omega) (by omega) (by omega)
      rw [Nat.pow_succ]; omega
theorem bitLen64 (n : Nat) (hn : n < 18446744073709551616) : Lib.bitLen n ≤ 64 := Lib.bitLen_le n 64 (by omega) hn
theorem bitLen_or (a b : Nat) (ha : a < 18446744073709551616) (hb : b < 18446744073709551616) : Lib.bitLen (a ||| b) = max (Lib.bitLen a) (Lib.bitLen b) := by
  have hab : a ||| b < 18446744073709551616 := Nat.or_lt_two_pow (n := 64) ha hb
  have ha64 := bitLen64 a ha
  have hb64 := bitLen64 b hb
  have hab64 := bitLen64 _ hab
  have key : ∀ k, k ≤ 64 → (Lib.bitLen (a ||| b) ≤ k ↔ max (Lib.bitLen a) (Lib.bitLen b) ≤ k) := by
    intro k hk
    rw [bitLen_iff _ k hk hab, Nat.max_le, bitLen_iff a k hk ha, bitLen_iff b k hk hb]
    exact ⟨fun h => ⟨Nat.lt_of_le_of_lt Nat.left_le_or h, Nat.lt_of_le_of_lt Nat.right_le_or h⟩, fun h => Nat.or_lt_two_pow h.1 h.2⟩
  have h1 := (key _ hab64).1 (Nat.le_refl _)
  have h2 := (key (max (Lib.bitLen a) (Lib.bitLen b)) (by omega)).2 (Nat.le_refl _)
  omega
theorem wid_snoc (l : List Nat) (x : Nat) : wid (l ++ [x]) = max (wid l) (Lib.bitLen x) := by simp [wid]
/-- All bits that l has. -/
def ors (l : List Nat) : Nat := l.foldl (· ||| ·) 0
theorem ors_snoc (l : List Nat) (x : Nat) : ors (l ++ [x]) = ors l ||| x := by simp [ors]
theorem ors_both (k : Nat) (l : List Nat) (hk : k ≤ l.length) (hl : ∀ x ∈ l, x ≤ 18446744073709551615) : ors (l.take k) < 18446744073709551616 ∧ Lib.bitLen (ors (l.take k)) = wid (l.take k) := by
  induction k with
  | zero => simp [ors, wid]; decide
  | succ k ih =>
    obtain ⟨h1, h2⟩ := ih (by omega)
    have hx : l.getD k 0 ≤ 18446744073709551615 := by
      rw [List.getD_eq_getElem?_getD, List.getElem?_eq_getElem (by omega)]
      exact hl _ (List.getElem_mem (by omega))
    rw [take_snoc l k 0 (by omega), ors_snoc, wid_snoc]
    exact ⟨Nat.or_lt_two_pow (n := 64) h1 (by omega), by rw [bitLen_or _ _ h1 (by omega), h2]⟩
theorem wid_iff (l : List Nat) (k : Nat) (hk : k ≤ 64) (hl : ∀ x ∈ l, x ≤ 18446744073709551615) : wid l ≤ k ↔ ∀ x ∈ l, x < 2 ^ k := by
  have : ∀ (l : List Nat) a, (∀ x ∈ l, x ≤ 18446744073709551615) → (l.foldl (fun a x => max a (Lib.bitLen x)) a ≤ k ↔ a ≤ k ∧ ∀ x ∈ l, x < 2 ^ k) := by
    intro l
    induction l with
    | nil => intro a _; simp
    | cons y l ih =>
      intro a h
      rw [List.foldl_cons, ih _ (fun x hx => h x (by simp [hx])), Nat.max_le, bitLen_iff y k hk (by have := h y (by simp); omega)]
      simp [and_assoc]
  rw [wid, this l 0 hl]; simp
theorem wid_le (l : List Nat) (hl : ∀ x ∈ l, x ≤ 18446744073709551615) : wid l ≤ 64 := (wid_iff l 64 (by omega) hl).2 fun x hx => by have := hl x hx; omega

end Go.Hm

namespace Go.Proofs.Ythmjbdpkdomofaa
open Go.RowKit Go.Hm

def IntPost (v : Int) (w : World) (e : Ending) (w' : World) : Prop := e = .returned (.int .i64 v) ∧ w = w'




/-- How many bytes; -1 where there are too many. -/
def nby (w n : Int) : Int := if w < 0 ∨ 64 < w ∨ n < 0 ∨ 65536 < n then -1 else (w * n + 7) / 8
theorem nby_nat (x n : Nat) (hx : x ≤ 64) (hn : n ≤ 65536) : nby (x : Int) (n : Int) = (((x * n + 7) / 8 : Nat) : Int) := by
  unfold nby; rw [if_neg (by omega), ← Int.natCast_mul]; omega


end Go.Proofs.Ythmjbdpkdomofaa
