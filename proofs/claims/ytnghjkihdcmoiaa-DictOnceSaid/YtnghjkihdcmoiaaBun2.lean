/- Texts merged, for a claim has at most 60 files: DicM, Facts, Rec, DicK, Shelf, Bits, Cur, By, Lays, CurN, PackA, PackM, Str, Opt, PackB, UnpackM, Unpack, PackO. -/
import Derived.BigQuiet
import Derived.Deep.QuietTactic
import Derived.DeepKeys4
import Derived.Lib.AppendStr
import Derived.Lib.BitFns
import Derived.Maps.Own
import Derived.Maps.OwnOps
import Derived.Maps.Views
import Derived.Outline
import Derived.Shelf.Strconv.Itoa0
import Derived.StillTailTactics
import Derived.Test.YtnghjkihdcmoiaaBun1
import Derived.Test.YtnghjkihdcmoiaaProg
import Derived.Test.YtnghjkihdcmoiaaRows
import Derived.WideKeyArr
/- Unlike cells of a row, and the places of all: plain lists. No program is named here. -/

namespace Go.Hm
open Go Go.RowKit
abbrev cellZ : CellS := (false, 0, [], 0, 0)
/-- One cell more: the unlike ones so far, and the places. -/
def entStep (s : List CellS × List Nat) (c : CellS) : List CellS × List Nat :=
  if c ∈ s.1 then (s.1, s.2 ++ [s.1.idxOf c]) else (s.1 ++ [c], s.2 ++ [s.1.length])
def entS (l : List CellS) : List CellS × List Nat := l.foldl entStep ([], [])
theorem entS_snoc (l : List CellS) (c : CellS) : entS (l ++ [c]) = entStep (entS l) c := by simp [entS]
/-- One place more: which is the next new one. -/
def ordStep (s : Option Nat) (p : Nat) : Option Nat :=
  match s with
  | none => none
  | some k => if k < p then none else if p = k then some (k + 1) else some k
def ordL (l : List Nat) : Option Nat := l.foldl ordStep (some 0)
theorem ordL_snoc (l : List Nat) (p : Nat) : ordL (l ++ [p]) = ordStep (ordL l) p := by simp [ordL]
theorem snoc_ind {α : Type} {C : List α → Prop} (h0 : C []) (h1 : ∀ l x, C l → C (l ++ [x])) : ∀ l, C l := fun l => by
  have : ∀ k, ∀ l : List α, l.length = k → C l := by
    intro k
    induction k with
    | zero => intro l hl; rw [List.length_eq_zero_iff.1 hl]; exact h0
    | succ k ih =>
      intro l hl
      have hne : l ≠ [] := by intro e; subst e; simp at hl
      rw [← List.dropLast_concat_getLast hne]
      exact h1 _ _ (ih _ (by simp [hl]))
  exact this _ l rfl
theorem ordL_take {l : List Nat} {m : Nat} (h : ordL l = some m) (k : Nat) : ∃ j, ordL (l.take k) = some j := by
  have key : ∀ l : List Nat, ∀ m, ordL l = some m → ∀ k, ∃ j, ordL (l.take k) = some j := by
    refine snoc_ind ?_ ?_
    · intro m h k; exact ⟨m, by simpa using h⟩
    · intro l x ih m h k
      by_cases hk : k ≤ l.length
      · rw [List.take_append_of_le_length hk]
        rw [ordL_snoc] at h
        cases hl : ordL l with
        | none => rw [hl] at h; simp [ordStep] at h
        | some j => exact ih j hl k
      · rw [List.take_of_length_le (by simp; omega)]
        exact ⟨m, h⟩
  exact key l m h k
theorem ordL_lt : ∀ (l : List Nat) (m : Nat), ordL l = some m → ∀ p ∈ l, p < m := by
  refine snoc_ind ?_ ?_
  · intro m _ p hp; simp at hp
  · intro l x ih m h p hp
    rw [ordL_snoc] at h
    cases hl : ordL l with
    | none => rw [hl] at h; simp [ordStep] at h
    | some j =>
      rw [hl] at h
      have hi := ih j hl
      unfold ordStep at h
      dsimp only at h
      split at h
      · cases h
      · split at h
        all_goals
          injection h with h
          rcases List.mem_append.1 hp with hp | hp
          · have := hi p hp; omega
          · rw [List.mem_singleton.1 hp]; omega
/-- E are the unlike cells of l, P the places of all. -/
structure IsEnt (l E : List CellS) (P : List Nat) : Prop where
  nodup : E.Nodup
  map : P.map (fun p => E.getD p cellZ) = l
  ord : ordL P = some E.length
theorem IsEnt.lt {l E : List CellS} {P : List Nat} (h : IsEnt l E P) : ∀ p ∈ P, p < E.length := ordL_lt P _ h.ord
theorem IsEnt.len {l E : List CellS} {P : List Nat} (h : IsEnt l E P) : P.length = l.length := by rw [← h.map, List.length_map]
theorem getD_app1 {α : Type} {E : List α} {c d : α} {p : Nat} (h : p < E.length) : (E ++ [c]).getD p d = E.getD p d := by
  rw [List.getD_eq_getElem?_getD, List.getD_eq_getElem?_getD, List.getElem?_append_left h]
theorem entS_is : ∀ l, IsEnt l (entS l).1 (entS l).2 := by
  refine snoc_ind ?_ ?_
  · exact ⟨by simp [entS], by simp [entS], by simp [entS, ordL]⟩
  · intro l c h
    rw [entS_snoc]
    obtain ⟨h1, h2, h3⟩ := h
    have hlt := ordL_lt _ _ h3
    generalize entS l = s at *
    obtain ⟨E, P⟩ := s
    dsimp only at h1 h2 h3 hlt
    unfold entStep
    dsimp only
    split
    · rename_i hc
      have hi : E.idxOf c < E.length := List.idxOf_lt_length_iff.2 hc
      refine ⟨h1, ?_, ?_⟩
      · rw [List.map_append, h2]
        congr 1
        simp only [List.map_cons, List.map_nil]
        rw [List.getD_eq_getElem?_getD, List.getElem?_eq_getElem hi, List.getElem_idxOf hi]
        rfl
      · rw [ordL_snoc, h3]
        unfold ordStep
        dsimp only
        rw [if_neg (by omega), if_neg (by omega)]
    · rename_i hc
      refine ⟨?_, ?_, ?_⟩
      · rw [List.nodup_append]
        refine ⟨h1, by simp, ?_⟩
        intro a ha b hb e
        rw [List.mem_singleton.1 hb] at e
        exact hc (e ▸ ha)
      · rw [List.map_append]
        congr 1
        · rw [← h2]
          exact List.map_congr_left fun p hp => getD_app1 (hlt p hp)
        · simp
      · rw [ordL_snoc, h3]
        unfold ordStep
        dsimp only
        rw [if_neg (by omega), if_pos rfl]
        simp
theorem idxOf_getD {E : List CellS} (h : E.Nodup) {p : Nat} (hp : p < E.length) : E.idxOf (E.getD p cellZ) = p := by
  rw [List.getD_eq_getElem?_getD, List.getElem?_eq_getElem hp, Option.getD_some]
  have hi : E.idxOf E[p] < E.length := List.idxOf_lt_length_iff.2 (List.getElem_mem hp)
  have := List.getElem_idxOf hi
  have hp' := List.pairwise_iff_getElem.1 h
  rcases Nat.lt_trichotomy (E.idxOf E[p]) p with hlt | heq | hgt
  · exact absurd this (hp' _ _ hi hp hlt)
  · exact heq
  · exact absurd this.symm (hp' _ _ hp hi hgt)
/-- There is one such pair. -/
theorem IsEnt.uniq : ∀ {l E : List CellS} {P : List Nat}, IsEnt l E P → entS l = (E, P) := by
  have key : ∀ P : List Nat, ∀ l E, IsEnt l E P → entS l = (E, P) := by
    refine snoc_ind ?_ ?_
    · intro l E h
      have h1 := h.map
      have h2 := h.ord
      simp only [List.map_nil] at h1
      subst h1
      simp [ordL] at h2
      have : E = [] := List.length_eq_zero_iff.1 (by omega)
      subst this
      rfl
    · intro P p ih l E h
      obtain ⟨h1, h2, h3⟩ := h
      rw [List.map_append] at h2
      simp only [List.map_cons, List.map_nil] at h2
      rw [ordL_snoc] at h3
      subst h2
      cases hk : ordL P with
      | none => rw [hk] at h3; simp [ordStep] at h3
      | some k =>
        rw [hk] at h3
        have hlt := ordL_lt _ _ hk
        unfold ordStep at h3
        dsimp only at h3
        rw [entS_snoc]
        split at h3
        · cases h3
        · split at h3
          · rename_i hpk
            injection h3 with h3
            subst hpk
            have e1 : E = E.take p ++ [E.getD p cellZ] := by
              have hp : p < E.length := by omega
              conv => lhs; rw [← List.take_append_drop p E, List.drop_eq_getElem_cons hp, List.drop_of_length_le (by omega)]
              rw [List.getD_eq_getElem?_getD, List.getElem?_eq_getElem hp]
              rfl
            have hl : (E.take p).length = p := by rw [List.length_take]; omega
            have hm : (P.map fun p => E.getD p cellZ) = P.map fun q => (E.take p).getD q cellZ := by
              refine List.map_congr_left fun q hq => ?_
              have := hlt q hq
              conv => lhs; rw [e1]
              exact getD_app1 (by omega)
            have hi := ih (P.map fun p => E.getD p cellZ) (E.take p) ⟨h1.sublist (List.take_sublist _ _), hm.symm, by rw [hk, hl]⟩
            rw [hi]
            have hn : E.getD p cellZ ∉ E.take p := by
              rw [e1, List.nodup_append] at h1
              intro hm
              exact h1.2.2 _ hm _ (by simp) rfl
            unfold entStep
            dsimp only
            rw [if_neg hn, hl, ← e1]
          · rename_i h4 h5
            injection h3 with h3
            have hp : p < E.length := by omega
            have hi := ih (P.map fun p => E.getD p cellZ) E ⟨h1, rfl, by rw [hk, h3]⟩
            rw [hi]
            have hm : E.getD p cellZ ∈ E := by
              rw [List.getD_eq_getElem?_getD, List.getElem?_eq_getElem hp]
              exact List.getElem_mem hp
            unfold entStep
            dsimp only
            rw [if_pos hm, idxOf_getD h1 hp]
  intro l E P h
  exact key P l E h
theorem entS_mem : ∀ l : List CellS, ∀ c, c ∈ (entS l).1 ↔ c ∈ l := by
  refine snoc_ind ?_ ?_
  · intro c; simp [entS]
  · intro l x ih c
    rw [entS_snoc]
    unfold entStep
    split
    · rename_i hx
      have := (ih x).1 hx
      rw [ih c, List.mem_append, List.mem_singleton]
      constructor
      · exact fun h => .inl h
      · rintro (h | rfl)
        · exact h
        · exact this
    · dsimp only
      rw [List.mem_append, List.mem_append, ih c]
theorem entS_le : ∀ l : List CellS, (entS l).1.length ≤ l.length := by
  refine snoc_ind ?_ ?_
  · simp [entS]
  · intro l x ih
    rw [entS_snoc]
    unfold entStep
    split
    · simp; omega
    · simp; omega
/-- As many unlike cells as cells: just if no two are alike. -/
theorem entS_nodup : ∀ l : List CellS, (entS l).1.length = l.length ↔ l.Nodup := by
  refine snoc_ind ?_ ?_
  · simp [entS]
  · intro l x ih
    have hle := entS_le l
    rw [entS_snoc]
    unfold entStep
    split
    · rename_i hx
      have hx := (entS_mem l x).1 hx
      constructor
      · intro h
        simp only [List.length_append, List.length_cons, List.length_nil] at h
        omega
      · intro h
        rw [List.nodup_append] at h
        exact absurd rfl (h.2.2 x hx x (by simp))
    · rename_i hx
      have hx : ¬ x ∈ l := fun h => hx ((entS_mem l x).2 h)
      simp only [List.length_append, List.length_cons, List.length_nil, Nat.add_right_cancel_iff]
      rw [ih, List.nodup_append]
      constructor
      · intro h
        refine ⟨h, by simp, ?_⟩
        intro a ha b hb e
        rw [List.mem_singleton.1 hb] at e
        exact hx (e ▸ ha)
      · exact fun h => h.1

end Go.Hm
/- Facts off this program's tables. -/

namespace Go.Proofs.Ytnghjkihdcmoiaa
open Go.Hm
theorem Try.own : ownKnob Try.prog.godebug = none := by kernel_rfl
theorem Try.laidOut : laidOutB Try.prog = true := by kernel_rfl
theorem elB : ElT Try.prog 25 5 (.int .u8 0) 1 1 := ⟨by kernel_rfl, by kernel_rfl, rfl, by omega⟩
theorem elW : ElT Try.prog 33 36 (.int .u64 0) 1 8 := ⟨by kernel_rfl, by kernel_rfl, rfl, by omega⟩
theorem run_strB {w : World} {B n c : Nat} {A : Option Addr} {l : List Nat} (h : Reads w B 1 A n (nums .u8 l)) : (convert 25 9 (.slice A n c)).run Try.prog w = .ok (.string (bstr l)) w :=
  run_str (e := 5) (by kernel_rfl) (by kernel_rfl) (by kernel_rfl) h

end Go.Proofs.Ytnghjkihdcmoiaa
/- Structs that came in, part by part. No program is named here. -/

namespace Go.Hm
open Go Go.RowKit Go.WideShapes Go.ChangeShapes Go.Deep

section
variable {H : Type} {enc : TypeId × Value → H} {P : Program} {W : World} {t e : TypeId} {cs : List Value} {n : Nat}
def fieldsOf (P : Program) (t : TypeId) : Array Field := match P.underlying t with | some (.struct fs) => fs | _ => #[]
theorem Held.part (h : Held enc P W t cs) (hs : P.underlying t = some (.struct (fieldsOf P t))) (i off n : Nat) {ft : TypeId} (hf : ((fieldsOf P t)[i]?.map fun f => (f.type, f.offset)) = some (ft, off)) (hn : P.cellsOf ft = n) : Held enc P W ft ((cs.drop off).take n) := by
  obtain ⟨_, hall⟩ := h.field hs
  cases hfi : (fieldsOf P t)[i]? with
  | none => rw [hfi] at hf; cases hf
  | some f =>
    rw [hfi] at hf
    simp only [Option.map_some, Option.some.injEq, Prod.mk.injEq] at hf
    obtain ⟨h1, h2⟩ := hf
    have := hall i f hfi
    rw [h1, h2, hn] at this
    exact this
theorem Held.partLen (h : Held enc P W t cs) (hs : P.underlying t = some (.struct (fieldsOf P t))) (hn : P.cellsOf t = n) : cs.length = n := (h.field hs).1.trans hn
theorem ints_recs (l : List Int) : recs (fun n : Int => [.int .i64 n]) l = ints .i64 l := by
  induction l with
  | nil => rfl
  | cons x l ih => rw [recs_cons, ih]; rfl
/-- A slice of numbers within what came in. -/
theorem Held.ints_ {te : TypeId} (ht : P.underlying t = some (.slice te)) (hC : P.cellsOf te = 1) (hby : P.bytesOf te = 8) (hi : P.underlying te = some (.int .i64)) (h : Held enc P W t cs) :
    ∃ A c, ∃ l : List Int, cs = [.slice A l.length c] ∧ l.length ≤ c ∧ c * 8 ≤ 140737488351232 ∧ Reads W W.heap.size 1 A l.length (ints .i64 l) ∧ ∀ x ∈ l, -9223372036854775808 ≤ x ∧ x ≤ 9223372036854775807 := by
  obtain ⟨A, c, l, h1, h2, _, h4, h5, h6⟩ := h.recs (f := fun n : Int => [.int .i64 n]) (sz := 1) (by_ := 8) (Q := fun x => -9223372036854775808 ≤ x ∧ x ≤ 9223372036854775807) 0 ht hC hby (fun _ => rfl) (by omega) (fun cs hh => by
    obtain ⟨n, e1, e2, e3⟩ := hh.i64 hi
    exact ⟨n, e1, e2, e3⟩)
  exact ⟨A, c, l, h1, h2, by unfold reachBytes at h4; omega, by rw [← ints_recs]; exact h5, h6⟩
/-- Only the header of a slice within what came in. -/
theorem Held.head {te : TypeId} (ht : P.underlying t = some (.slice te)) (h : Held enc P W t cs) : ∃ A n c, cs = [.slice A n c] ∧ n ≤ c ∧ c ≤ maxLen := by
  rcases h.slice ht with rfl | ⟨a, len, cap, rfl, hl, hm, _⟩
  · exact ⟨none, 0, 0, rfl, by omega, by simp [maxLen]⟩
  · exact ⟨some a, len, cap, rfl, hl, hm⟩
theorem list3 {α : Type} {l : List α} (h : l.length = 3) : ∃ a b c, l = [a, b, c] := by
  match l, h with
  | [a, b, c], _ => exact ⟨a, b, c, rfl⟩
end

end Go.Hm
/- Maps keyed by cells, of numbers: laws for the walk. -/

namespace Go.Hm
open Go Go.RowKit Go.Maps
abbrev DWn := DataW Unit
def numV (p : Nat) : Value := .int .u64 (p : Int)
def numD (p : Nat) : DWn := .lit (.int .u64 (p : Int))
def numR : Value → Option (DWn × List MemPlace)
  | .int .u64 a => some (.lit (.int .u64 a), [])
  | _ => none
theorem numR_mk (p : Nat) : numR (numV p) = some (numD p, []) := rfl
theorem numR_inv {v : Value} {z : DWn × List MemPlace} (h : numR v = some z) : ∃ p : Int, v = .int .u64 p ∧ z = (.lit (.int .u64 p), []) := by
  unfold numR at h
  split at h
  · rename_i a
    exact ⟨a, rfl, (Option.some.inj h).symm⟩
  · cases h
def Bok (c : CellS) : Prop := ∀ z ∈ c.2.2.1, z < 256
theorem cellA_inj {c d : CellS} (hc : Bok c) (hd : Bok d) (h : cellA c = cellA d) : c = d := by
  obtain ⟨a1, a2, a3, a4, a5⟩ := c
  obtain ⟨b1, b2, b3, b4, b5⟩ := d
  simp only [cellA, cellV, Value.agg.injEq, Array.mk.injEq, List.cons.injEq, Value.bool.injEq, Value.int.injEq, Value.string.injEq, true_and, and_true] at h
  obtain ⟨rfl, rfl, e, rfl, rfl⟩ := h
  have := congrArg (fun s => s.toList) e
  have hb := bstr_beq hc hd
  dsimp only at this hb
  rw [this] at hb
  simp at hb
  rw [hb]
theorem klc_struct {P : Program} {d : Nat} {t : TypeId} {fs : Array Field} {cs : List Value} {L : List (TypeId × Nat)} (hu : P.underlying t = some (.struct fs)) (hlen : cs.length = P.cellsOf t) (hn : fs.all (·.name != "_") = true)
    (e : fs.toList.map (fun f => (f.type, f.offset)) = L) : P.keyLits (d + 1) t cs = (L.mapM fun p => P.keyLits d p.1 ((cs.drop p.2).take (P.cellsOf p.1))).map List.flatten := by
  rw [← e, List.mapM_map]
  conv => lhs; unfold Program.keyLits
  simp only [hu]
  rw [if_pos ⟨hlen, hn⟩]
  rfl
theorem klc_bool {P : Program} {d : Nat} {t : TypeId} {b : Bool} (hu : P.underlying t = some .bool) : P.keyLits (d + 1) t [.bool b] = some [.bool b] := by
  unfold Program.keyLits
  simp only [hu]
theorem klc_i64 {P : Program} {d : Nat} {t : TypeId} {n : Int} (hu : P.underlying t = some (.int .i64)) (h : -9223372036854775808 ≤ n ∧ n ≤ 9223372036854775807) : P.keyLits (d + 1) t [.int .i64 n] = some [.int .i64 n] := by
  have hw : (Lit.int .i64 n).wf = true := by
    simp [Lit.wf, IntKind.min, IntKind.max, IntKind.signed, IntKind.bits]
    omega
  unfold Program.keyLits
  simp [hu, hw]
theorem klc_string {P : Program} {d : Nat} {t : TypeId} {s : ByteArray} (hu : P.underlying t = some .string) (h : s.size ≤ maxLen) : P.keyLits (d + 1) t [.string s] = some [.string s.data.toList] := by
  unfold Program.keyLits
  simp [hu, h]

section
variable {P : Program} {k e : TypeId}
/-- A map of the call's own reads as a function. -/
def MapC (P : Program) (k : TypeId) (w : World) (b n : Nat) (f : CellS → Option Nat) : Prop :=
  ∃ D : DWn, w.ownsMap P k numR b n D ∧ IsMap D ∧ ∀ c kl, Bok c → keyOf P k (cellA c) = some kl → ∀ zd, D.atKey kl zd = ((f c).map numD).getD zd
theorem MapC.made (w : World) : MapC P k (w.alloc (.map #[] 0)) w.heap.size 0 fun _ => none :=
  ⟨.map [], World.ownsMap_made _ _ _ _, isMap_empty, fun _ _ _ _ _ => rfl⟩
variable {w : World} {b n : Nat} {f : CellS → Option Nat}
theorem MapC.kept {w' : World} {row : Option Nat} (h : MapC P k w b n f) (hg : w.grownBy w' row) (hne : some b ≠ row) : MapC P k w' b n f := by
  obtain ⟨D, h1, h2, h3⟩ := h
  exact ⟨D, h1.kept hg hne, h2, h3⟩
theorem MapC.lt (h : MapC P k w b n f) : b < w.heap.size := by
  obtain ⟨D, h1, _⟩ := h
  exact h1.lt
theorem MapC.eqf {f' : CellS → Option Nat} (h : MapC P k w b n f) (e : ∀ c, Bok c → f c = f' c) : MapC P k w b n f' := by
  obtain ⟨D, h1, h2, h3⟩ := h
  exact ⟨D, h1, h2, fun c kl hc hk zd => by rw [h3 c kl hc hk zd, e c hc]⟩
theorem MapC.look {t : TypeId} (h : MapC P k w b n f) (K : Keyed P k) (ht : P.underlying t = some (.map k e)) (hz : (zeroValue e).run P w = .ok (numV 0) w) {c : CellS} (hc : Bok c) (hkey : ∃ kl, keyOf P k (cellA c) = some kl) :
    (Instr.lookup t (.map (some b)) (cellA c) true).run P w = .ok (.tuple #[numV ((f c).getD 0), .bool (f c).isSome]) w := by
  obtain ⟨D, ⟨es, clock, hb, F, _, rfl⟩, h2, h3⟩ := h
  obtain ⟨kl, hkey⟩ := hkey
  have h4 := h3 c kl hc hkey
  rcases fit_look true K ht hz hb F hkey with ⟨hrun, _, hat⟩ | ⟨e0, y, _, _, hrun, hRv, hat, _⟩
  · cases hf : f c with
    | none => exact hrun
    | some p =>
      rw [hf] at h4
      have h5 := (hat .nil).symm.trans (h4 .nil)
      cases h5
  · obtain ⟨p, hp, rfl⟩ := numR_inv hRv
    rw [hp] at hrun
    cases hf : f c with
    | none =>
      rw [hf] at h4
      have h5 := (hat .nil).symm.trans (h4 .nil)
      cases h5
    | some q =>
      rw [hf] at h4
      have h5 : (DataW.lit (.int .u64 p) : DWn) = numD q := (hat .nil).symm.trans (h4 .nil)
      simp only [numD, DataW.lit.injEq, Lit.int.injEq, true_and] at h5
      rw [h5] at hrun
      exact hrun
theorem MapC.put {t : TypeId} (h : MapC P k w b n f) (K : Keyed P k) (ht : P.underlying t = some (.map k e)) (hn : n < maxLen) {c : CellS} (hc : Bok c) (hkey : ∃ kl, keyOf P k (cellA c) = some kl) (p : Nat) :
    ∃ w', (Instr.mapUpdate t (.map (some b)) (cellA c) (numV p)).run P w = .ok () w' ∧ MapC P k w' b (n + 1) (fun d => if d = c then some p else f d) ∧ w.grownBy w' (some b) := by
  obtain ⟨D, h1, h2, h3⟩ := h
  obtain ⟨kl, hkey⟩ := hkey
  obtain ⟨w', hrun, ho, hg⟩ := h1.update K ht hn hkey (numR_mk p)
  refine ⟨w', hrun, ⟨_, ho, h2.put _ _, fun d km hd hm zd => ?_⟩, hg⟩
  by_cases he : d = c
  · subst he
    rw [hm] at hkey
    obtain rfl := Option.some.inj hkey
    show _ = ((if d = d then some p else f d).map numD).getD zd
    rw [if_pos rfl, atKey_put_same h2 (K.key hm)]
    rfl
  · show _ = ((if d = c then some p else f d).map numD).getD zd
    rw [if_neg he, atKey_put_other, h3 d km hd hm]
    intro hk
    subst hk
    exact he (cellA_inj hd hc (K.inj hm hkey))
theorem wpList_lookC {ops : Array Oper} {rest : List Oper} {o : Oper} {a : Act} {Q : Exit → Act → World → Prop} (hg : o.guard = none) (m x : Operand) (t : TypeId) (hop : o.op = Op.lookup t m x true)
    (K : Keyed P k) (ht : P.underlying t = some (.map k e)) (hz : (zeroValue e).run P w = .ok (numV 0) w) (hown : MapC P k w b n f) {c : CellS} (hc : Bok c) (hkey : ∃ kl, keyOf P k (cellA c) = some kl) (hm : a.eval m = .map (some b)) (hx : a.eval x = cellA c)
    (h : wpList P ops Q rest (a.put o.dst (.tuple #[numV ((f c).getD 0), .bool (f c).isSome])) w) : wpList P ops Q (o :: rest) a w := by
  refine wpList_plain hg fun K' hK' => ?_
  have hrun := hown.look K ht hz hc hkey
  unfold Oper.wp
  simp [execOp, hop, hm, hx, hrun, Result.andThen]
  exact hK' _ _ h
theorem wpList_putC {ops : Array Oper} {rest : List Oper} {o : Oper} {a : Act} {Q : Exit → Act → World → Prop} (hg : o.guard = none) (m x v : Operand) (t : TypeId) (hop : o.op = Op.mapUpdate t m x v)
    (K : Keyed P k) (ht : P.underlying t = some (.map k e)) (hown : MapC P k w b n f) (hn : n < maxLen) {c : CellS} (hc : Bok c) (hkey : ∃ kl, keyOf P k (cellA c) = some kl) (p : Nat)
    (hm : a.eval m = .map (some b)) (hx : a.eval x = cellA c) (hv : a.eval v = numV p)
    (h : ∀ w', MapC P k w' b (n + 1) (fun d => if d = c then some p else f d) → w.grownBy w' (some b) → wpList P ops Q rest (a.put o.dst undef) w') : wpList P ops Q (o :: rest) a w := by
  refine wpList_plain hg fun K' hK' => ?_
  obtain ⟨w', hrun, r1, r2⟩ := hown.put K ht hn hc hkey p
  unfold Oper.wp
  simp [execOp, hop, hm, hx, hv, hrun, Result.andThen]
  exact hK' _ _ (h w' r1 r2)
end

end Go.Hm

namespace Go.Proofs.Ytnghjkihdcmoiaa
open Go.RowKit Go.Hm
set_option maxRecDepth 100000 in
theorem key_cell {c : CellS} (h1 : c.2.2.1.length ≤ 140737488351232) (h2 : -9223372036854775808 ≤ c.2.1 ∧ c.2.1 ≤ 9223372036854775807) (h3 : -9223372036854775808 ≤ c.2.2.2.1 ∧ c.2.2.2.1 ≤ 9223372036854775807) (h4 : -9223372036854775808 ≤ c.2.2.2.2 ∧ c.2.2.2.2 ≤ 9223372036854775807) :
    ∃ kl, keyOf Try.prog 40 (cellA c) = some kl := by
  obtain ⟨a1, a2, a3, a4, a5⟩ := c
  dsimp only at h1 h2 h3 h4
  have hu : Try.prog.underlying 40 = some (.struct (fieldsOf Try.prog 40)) := by kernel_rfl
  have hp : Try.prog.underlying 38 = some (.struct (fieldsOf Try.prog 38)) := by kernel_rfl
  have kt : Try.prog.keyType 40 = true := by kernel_rfl
  have cc : Try.prog.cellsOf 40 = 5 := by kernel_rfl
  have cp : Try.prog.cellsOf 38 = 2 := by kernel_rfl
  have ci : Try.prog.cellsOf 3 = 1 := by kernel_rfl
  have cb : Try.prog.cellsOf 4 = 1 := by kernel_rfl
  have cs : Try.prog.cellsOf 9 = 1 := by kernel_rfl
  have ui : Try.prog.underlying 3 = some (.int .i64) := by kernel_rfl
  have ub : Try.prog.underlying 4 = some .bool := by kernel_rfl
  have us : Try.prog.underlying 9 = some .string := by kernel_rfl
  have e1 : (fieldsOf Try.prog 40).toList.map (fun f => (f.type, f.offset)) = [(4, 0), (3, 1), (9, 2), (38, 3)] := by kernel_rfl
  have e2 : (fieldsOf Try.prog 38).toList.map (fun f => (f.type, f.offset)) = [(3, 0), (3, 1)] := by kernel_rfl
  have n1 : (fieldsOf Try.prog 40).all (·.name != "_") = true := by kernel_rfl
  have n2 : (fieldsOf Try.prog 38).all (·.name != "_") = true := by kernel_rfl
  obtain ⟨m, hm⟩ : ∃ m, Try.prog.types.size = m + 2 := ⟨Try.prog.types.size - 2, by
    have : 2 ≤ Try.prog.types.size := of_decide_eq_true (by kernel_rfl)
    omega⟩
  have hf : (cellA (a1, a2, a3, a4, a5)).formed Try.prog 40 = true := by
    simp [cellA, cellV, Value.formed, hu, cc]
  unfold keyOf
  rw [hu]
  simp only [kt, hf, Bool.and_self, if_true, hm]
  have hz : (bstr a3).size ≤ maxLen := by rw [bstr_size]; unfold maxLen; omega
  have hcs : (cellA (a1, a2, a3, a4, a5)).cells.toList = [.bool a1, .int .i64 a2, .string (bstr a3), .int .i64 a4, .int .i64 a5] := by simp [cellA, cellV, Value.cells]
  rw [hcs, klc_struct hu (by rw [cc]; rfl) n1 e1]
  simp only [List.mapM_cons, List.mapM_nil, cb, ci, cs, cp, List.drop_succ_cons, List.drop_zero, List.take_succ_cons, List.take_zero]
  rw [klc_bool ub, klc_i64 ui h2, klc_string us hz, klc_struct hp (by rw [cp]; rfl) n2 e2]
  simp only [List.mapM_cons, List.mapM_nil, ci, List.drop_succ_cons, List.drop_zero, List.take_succ_cons, List.take_zero]
  rw [klc_i64 ui h3, klc_i64 ui h4]
  exact ⟨_, rfl⟩
theorem rowC : (40 : TypeId) < Try.prog.types.size := of_decide_eq_true (by kernel_rfl)
theorem keyedC : Maps.Keyed Try.prog 40 := Maps.Keyed.of_law (deep_law_laid Try.laidOut (m := 3) (by omega) rowC (by kernel_rfl) (by kernel_rfl))
theorem mapCT : Try.prog.underlying 52 = some (.map 40 36) := by kernel_rfl
theorem zeroU (w : World) : (zeroValue 36).run Try.prog w = .ok (numV 0) w := by kernel_rfl

end Go.Proofs.Ytnghjkihdcmoiaa
/- bits.Len64's contract, laid at this seat (the fields are the program's own facts). -/

namespace Go.Proofs.Ytnghjkihdcmoiaa
open Go.Shelf
def lays129_ren : Go.Shelf.Ren := ⟨fun | 129 => 50 | n => n, fun | 53 => 36 | 3 => 3 | 4 => 4 | 46 => 63 | 5 => 5 | 9 => 9 | n => n, fun | n => n⟩
theorem lays129 : Go.Proofs.Lays.n129 Try.prog lays129_ren := {
  mixed := by kernel_rfl
  f129 := Try.func50.trans (congrArg some (by kernel_rfl))
  t3 := Try.underlying3
  a3 := Try.isAgg3
  z3 := Try.sizeOf3
  v3 := Try.zeroValue3
  t4 := Try.underlying4
  a4 := Try.isAgg4
  z4 := Try.sizeOf4
  v4 := Try.zeroValue4
  t5 := Try.underlying5
  a5 := Try.isAgg5
  z5 := Try.sizeOf5
  v5 := Try.zeroValue5
  t9 := Try.underlying9
  a9 := Try.isAgg9
  z9 := Try.sizeOf9
  v9 := Try.zeroValue9
  t46 := Try.underlying63
  a46 := Try.isAgg63
  z46 := Try.sizeOf63
  v46 := Try.zeroValue63
  t53 := Try.underlying36
  a53 := Try.isAgg36
  z53 := Try.sizeOf36
  v53 := Try.zeroValue36 }
theorem bits_Len64 (x : Int) (w : World) (h0 : 0 ≤ x) (h1 : x ≤ 18446744073709551615) :
    Calls Try.prog 50 #[.int .u64 x] w fun e w' => e = .returned (.int .i64 (Lib.bitLen x.toNat)) ∧ w' = w := Any.bits_Len64 lays129 x w h0 h1

end Go.Proofs.Ytnghjkihdcmoiaa
/- What the walk's operations on bits come to, as numbers. No program is named here. -/

namespace Go.Hm
open Go

theorem or_shl (x y k : Nat) (hy : y < 2 ^ k) : (x * 2 ^ k) ||| y = x * 2 ^ k + y := by
  rw [Nat.mul_comm, ← Nat.two_pow_add_eq_or_of_lt hy]
theorem or_add (x y k : Nat) (hy : y < 2 ^ k) (hx : x % 2 ^ k = 0) : x ||| y = x + y := nat_join k x y hx hy
theorem or128 (x : Nat) : bits .or .u8 ((x : Int) % 256) 128 = ((x % 128 + 128 : Nat) : Int) := by
  have h := u8_or_nat (x % 256) 128 (by omega) (by omega)
  rw [show ((x : Int) % 256) = ((x % 256 : Nat) : Int) from by omega, show (128 : Int) = ((128 : Nat) : Int) from rfl, h]
  congr 1
  by_cases hx : x % 256 < 128
  · rw [Nat.or_comm, or_add 128 (x % 256) 7 hx rfl]; omega
  · have e : x % 256 = 128 + x % 128 := by omega
    rw [e, Nat.or_comm, ← or_add 128 (x % 128) 7 (by omega) rfl, ← Nat.or_assoc, Nat.or_self, or_add 128 (x % 128) 7 (by omega) rfl]; omega

theorem num_take_lt (T : List Nat) (k : Nat) (hk : k ≤ T.length) (h8 : ∀ x ∈ T, x < 256) : num (T.take k) < 2 ^ (8 * k) := by
  have h := num_lt (T.take k) (fun x hx => h8 x (List.mem_of_mem_take hx))
  rw [List.length_take, Nat.min_eq_left hk, show (256 : Nat) = 2 ^ 8 from rfl, ← Nat.pow_mul] at h
  exact h
theorem getD_lt (T : List Nat) (k : Nat) (h8 : ∀ x ∈ T, x < 256) : T.getD k 0 < 256 := by
  by_cases hk : k < T.length
  · rw [List.getD_eq_getElem?_getD, List.getElem?_eq_getElem hk]
    exact h8 _ (List.getElem_mem hk)
  · rw [List.getD_eq_getElem?_getD, List.getElem?_eq_none (by omega)]
    simp
theorem num_step (T : List Nat) (k : Nat) (hk : k < T.length) (h8 : ∀ x ∈ T, x < 256) : num (T.take k) ||| (T.getD k 0 * 2 ^ (8 * k)) = num (T.take (k + 1)) := by
  rw [take_snoc T k 0 hk, num_snoc, List.length_take, Nat.min_eq_left (by omega), Nat.or_comm, or_shl _ _ _ (num_take_lt T k (by omega) h8), show (256 : Nat) = 2 ^ 8 from rfl, ← Nat.pow_mul, Nat.add_comm]
theorem mul_two_pow_lt {x k m : Nat} (hx : x < 256) (hk : 8 * (k + 1) ≤ m) : x * 2 ^ (8 * k) < 2 ^ m := by
  have h1 : x * 2 ^ (8 * k) < 256 * 2 ^ (8 * k) := Nat.mul_lt_mul_of_pos_right hx (Nat.two_pow_pos _)
  have h2 : 256 * 2 ^ (8 * k) = 2 ^ (8 * (k + 1)) := by rw [Nat.mul_add, Nat.pow_add, Nat.mul_comm]
  have h3 : 2 ^ (8 * (k + 1)) ≤ 2 ^ m := Nat.pow_le_pow_right (by omega) hk
  omega
theorem num_step_u8 (T : List Nat) (k : Nat) (hk : k < T.length) (hT : T.length ≤ 1) (h8 : ∀ x ∈ T, x < 256) :
    bits .or .u8 ((num (T.take k) : Nat) : Int) (((T.getD k 0 : Nat) : Int) * 2 ^ (8 * k) % 256) = ((num (T.take (k + 1)) : Nat) : Int) := by
  have hx := getD_lt T k h8
  have hm := mul_two_pow_lt (m := 8) hx (show 8 * (k + 1) ≤ 8 by omega)
  have hn := num_take_lt T k (by omega) h8
  have hn2 : 2 ^ (8 * k) ≤ 2 ^ 8 := Nat.pow_le_pow_right (by omega) (by omega)
  have e1 : (((T.getD k 0 : Nat) : Int) * 2 ^ (8 * k) % 256) = ((T.getD k 0 * 2 ^ (8 * k) : Nat) : Int) := by
    have e2 : ((T.getD k 0 * 2 ^ (8 * k) : Nat) : Int) = ((T.getD k 0 : Nat) : Int) * 2 ^ (8 * k) := by simp
    have e3 : ((T.getD k 0 * 2 ^ (8 * k) : Nat) : Int) < 256 := by
      have : T.getD k 0 * 2 ^ (8 * k) < 256 := hm
      omega
    rw [e2] at e3 ⊢
    skip
    exact Int.emod_eq_of_lt (by rw [← e2]; omega) e3
  rw [e1, u8_or_nat _ _ (Nat.lt_of_lt_of_le hn hn2) hm, num_step T k hk h8]
theorem num_step_u32 (T : List Nat) (k : Nat) (hk : k < T.length) (hT : T.length ≤ 4) (h8 : ∀ x ∈ T, x < 256) :
    bits .or .u32 ((num (T.take k) : Nat) : Int) (((T.getD k 0 : Nat) : Int) % 4294967296 * 2 ^ (8 * k) % 4294967296) = ((num (T.take (k + 1)) : Nat) : Int) := by
  have hx := getD_lt T k h8
  have hm := mul_two_pow_lt (m := 32) hx (show 8 * (k + 1) ≤ 32 by omega)
  have hn := num_take_lt T k (by omega) h8
  have hn2 : 2 ^ (8 * k) ≤ 2 ^ 32 := Nat.pow_le_pow_right (by omega) (by omega)
  have e1 : (((T.getD k 0 : Nat) : Int) % 4294967296 * 2 ^ (8 * k) % 4294967296) = ((T.getD k 0 * 2 ^ (8 * k) : Nat) : Int) := by
    have e2 : ((T.getD k 0 * 2 ^ (8 * k) : Nat) : Int) = ((T.getD k 0 : Nat) : Int) * 2 ^ (8 * k) := by simp
    have e3 : ((T.getD k 0 * 2 ^ (8 * k) : Nat) : Int) < 4294967296 := by
      have : T.getD k 0 * 2 ^ (8 * k) < 4294967296 := hm
      omega
    rw [e2] at e3 ⊢
    rw [Int.emod_eq_of_lt (a := ((T.getD k 0 : Nat) : Int)) (by omega) (by omega)]
    exact Int.emod_eq_of_lt (by rw [← e2]; omega) e3
  rw [e1, u32_or_nat _ _ (Nat.lt_of_lt_of_le hn hn2) hm, num_step T k hk h8]
theorem num_step_u64 (T : List Nat) (k : Nat) (hk : k < T.length) (hT : T.length ≤ 8) (h8 : ∀ x ∈ T, x < 256) :
    bits .or .u64 ((num (T.take k) : Nat) : Int) (IntKind.u64.wrap (IntKind.u64.wrap ((T.getD k 0 : Nat) : Int) * 2 ^ (8 * k))) = ((num (T.take (k + 1)) : Nat) : Int) := by
  rw [IntKind.wrap_u64, IntKind.wrap_u64]
  have hx := getD_lt T k h8
  have hm := mul_two_pow_lt (m := 64) hx (show 8 * (k + 1) ≤ 64 by omega)
  have hn := num_take_lt T k (by omega) h8
  have hn2 : 2 ^ (8 * k) ≤ 2 ^ 64 := Nat.pow_le_pow_right (by omega) (by omega)
  have e1 : (((T.getD k 0 : Nat) : Int) % 18446744073709551616 * 2 ^ (8 * k) % 18446744073709551616) = ((T.getD k 0 * 2 ^ (8 * k) : Nat) : Int) := by
    have e2 : ((T.getD k 0 * 2 ^ (8 * k) : Nat) : Int) = ((T.getD k 0 : Nat) : Int) * 2 ^ (8 * k) := by simp
    have e3 : ((T.getD k 0 * 2 ^ (8 * k) : Nat) : Int) < 18446744073709551616 := by
      have : T.getD k 0 * 2 ^ (8 * k) < 18446744073709551616 := hm
      omega
    rw [e2] at e3 ⊢
    rw [Int.emod_eq_of_lt (a := ((T.getD k 0 : Nat) : Int)) (by omega) (by omega)]
    exact Int.emod_eq_of_lt (by rw [← e2]; omega) e3
  rw [e1, u64_or_nat _ _ (Nat.lt_of_lt_of_le hn hn2) hm, num_step T k hk h8]
theorem byte_at (x k : Nat) : ((x : Int) / 2 ^ (8 * k) % 256) = ((x / 256 ^ k % 256 : Nat) : Int) := by
  rw [show (256 : Nat) ^ k = 2 ^ (8 * k) by rw [show (256 : Nat) = 2 ^ 8 from rfl, ← Nat.pow_mul]]
  simp

end Go.Hm
/- Contracts of package cursor. -/

namespace Go.Proofs.Ytnghjkihdcmoiaa
open Go.RowKit Go.Hm

/-- Block g is a cursor with the bytes l left. -/
def Cur (w : World) (g : Nat) (l : List Nat) (bad : Bool) : Prop :=
  ∃ A c, Blk w g 66 #[.slice A l.length c, .bool bad] ∧ l.length ≤ c ∧ c ≤ maxLen ∧ TR w 5 A l.length (nums .u8 l) ∧ (∀ x ∈ l, x < 256) ∧ (bad = true → l = [])

section
variable {w w' : World} {g : Nat} {l : List Nat} {bad : Bool}
theorem Cur.lt (h : Cur w g l bad) : g < w.heap.size := by
  obtain ⟨A, c, h1, _⟩ := h
  exact h1.lt
theorem Cur.len (h : Cur w g l bad) : l.length ≤ maxLen := by
  obtain ⟨A, c, _, h1, h2, _⟩ := h
  omega
theorem Cur.below (h : Cur w g l bad) (hb : Below w.heap.size w w') : Cur w' g l bad := by
  obtain ⟨A, c, h1, h2, h3, h4, h5, h6⟩ := h
  exact ⟨A, c, h1.below hb h1.lt, h2, h3, h4.below hb, h5, h6⟩
theorem Cur.keep {g' : Nat} {t : TypeId} {cs : Array Value} (h : Cur w g l bad) (hg : w.grownBy w' (some g')) (hT : Blk w g' t cs) (hne : g ≠ g') (ht : 5 ≠ t) : Cur w' g l bad := by
  obtain ⟨A, c, h1, h2, h3, h4, h5, h6⟩ := h
  exact ⟨A, c, h1.grown hg (by simpa using hne), h2, h3, h4.keep hg hT ht, h5, h6⟩
theorem Cur.blk (h : Cur w g l bad) : ∃ cs, Blk w g 66 cs := by
  obtain ⟨A, c, h1, _⟩ := h
  exact ⟨_, h1⟩
end

def Unit0 : Ending := .returned (.tuple #[])
def CurPost (e0 : Ending) (g : Nat) (l : List Nat) (bad : Bool) (w : World) (e : Ending) (w' : World) : Prop := e = e0 ∧ Cur w' g l bad ∧ w.grownBy w' (some g)

theorem setCell2_grown {w : World} {g i j : Nat} {x y : Value} : w.grownBy ((w.setCell ⟨g, i, none⟩ x).setCell ⟨g, j, none⟩ y) (some g) :=
  ⟨rfl, rfl, rfl, by simp [World.setCell], fun k _ hne => (Below.heap_setCell _ _ _ _ (by intro e; exact hne (by rw [e]))).trans (Below.heap_setCell _ _ _ _ (by intro e; exact hne (by rw [e])))⟩
theorem setCell_grown {w : World} {g i : Nat} {x : Value} : w.grownBy (w.setCell ⟨g, i, none⟩ x) (some g) :=
  ⟨rfl, rfl, rfl, by simp [World.setCell], fun k _ hne => Below.heap_setCell _ _ _ _ (by intro e; exact hne (by rw [e]))⟩

set_option maxHeartbeats 400000 in
theorem fail_any {w : World} {g : Nat} {l : List Nat} {bad : Bool} (h : Cur w g l bad) :
    Calls Try.prog 36 #[.pointer (some ⟨g, 0, none⟩)] w (CurPost (.returned (.tuple #[])) g [] true w) := by
  obtain ⟨A, c, h1, h2, h3, h4, h5, h6⟩ := h
  have c0 := h1.cell 0
  have c1 := h1.cell 1
  have f0 := h1.frozen 0
  have f1 := h1.frozen 1
  simp at c0 c1
  have H1 := Lib.hid h1
  clear h1
  go_enter Try.func36, Try.ntmps36
  go_wp2
  go_end0
  refine ⟨rfl, ⟨none, 0, ?_, by simp, by simp [maxLen], TR.nil_, by simp, by simp⟩, setCell2_grown⟩
  simpa using (H1.out.set_ 0 (.slice none 0 0)).set_ 1 (.bool true)

def LeftPost (l : List Nat) (w : World) (e : Ending) (w' : World) : Prop := e = .returned (.int .i64 (l.length : Int)) ∧ w = w'
def BadPost (b : Bool) (w : World) (e : Ending) (w' : World) : Prop := e = .returned (.bool b) ∧ w = w'

set_option maxHeartbeats 400000 in
theorem left_any {w : World} {g : Nat} {l : List Nat} {bad : Bool} (h : Cur w g l bad) : Calls Try.prog 18 #[.pointer (some ⟨g, 0, none⟩)] w (LeftPost l w) := by
  obtain ⟨A, c, h1, h2, h3, h4, h5, h6⟩ := h
  have c0 := h1.cell 0
  simp at c0
  clear h1 h4 h5 h6
  go_enter Try.func18, Try.ntmps18
  go_wp2
  go_ret
  exact ⟨rfl, rfl⟩

set_option maxHeartbeats 400000 in
theorem bad_any {w : World} {g : Nat} {l : List Nat} {bad : Bool} (h : Cur w g l bad) : Calls Try.prog 21 #[.pointer (some ⟨g, 0, none⟩)] w (BadPost bad w) := by
  obtain ⟨A, c, h1, h2, h3, h4, h5, h6⟩ := h
  have c1 := h1.cell 1
  simp at c1
  clear h1 h4 h5 h6
  go_enter Try.func21, Try.ntmps21
  go_wp2
  go_ret
  exact ⟨rfl, rfl⟩

set_option maxHeartbeats 400000 in
theorem end_any {w : World} {g : Nat} {l : List Nat} {bad : Bool} (h : Cur w g l bad) : Calls Try.prog 39 #[.pointer (some ⟨g, 0, none⟩)] w (BadPost (!bad && l.isEmpty) w) := by
  obtain ⟨A, c, h1, h2, h3, h4, h5, h6⟩ := h
  have c0 := h1.cell 0
  have c1 := h1.cell 1
  simp at c0 c1
  clear h1 h4 h5 h6
  cases bad
  · go_enter Try.func39, Try.ntmps39
    go_wp2
    go_ret
    refine ⟨?_, rfl⟩
    cases l <;> simp
    omega
  · go_enter Try.func39, Try.ntmps39
    go_wp2
    go_ret
    exact ⟨rfl, rfl⟩

def NextPost (g : Nat) (l : List Nat) (n : Nat) (w : World) (e : Ending) (w' : World) : Prop :=
  ∃ A c, e = .returned (.slice A n c) ∧ TR w' 5 A n (nums .u8 (l.take n)) ∧ Cur w' g (l.drop n) false ∧ w.grownBy w' (some g)

theorem next_fin {w : World} {g : Nat} {l : List Nat} {n c : Nat} {A A' : Option Addr} (h1 : Blk w g 66 #[.slice A l.length c, .bool false]) (h2 : l.length ≤ c) (h3 : c ≤ maxLen) (h4 : TR w 5 A l.length (nums .u8 l)) (h5 : ∀ x ∈ l, x < 256) (hn : n ≤ l.length)
    (hA : A' = if c = n then A else A.map (·.add n)) : NextPost g l n w (.returned (.slice A n c)) (w.setCell ⟨g, 0, none⟩ (.slice A' (l.length - n) (c - n))) := by
  have hg : w.grownBy (w.setCell ⟨g, 0, none⟩ (.slice A' (l.length - n) (c - n))) (some g) := setCell_grown
  have ht := h4.take hn
  rw [nums_take] at ht
  have hc := h4.cut hn h2
  rw [nums_drop, ← hA] at hc
  refine ⟨A, c, rfl, ht.keep hg h1 (by decide), ⟨A', c - n, ?_, by rw [List.length_drop]; omega, by omega, ?_, fun x hx => h5 x (List.mem_of_mem_drop hx), by simp⟩, hg⟩
  · rw [List.length_drop]
    simpa using h1.set_ 0 (.slice A' (l.length - n) (c - n))
  · rw [List.length_drop]
    exact hc.keep hg h1 (by decide)

set_option maxHeartbeats 400000 in
theorem next_good {w : World} {g : Nat} {l : List Nat} {n : Nat} (h : Cur w g l false) (hn : n ≤ l.length) : Calls Try.prog 40 #[.pointer (some ⟨g, 0, none⟩), .int .i64 (n : Int)] w (NextPost g l n w) := by
  obtain ⟨A, c, h1, h2, h3, h4, h5, _⟩ := h
  have c0 := h1.cell 0
  have c1 := h1.cell 1
  have f0 := h1.frozen 0
  simp at c0 c1
  have F := Lib.hid (next_fin (A' := if c = n then A else A.map (·.add n)) h1 h2 h3 h4 h5 hn rfl)
  clear h1 h4 h5
  have h3' := h3
  unfold maxLen at h3'
  by_cases hcn : c = n
  · subst hcn
    go_enter Try.func40, Try.ntmps40
    go_wp2
    all_goals first | (exfalso; omega) | go_ret
    have F' := F.out
    rw [show l.length - c = 0 by omega, Nat.sub_self] at F'
    simpa using F'
  · have Hcn := Lib.hid hcn
    clear hcn
    go_enter Try.func40, Try.ntmps40
    go_wp2
    all_goals first | (exfalso; have := Hcn.out; omega) | go_ret
    have F' := F.out
    rw [if_neg Hcn.out] at F'
    exact F'

def NoneSlice : Ending := .returned (.slice none 0 0)
set_option maxHeartbeats 400000 in
theorem next_bad {w : World} {g : Nat} {l : List Nat} {bad : Bool} {n : Int} (h : Cur w g l bad) (hn : bad = true ∨ n < 0 ∨ (l.length : Int) < n) (h1 : -9223372036854775808 ≤ n) (h2 : n ≤ 9223372036854775807) :
    Calls Try.prog 40 #[.pointer (some ⟨g, 0, none⟩), .int .i64 n] w (CurPost (.returned (.slice none 0 0)) g [] true w) := by
  have hF := fail_any h
  have HF := Lib.hid hF
  clear hF
  obtain ⟨A, c, b1, _, _, _, _, _⟩ := h
  have c0 := b1.cell 0
  have c1 := b1.cell 1
  simp at c0 c1
  clear b1
  cases bad
  · by_cases hn0 : n < 0
    · clear hn
      go_enter Try.func40, Try.ntmps40
      go_wp2_with (go_at_call 36; refine HF.out.mono ?_; rintro e w' ⟨rfl, k1, k2⟩)
      go_ret
      exact ⟨rfl, k1, k2⟩
    · have hn1 : (l.length : Int) < n := by rcases hn with hn | hn | hn <;> first | cases hn | omega
      clear hn
      have hn0' : 0 ≤ n := by omega
      clear hn0
      go_enter Try.func40, Try.ntmps40
      go_wp2_with (go_at_call 36; refine HF.out.mono ?_; rintro e w' ⟨rfl, k1, k2⟩)
      go_ret
      exact ⟨rfl, k1, k2⟩
  · clear hn
    go_enter Try.func40, Try.ntmps40
    go_wp2_with (go_at_call 36; refine HF.out.mono ?_; rintro e w' ⟨rfl, k1, k2⟩)
    go_ret
    exact ⟨rfl, k1, k2⟩

/-- bytes.Clone: a copy of one's own. -/
def ClonePost (l : List Nat) (w : World) (e : Ending) (w' : World) : Prop :=
  ∃ A n c, e = .returned (.slice A n c) ∧ Own w' w.heap.size 5 (.slice A n c) (nums .u8 l) ∧ Below w.heap.size w w'

set_option maxHeartbeats 400000 in
theorem clone_any {w : World} {A : Option Addr} {n c : Nat} {l : List Nat} (h : Reads w w.heap.size 1 A n (nums .u8 l)) (hl : n ≤ 140737488355328) :
    Calls Try.prog 34 #[.slice A n c] w (ClonePost l w) := by
  obtain rfl := h.len
  rcases A with _ | ad
  · have hl0 : l.length = 0 := by
      rcases Nat.eq_zero_or_pos l.length with h0 | h0
      · exact h0
      · obtain ⟨ad, h', _⟩ := h.2 h0
        cases h'
    obtain rfl : l = [] := List.eq_nil_of_length_eq_zero hl0
    have hq := fun W : World => Lib.run_eql_slice_nil (P := Try.prog) W 25 5 none 0 c 0 0 elB.ht
    go_enter Try.func34, Try.ntmps34
    go_wp2
    go_ret
    exact ⟨none, 0, 0, rfl, Own.nil_, Below.refl _ _⟩
  · have hq := fun W : World => Lib.run_eql_slice_nil (P := Try.prog) W 25 5 (some ad) l.length c 0 0 elB.ht
    go_enter Try.func34, Try.ntmps34
    go_wp2_with (first
      | (refine wpList_pushesN elB rfl (.tmp 5) (.tmp 6) rfl (W := w) (B := w.heap.size) (k := .u8) (l := []) (l2 := l) (c2 := c) (Own.empty _ _) ((h.alloc (Nat.le_refl _) _).more (by simp)) rfl rfl ((Below.refl _ _).alloc (Nat.le_refl _) _) (Nat.le_refl _) (by simp) (by omega) (by simp only [maxLen]; omega) ?_
         simp only [Nat.zero_add, List.nil_append]
         intro A' c' w' k1 k2 k3 k4 k5 k6))
    go_ret
    exact ⟨A', _, c', rfl, k3, k5⟩

def OverPost (l : List Nat) (w : World) (e : Ending) (w' : World) : Prop :=
  ∃ g, e = .returned (.pointer (some ⟨g, 0, none⟩)) ∧ w.heap.size ≤ g ∧ Cur w' g l false ∧ Below w.heap.size w w'

set_option maxHeartbeats 400000 in
theorem over_any {w : World} {A : Option Addr} {n c : Nat} {l : List Nat} (h : Reads w w.heap.size 1 A n (nums .u8 l)) (hl : n ≤ 140737488355328) (h8 : ∀ x ∈ l, x < 256) :
    Calls Try.prog 16 #[.slice A n c] w (OverPost l w) := by
  obtain rfl := h.len
  go_enter Try.func16, Try.ntmps16
  go_wp2_with (go_at_call 34; refine (clone_any h hl).mono ?_; rintro e w1 ⟨A', n', c', rfl, k1, k2⟩)
  go_ret
  have hc := k1.cap
  obtain rfl : n' = l.length := by have := k1.len; rwa [nums_length] at this
  exact ⟨_, rfl, k2.size, ⟨A', c', Blk.new _ _ _, by omega, by omega, (TR.of_own k1).alloc _, h8, by simp⟩, k2.alloc k2.size _⟩

def TakePost (g : Nat) (l : List Nat) (n : Nat) (w : World) (e : Ending) (w' : World) : Prop :=
  ∃ A c, e = .returned (.slice A n c) ∧ Own w' w.heap.size 5 (.slice A n c) (nums .u8 (l.take n)) ∧ Cur w' g (l.drop n) false ∧ w.grownBy w' (some g)

theorem grown_below {w w1 w2 : World} {row : Option Nat} (h : w.grownBy w1 row) (hb : Below w1.heap.size w1 w2) : w.grownBy w2 row :=
  ⟨hb.os.trans h.os, hb.tape.trans h.tape, hb.output.trans h.output, Nat.le_trans h.size hb.size, fun k hk hne => (hb.block k (Nat.lt_of_lt_of_le hk h.size)).trans (h.block k hk hne)⟩

set_option maxHeartbeats 400000 in
theorem take_good {w : World} {g : Nat} {l : List Nat} {n : Nat} (h : Cur w g l false) (hn : n ≤ l.length) (hs : n ≤ 140737488355328) :
    Calls Try.prog 20 #[.pointer (some ⟨g, 0, none⟩), .int .i64 (n : Int)] w (TakePost g l n w) := by
  have hlt : (l.take n).length = n := by rw [List.length_take]; omega
  go_enter Try.func20, Try.ntmps20
  go_wp2_with (first
    | (go_at_call 40; refine (next_good h hn).mono ?_; rintro e w1 ⟨A', c', rfl, k1, k2, k3⟩
       have k4 := k1.1
       have C := Lib.hid (clone_any (c := c') k4 hs)
       have hg := k3.size)
    | (go_at_call 34; refine C.out.mono ?_; rintro e w2 ⟨A2, n2, c2, rfl, k5, k6⟩))
  go_ret
  obtain rfl : n2 = n := by have := k5.len; rwa [nums_length, hlt] at this
  exact ⟨A2, c2, rfl, k5.base_le hg, k2.below k6, grown_below k3 k6⟩

set_option maxHeartbeats 400000 in
theorem take_bad {w : World} {g : Nat} {l : List Nat} {bad : Bool} {n : Int} (h : Cur w g l bad) (hn : bad = true ∨ n < 0 ∨ (l.length : Int) < n) (h1 : -9223372036854775808 ≤ n) (h2 : n ≤ 9223372036854775807) :
    Calls Try.prog 20 #[.pointer (some ⟨g, 0, none⟩), .int .i64 n] w (CurPost (.returned (.slice none 0 0)) g [] true w) := by
  have HN := Lib.hid (next_bad h hn h1 h2)
  clear hn h1 h2
  have hq := fun W : World => Lib.run_eql_slice_nil (P := Try.prog) W 25 5 none 0 0 0 0 elB.ht
  go_enter Try.func20, Try.ntmps20
  go_wp2_with (first
    | (go_at_call 40; refine HN.out.mono ?_; rintro e w1 ⟨rfl, k1, k2⟩)
    | (go_at_call 34; go_in))
  go_ret
  exact ⟨rfl, k1, k2⟩

end Go.Proofs.Ytnghjkihdcmoiaa
/- What a call answers that lays bytes. -/

namespace Go.Proofs.Ytnghjkihdcmoiaa
open Go.RowKit Go.Hm
/-- What a call answers that lays bytes: l, in memory of its own. -/
def BytesPost (l : List Nat) (w : World) (e : Ending) (w' : World) : Prop :=
  ∃ A n c, e = .returned (.slice A n c) ∧ Own w' w.heap.size 5 (.slice A n c) (nums .u8 l) ∧ Below w.heap.size w w'

end Go.Proofs.Ytnghjkihdcmoiaa
/- Contracts of package cursor: laying numbers. -/

namespace Go.Proofs.Ytnghjkihdcmoiaa
open Go.RowKit Go.Hm


set_option maxHeartbeats 1000000 in
set_option maxRecDepth 100000 in
theorem put_u64 {w : World} {A : Option Addr} {n c : Nat} {l : List Nat} (x : Nat) (h : Reads w w.heap.size 1 A n (nums .u8 l)) (hl : n ≤ 140737488355200) :
    Calls Try.prog 57 #[.slice A n c, .int .u64 (x : Int), .int .i64 8] w (BytesPost (l ++ low x 8) w) := by
  obtain rfl := h.len
  go_enter Try.func57, Try.ntmps57
  go_wp2_with (first
    | (refine wpList_mk elB rfl (.tmp 10) (.tmp 14) rfl (W := w) (B := w.heap.size) l.length (l.length + 8) rfl rfl rfl (by simp) (by omega) (Below.refl _ _) (Nat.le_refl _) rfl (by omega) (by simp only [maxLen]; omega) ?_
       intro w1 hown1 hg1 hb1 hs1)
    | (refine wpList_cp elB rfl (.tmp 16) (.tmp 17) rfl (W := w) (B := w.heap.size) hown1 (h.grown_far hg1 (by simp)) rfl rfl l.length (Nat.min_self _) hb1 (Nat.le_refl _) (nums_oneCell _ _) ?_
       intro w2 hown2 hg2 hb2 hs2))
  rw [List.take_of_length_le (by rw [nums_length]; omega), List.drop_of_length_le (by simp), List.append_nil] at hown2
  have hs0 := hb2.size
  clear hown1 hg1 hb1 hs1 hg2 hs2
  go_loopw [7, 20] (fun v i wr => ∃ (k : Nat) (A : Option Addr) (c : Nat), k ≤ 8 ∧ i = .int .i64 (k : Int) ∧ v = .slice A (l.length + k) c ∧ Own wr w.heap.size 5 (.slice A (l.length + k) c) (nums .u8 (l ++ low x k)) ∧ Below w.heap.size w wr) (fun _ i _ => 8 - (intOf i).toNat)
  case atStart => exact ⟨0, _, _, by omega, rfl, rfl, by simpa [low] using hown2, hb2⟩
  case round =>
    obtain ⟨k, A', c', hk, rfl, rfl, hown, hb⟩ := hrel
    have hz := hb.size
    by_cases hlt : k < 8
    · have S := Lib.hid (byte_at x k)
      have hlen : (l ++ low x k).length = l.length + k := by rw [List.length_append, low_len]
      have HL := Lib.hid hlen
      clear hlen
      go_wp2_with (first
        | (refine wpList_pushN elB rfl (.tmp 23) (.tmp 29) rfl (W := w) (B := w.heap.size) hown rfl rfl (x / 256 ^ k % 256) (by rw [S.out]) hb (Nat.le_refl _) (by omega) (by omega) (by simp only [maxLen]; omega) ?_
           intro A3 c3 w3 _ _ hown3 hg3 hb3 _ _))
      go_roundw
      case rel => exact ⟨k + 1, A3, c3, by omega, by go_num, rfl, by rw [List.append_assoc] at hown3; exact hown3, hb3⟩
      case measure => simp [intOf]; omega
    · obtain rfl : k = 8 := by omega
      go_wp2
      go_ret
      exact ⟨A', _, c', rfl, hown, hb⟩

set_option maxHeartbeats 1000000 in
set_option maxRecDepth 100000 in
theorem lay_u64 {w : World} {A : Option Addr} {n c : Nat} {l : List Nat} (x : Nat) (h : Reads w w.heap.size 1 A n (nums .u8 l)) (hl : n ≤ 140737488355200) :
    Calls Try.prog 45 #[.slice A n c, .int .u64 (x : Int)] w (BytesPost (l ++ low x 8) w) := by
  obtain rfl := h.len
  go_enter Try.func45, Try.ntmps45
  go_wp2_with (go_at_call 57; refine (put_u64 x h hl).mono ?_; rintro e w1 ⟨A', n', c', rfl, k1, k2⟩)
  go_ret
  exact ⟨A', n', c', rfl, k1, k2⟩

end Go.Proofs.Ytnghjkihdcmoiaa
/- Contracts of package cursor: numbers. -/

namespace Go.Proofs.Ytnghjkihdcmoiaa
open Go.RowKit Go.Hm

set_option maxHeartbeats 400000 in
theorem num_u8_good {w : World} {g : Nat} {l : List Nat} (n : Nat) (h : Cur w g l false) (hn : n ≤ l.length) (hs : n ≤ 1) :
    Calls Try.prog 58 #[.pointer (some ⟨g, 0, none⟩), .int .i64 (n : Int)] w (CurPost (.returned (.int .u8 (num (l.take n) : Int))) g (l.drop n) false w) := by
  have hlt : (l.take n).length = n := by rw [List.length_take]; omega
  have N := Lib.hid (next_good h hn)
  have h8 : ∀ x ∈ l.take n, x < 256 := by
    obtain ⟨A, c, _, _, _, _, h5, _⟩ := h
    exact fun x hx => h5 x (List.mem_of_mem_take hx)
  unfold NextPost at N
  generalize l.take n = T at *
  generalize hD : l.drop n = D at *
  clear hD h hn
  go_enter Try.func58, Try.ntmps58
  go_wp2_with (first
    | (go_at_call 40; refine N.out.mono ?_; rintro e w1 ⟨A', c', rfl, k1, k2, k3⟩
       have k4 := k1.1))
  clear N
  subst hlt
  go_loop [5, 12] (fun v i => ∃ k : Nat, k ≤ T.length ∧ i = .int .i64 (k : Int) ∧ v = .int .u8 (num (T.take k) : Int)) (fun _ i => T.length - (intOf i).toNat)
  case atStart => exact ⟨0, by omega, rfl, by simp [num]⟩
  case round =>
    obtain ⟨k, hk, rfl, rfl⟩ := hrel
    by_cases hlt' : k < T.length
    · obtain ⟨ad, rfl, hb, hcell⟩ := k4.num hlt'
      have S := Lib.hid (num_step_u8 T k hlt' hs h8)
      generalize T.getD k 0 = x at *
      go_wp2
      go_round
      case rel => exact ⟨k + 1, by omega, by go_num, by rw [S.out]⟩
      case measure => simp [intOf]; omega
    · obtain rfl : k = T.length := by omega
      go_wp2
      go_ret
      exact ⟨rfl, k2, k3⟩

set_option maxHeartbeats 400000 in
theorem num_u8_bad {w : World} {g : Nat} {l : List Nat} {bad : Bool} {n : Int} (h : Cur w g l bad) (hn : bad = true ∨ n < 0 ∨ (l.length : Int) < n) (h1 : -9223372036854775808 ≤ n) (h2 : n ≤ 9223372036854775807) :
    Calls Try.prog 58 #[.pointer (some ⟨g, 0, none⟩), .int .i64 n] w (CurPost (.returned (.int .u8 0)) g [] true w) := by
  have HN := Lib.hid (next_bad h hn h1 h2)
  clear hn h1 h2 h
  go_enter Try.func58, Try.ntmps58
  go_wp2_with (first
    | (go_at_call 40; refine HN.out.mono ?_; rintro e w1 ⟨rfl, k1, k2⟩))
  refine wp_loop_rounds 1 ?_
  rw [rounds_succ]
  go_wp2
  go_ret
  exact ⟨rfl, k1, k2⟩

set_option maxHeartbeats 400000 in
theorem byte_good {w : World} {g : Nat} {l : List Nat} (h : Cur w g l false) (hn : 1 ≤ l.length) :
    Calls Try.prog 51 #[.pointer (some ⟨g, 0, none⟩)] w (CurPost (.returned (.int .u8 (num (l.take 1) : Int))) g (l.drop 1) false w) := by
  have N := Lib.hid (num_u8_good 1 h hn (by omega))
  go_enter Try.func51, Try.ntmps51
  go_wp2_with (go_at_call 58; refine N.out.mono ?_; rintro e w1 ⟨rfl, k1, k2⟩)
  go_ret
  exact ⟨rfl, k1, k2⟩

set_option maxHeartbeats 400000 in
theorem byte_bad {w : World} {g : Nat} {l : List Nat} {bad : Bool} (h : Cur w g l bad) (hn : bad = true ∨ l.length < 1) :
    Calls Try.prog 51 #[.pointer (some ⟨g, 0, none⟩)] w (CurPost (.returned (.int .u8 0)) g [] true w) := by
  have N := Lib.hid (num_u8_bad (n := 1) h (by rcases hn with hn | hn; exact .inl hn; exact .inr (.inr (by omega))) (by omega) (by omega))
  clear hn
  go_enter Try.func51, Try.ntmps51
  go_wp2_with (go_at_call 58; refine N.out.mono ?_; rintro e w1 ⟨rfl, k1, k2⟩)
  go_ret
  exact ⟨rfl, k1, k2⟩


set_option maxHeartbeats 400000 in
theorem num_u64_good {w : World} {g : Nat} {l : List Nat} (n : Nat) (h : Cur w g l false) (hn : n ≤ l.length) (hs : n ≤ 8) :
    Calls Try.prog 59 #[.pointer (some ⟨g, 0, none⟩), .int .i64 (n : Int)] w (CurPost (.returned (.int .u64 (num (l.take n) : Int))) g (l.drop n) false w) := by
  have hlt : (l.take n).length = n := by rw [List.length_take]; omega
  have N := Lib.hid (next_good h hn)
  have h8 : ∀ x ∈ l.take n, x < 256 := by
    obtain ⟨A, c, _, _, _, _, h5, _⟩ := h
    exact fun x hx => h5 x (List.mem_of_mem_take hx)
  unfold NextPost at N
  generalize l.take n = T at *
  generalize hD : l.drop n = D at *
  clear hD h hn
  go_enter Try.func59, Try.ntmps59
  go_wp2_with (first
    | (go_at_call 40; refine N.out.mono ?_; rintro e w1 ⟨A', c', rfl, k1, k2, k3⟩
       have k4 := k1.1))
  clear N
  subst hlt
  go_loop [5, 12] (fun v i => ∃ k : Nat, k ≤ T.length ∧ i = .int .i64 (k : Int) ∧ v = .int .u64 (num (T.take k) : Int)) (fun _ i => T.length - (intOf i).toNat)
  case atStart => exact ⟨0, by omega, rfl, by simp [num]⟩
  case round =>
    obtain ⟨k, hk, rfl, rfl⟩ := hrel
    by_cases hlt' : k < T.length
    · obtain ⟨ad, rfl, hb, hcell⟩ := k4.num hlt'
      have S := Lib.hid (num_step_u64 T k hlt' hs h8)
      generalize T.getD k 0 = x at *
      go_wp2
      go_round
      case rel => exact ⟨k + 1, by omega, by go_num, by rw [S.out]⟩
      case measure => simp [intOf]; omega
    · obtain rfl : k = T.length := by omega
      go_wp2
      go_ret
      exact ⟨rfl, k2, k3⟩

set_option maxHeartbeats 400000 in
theorem num_u64_bad {w : World} {g : Nat} {l : List Nat} {bad : Bool} {n : Int} (h : Cur w g l bad) (hn : bad = true ∨ n < 0 ∨ (l.length : Int) < n) (h1 : -9223372036854775808 ≤ n) (h2 : n ≤ 9223372036854775807) :
    Calls Try.prog 59 #[.pointer (some ⟨g, 0, none⟩), .int .i64 n] w (CurPost (.returned (.int .u64 0)) g [] true w) := by
  have HN := Lib.hid (next_bad h hn h1 h2)
  clear hn h1 h2 h
  go_enter Try.func59, Try.ntmps59
  go_wp2_with (first
    | (go_at_call 40; refine HN.out.mono ?_; rintro e w1 ⟨rfl, k1, k2⟩))
  refine wp_loop_rounds 1 ?_
  rw [rounds_succ]
  go_wp2
  go_ret
  exact ⟨rfl, k1, k2⟩

set_option maxHeartbeats 400000 in
theorem u64_good {w : World} {g : Nat} {l : List Nat} (h : Cur w g l false) (hn : 8 ≤ l.length) :
    Calls Try.prog 53 #[.pointer (some ⟨g, 0, none⟩)] w (CurPost (.returned (.int .u64 (num (l.take 8) : Int))) g (l.drop 8) false w) := by
  have N := Lib.hid (num_u64_good 8 h hn (by omega))
  go_enter Try.func53, Try.ntmps53
  go_wp2_with (go_at_call 59; refine N.out.mono ?_; rintro e w1 ⟨rfl, k1, k2⟩)
  go_ret
  exact ⟨rfl, k1, k2⟩

set_option maxHeartbeats 400000 in
theorem u64_bad {w : World} {g : Nat} {l : List Nat} {bad : Bool} (h : Cur w g l bad) (hn : bad = true ∨ l.length < 8) :
    Calls Try.prog 53 #[.pointer (some ⟨g, 0, none⟩)] w (CurPost (.returned (.int .u64 0)) g [] true w) := by
  have N := Lib.hid (num_u64_bad (n := 8) h (by rcases hn with hn | hn; exact .inl hn; exact .inr (.inr (by omega))) (by omega) (by omega))
  clear hn
  go_enter Try.func53, Try.ntmps53
  go_wp2_with (go_at_call 59; refine N.out.mono ?_; rintro e w1 ⟨rfl, k1, k2⟩)
  go_ret
  exact ⟨rfl, k1, k2⟩

def TakeApp (g : Nat) (a b : List Nat) (w : World) (e : Ending) (w' : World) : Prop :=
  ∃ A c, e = .returned (.slice A a.length c) ∧ Own w' w.heap.size 5 (.slice A a.length c) (nums .u8 a) ∧ Cur w' g b false ∧ w.grownBy w' (some g)
theorem take_app {w : World} {g : Nat} {a b : List Nat} (h : Cur w g (a ++ b) false) (hs : a.length ≤ 140737488355328) :
    Calls Try.prog 20 #[.pointer (some ⟨g, 0, none⟩), .int .i64 (a.length : Int)] w (TakeApp g a b w) :=
  (take_good h (by rw [List.length_append]; omega) hs).mono fun e w' ⟨A, c, h1, h2, h3, h4⟩ => ⟨A, c, h1, by rwa [List.take_left] at h2, by rwa [List.drop_left] at h3, h4⟩
theorem u64_app {w : World} {g x : Nat} {b : List Nat} (h : Cur w g (low x 8 ++ b) false) (hx : x < 18446744073709551616) :
    Calls Try.prog 53 #[.pointer (some ⟨g, 0, none⟩)] w (CurPost (.returned (.int .u64 (x : Int))) g b false w) := by
  have := u64_good h (by rw [List.length_append, low_len]; omega)
  rwa [List.take_left' (low_len x 8), List.drop_left' (low_len x 8), num_low_of_lt (by omega)] at this
theorem byte_app {w : World} {g x : Nat} {b : List Nat} (h : Cur w g (x :: b) false) :
    Calls Try.prog 51 #[.pointer (some ⟨g, 0, none⟩)] w (CurPost (.returned (.int .u8 (x : Int))) g b false w) := by
  have := byte_good h (by simp)
  simpa [num] using this

end Go.Proofs.Ytnghjkihdcmoiaa
/- The package bitpack and its answer: widths, byte counts, comparing. -/

namespace Go.Hm
/-- The least width that holds each of l. -/
def wid (l : List Nat) : Nat := l.foldl (fun a x => max a (Lib.bitLen x)) 0
theorem bitLen_iff (n : Nat) : ∀ k, k ≤ 64 → n < 18446744073709551616 → (Lib.bitLen n ≤ k ↔ n < 2 ^ k) := by
  intro k hk hn
  refine ⟨fun h => ?_, fun h => Lib.bitLen_le n k hk h⟩
  induction k generalizing n with
  | zero =>
    by_cases h0 : n = 0
    · omega
    · have := Lib.bitLen_half n h0 hn
      omega
  | succ k ih =>
    by_cases h0 : n = 0
    · subst h0; exact Nat.two_pow_pos _
    · have h1 := Lib.bitLen_half n h0 hn
      have h2 := ih (n / 2) (by omega) (by omega) (by omega)
      rw [Nat.pow_succ]; omega
theorem bitLen64 (n : Nat) (hn : n < 18446744073709551616) : Lib.bitLen n ≤ 64 := Lib.bitLen_le n 64 (by omega) hn
theorem bitLen_or (a b : Nat) (ha : a < 18446744073709551616) (hb : b < 18446744073709551616) : Lib.bitLen (a ||| b) = max (Lib.bitLen a) (Lib.bitLen b) := by
  have hab : a ||| b < 18446744073709551616 := Nat.or_lt_two_pow (n := 64) ha hb
  have ha64 := bitLen64 a ha
  have hb64 := bitLen64 b hb
  have hab64 := bitLen64 _ hab
  have key : ∀ k, k ≤ 64 → (Lib.bitLen (a ||| b) ≤ k ↔ max (Lib.bitLen a) (Lib.bitLen b) ≤ k) := by
    intro k hk
    rw [bitLen_iff _ k hk hab, Nat.max_le, bitLen_iff a k hk ha, bitLen_iff b k hk hb]
    exact ⟨fun h => ⟨Nat.lt_of_le_of_lt Nat.left_le_or h, Nat.lt_of_le_of_lt Nat.right_le_or h⟩, fun h => Nat.or_lt_two_pow h.1 h.2⟩
  have h1 := (key _ hab64).1 (Nat.le_refl _)
  have h2 := (key (max (Lib.bitLen a) (Lib.bitLen b)) (by omega)).2 (Nat.le_refl _)
  omega
theorem wid_snoc (l : List Nat) (x : Nat) : wid (l ++ [x]) = max (wid l) (Lib.bitLen x) := by simp [wid]
/-- All bits that l has. -/
def ors (l : List Nat) : Nat := l.foldl (· ||| ·) 0
theorem ors_snoc (l : List Nat) (x : Nat) : ors (l ++ [x]) = ors l ||| x := by simp [ors]
theorem ors_both (k : Nat) (l : List Nat) (hk : k ≤ l.length) (hl : ∀ x ∈ l, x ≤ 18446744073709551615) : ors (l.take k) < 18446744073709551616 ∧ Lib.bitLen (ors (l.take k)) = wid (l.take k) := by
  induction k with
  | zero => simp [ors, wid]; decide
  | succ k ih =>
    obtain ⟨h1, h2⟩ := ih (by omega)
    have hx : l.getD k 0 ≤ 18446744073709551615 := by
      rw [List.getD_eq_getElem?_getD, List.getElem?_eq_getElem (by omega)]
      exact hl _ (List.getElem_mem (by omega))
    rw [take_snoc l k 0 (by omega), ors_snoc, wid_snoc]
    exact ⟨Nat.or_lt_two_pow (n := 64) h1 (by omega), by rw [bitLen_or _ _ h1 (by omega), h2]⟩
theorem wid_iff (l : List Nat) (k : Nat) (hk : k ≤ 64) (hl : ∀ x ∈ l, x ≤ 18446744073709551615) : wid l ≤ k ↔ ∀ x ∈ l, x < 2 ^ k := by
  have : ∀ (l : List Nat) a, (∀ x ∈ l, x ≤ 18446744073709551615) → (l.foldl (fun a x => max a (Lib.bitLen x)) a ≤ k ↔ a ≤ k ∧ ∀ x ∈ l, x < 2 ^ k) := by
    intro l
    induction l with
    | nil => intro a _; simp
    | cons y l ih =>
      intro a h
      rw [List.foldl_cons, ih _ (fun x hx => h x (by simp [hx])), Nat.max_le, bitLen_iff y k hk (by have := h y (by simp); omega)]
      simp [and_assoc]
  rw [wid, this l 0 hl]; simp
theorem wid_le (l : List Nat) (hl : ∀ x ∈ l, x ≤ 18446744073709551615) : wid l ≤ 64 := (wid_iff l 64 (by omega) hl).2 fun x hx => by have := hl x hx; omega

end Go.Hm

namespace Go.Proofs.Ytnghjkihdcmoiaa
open Go.RowKit Go.Hm

def IntPost (v : Int) (w : World) (e : Ending) (w' : World) : Prop := e = .returned (.int .i64 v) ∧ w = w'

set_option maxHeartbeats 400000 in
theorem width_any {w : World} {A : Option Addr} {n c : Nat} {L : List Nat} (h : Reads w w.heap.size 1 A n (nums .u64 L)) (hL : ∀ x ∈ L, x ≤ 18446744073709551615) (hn : n ≤ 9223372036854775807) :
    Calls Try.prog 49 #[.slice A n c] w (IntPost (wid L) w) := by
  obtain rfl := h.len
  go_enter Try.func49, Try.ntmps49
  go_wp2
  go_loop [3, 8] (fun v i => ∃ k : Nat, k ≤ L.length ∧ i = .int .i64 (k : Int) ∧ v = .int .u64 (ors (L.take k) : Int)) (fun _ i => L.length - (intOf i).toNat)
  case atStart => exact ⟨0, by omega, rfl, by simp [ors]⟩
  case round =>
    obtain ⟨k, hk, rfl, rfl⟩ := hrel
    have HO := ors_both k L hk hL
    by_cases hlt : k < L.length
    · obtain ⟨ad, rfl, hb, hcell⟩ := h.num hlt
      have HT := Lib.hid (take_snoc L k 0 hlt)
      have hl0 : L.getD k 0 ≤ 18446744073709551615 := by
        rw [List.getD_eq_getElem?_getD, List.getElem?_eq_getElem hlt]
        exact hL _ (List.getElem_mem hlt)
      generalize L.getD k 0 = y at *
      obtain ⟨h1, _⟩ := HO
      generalize hO : ors (L.take k) = o at *
      have HO := Lib.hid hO
      clear hO
      have hor := u64_or_nat o y h1 (by omega)
      have Hor := Lib.hid hor
      clear hor
      go_wp2
      go_round
      case rel => exact ⟨k + 1, by omega, by go_num, by rw [HT.out, ors_snoc, HO.out, Hor.out]⟩
      case measure => simp [intOf]; omega
    · obtain rfl : k = L.length := by omega
      rw [List.take_length] at *
      have LB := Lib.hid (bits_Len64 (ors L : Int) w (by omega) (by omega))
      have HO2 := Lib.hid HO.2
      clear HO
      go_wp2_with (go_at_call 50; refine LB.out.mono ?_; rintro e w' ⟨rfl, rfl⟩)
      go_ret
      exact ⟨by rw [← HO2.out]; rfl, rfl⟩



/-- How many bytes; -1 where there are too many. -/
def nby (w n : Int) : Int := if w < 0 ∨ 64 < w ∨ n < 0 ∨ 65536 < n then -1 else (w * n + 7) / 8
theorem nby_nat (x n : Nat) (hx : x ≤ 64) (hn : n ≤ 65536) : nby (x : Int) (n : Int) = (((x * n + 7) / 8 : Nat) : Int) := by
  unfold nby; rw [if_neg (by omega), ← Int.natCast_mul]; omega
set_option maxHeartbeats 400000 in
theorem bytes_any (x n : Int) (w : World) (hx0 : -9223372036854775808 ≤ x) (hx : x ≤ 9223372036854775807) (hn0 : -9223372036854775808 ≤ n) (hn : n ≤ 9223372036854775807) : Calls Try.prog 55 #[.int .i64 x, .int .i64 n] w (IntPost (nby x n) w) := by
  by_cases hg : 0 ≤ x ∧ x ≤ 64 ∧ 0 ≤ n ∧ n ≤ 65536
  · obtain ⟨h1, h2, h3, h4⟩ := hg
    have p0 : 0 ≤ x * n := Int.mul_nonneg h1 h3
    have p1 : x * n ≤ 64 * 65536 := Int.mul_le_mul h2 h4 h3 (by omega)
    have e : nby x n = (x * n + 7) / 8 := by unfold nby; rw [if_neg (by omega)]
    rw [e]
    have w1 : wrap64 (x * n) = x * n := by unfold wrap64; omega
    have w2 : wrap64 (x * n + 7) = x * n + 7 := by unfold wrap64; omega
    have w3 : (x * n + 7).tdiv 8 = (x * n + 7) / 8 := Int.tdiv_eq_ediv_of_nonneg (by omega)
    have w4 : wrap64 ((x * n + 7) / 8) = (x * n + 7) / 8 := by unfold wrap64; omega
    clear e
    go_enter Try.func55, Try.ntmps55
    go_wp2
    all_goals first | (exfalso; omega) | go_ret
    exact ⟨rfl, rfl⟩
  · have e : nby x n = -1 := by unfold nby; rw [if_pos (by omega)]
    rw [e]
    clear e
    go_enter Try.func55, Try.ntmps55
    go_wp2
    all_goals first | (exfalso; omega) | go_ret
    all_goals exact ⟨rfl, rfl⟩
theorem bytes_anyN (x n : Nat) (w : World) (hx : x ≤ 64) (hn : n ≤ 65536) : Calls Try.prog 55 #[.int .i64 (x : Int), .int .i64 (n : Int)] w (IntPost ((x * n + 7) / 8 : Nat) w) := by
  have := bytes_any x n w (by omega) (by omega) (by omega) (by omega)
  rwa [nby_nat x n hx hn] at this


def SamePost (b : Bool) (w : World) (e : Ending) (w' : World) : Prop := e = .returned (.bool b) ∧ Below w.heap.size w w'

theorem below_drewN {B : Nat} {a w : World} (h : Below B a w) (k : Nat) : Below B a (w.drewN k) := ⟨h.os, h.tape, h.output, h.size, h.block⟩

set_option maxHeartbeats 800000 in
theorem same_eq {w : World} {A A2 : Option Addr} {n c c2 : Nat} {L L2 : List Nat} (h : Reads w w.heap.size 1 A n (nums .u64 L)) (h2 : Reads w w.heap.size 1 A2 n (nums .u64 L2)) (hn : n ≤ 9223372036854775807) :
    Calls Try.prog 12 #[.slice A n c, .slice A2 n c2] w (SamePost (decide (L = L2)) w) := by
  have l1 := Lib.hid h.len
  have l2 := Lib.hid h2.len
  go_enter Try.func12, Try.ntmps12
  go_wp2
  go_loopw [5] (fun i wr => ∃ k : Nat, k ≤ n ∧ i = .int .i64 (k : Int) ∧ L.take k = L2.take k ∧ Below w.heap.size w wr) (fun i _ => n - (intOf i).toNat)
  case atStart => exact ⟨0, by omega, rfl, rfl, Below.refl _ _⟩
  case round =>
    obtain ⟨k, hk, rfl, hT, hb⟩ := hrel
    by_cases hlt : k < n
    · obtain ⟨ad, rfl, hbk, hcell⟩ := (h.below hb).num hlt
      obtain ⟨ad2, rfl, hbk2, hcell2⟩ := (h2.below hb).num hlt
      have T1 := take_snoc L k 0 (by rw [← l1.out]; exact hlt)
      have T2 := take_snoc L2 k 0 (by rw [← l2.out]; exact hlt)
      have hkk : (0 : Int) ≤ (k : Int) := by omega
      have hk1 : (k : Int) < (n : Int) := by omega
      by_cases he : L.getD k 0 = L2.getD k 0
      · have hT' : L.take (k + 1) = L2.take (k + 1) := by rw [T1, T2, hT, he]
        have HT' := Lib.hid hT'
        rw [← he] at hcell2
        clear he T1 T2 hT hT'
        generalize L.getD k 0 = y at *
        go_wp2
        go_quiet (fail)
        go_wp2
        go_roundw
        case rel => exact ⟨k + 1, by omega, by go_num, HT'.out, below_drewN hb _⟩
        case measure => simp [intOf]; omega
      · have hno : ¬ L = L2 := fun e => he (by rw [e])
        rw [decide_eq_false hno]
        have hbe : (((L.getD k 0 : Nat) : Int) == ((L2.getD k 0 : Nat) : Int)) = false := by rw [beq_eq_false_iff_ne]; omega
        clear T1 T2 hT he
        generalize L.getD k 0 = y at *
        generalize L2.getD k 0 = z at *
        go_wp2
        go_quiet (fail)
        go_wp2
        go_ret
        exact ⟨rfl, below_drewN hb _⟩
    · obtain rfl : k = n := by omega
      have he : L = L2 := by
        rw [l1.out, List.take_length, ← l1.out, l2.out, List.take_length] at hT
        exact hT
      have HE := Lib.hid he
      clear he hT
      go_wp2
      go_ret
      exact ⟨by rw [decide_eq_true HE.out]; rfl, hb⟩

set_option maxHeartbeats 800000 in
theorem same_any {w : World} {A A2 : Option Addr} {n c n2 c2 : Nat} {L L2 : List Nat} (h : Reads w w.heap.size 1 A n (nums .u64 L)) (h2 : Reads w w.heap.size 1 A2 n2 (nums .u64 L2)) (hn : n ≤ 9223372036854775807) (hn2 : n2 ≤ 9223372036854775807) :
    Calls Try.prog 12 #[.slice A n c, .slice A2 n2 c2] w (SamePost (decide (L = L2)) w) := by
  by_cases hl : n = n2
  · subst hl
    exact same_eq h h2 hn
  · have hno : ¬ L = L2 := fun e => hl (by rw [h.len, h2.len, e])
    rw [decide_eq_false hno]
    clear hno h h2
    go_enter Try.func12, Try.ntmps12
    go_wp2
    go_ret
    exact ⟨rfl, Below.refl _ _⟩

end Go.Proofs.Ytnghjkihdcmoiaa
/- Numbers packed into bytes, as plain lists. No program is named here. -/

namespace Go.Hm

/-- Numbers of w bits, one behind the other, as one number. -/
def pk (w : Nat) : List Nat → Nat
  | [] => 0
  | x :: l => x + 2 ^ w * pk w l
theorem pk_snoc (w : Nat) (l : List Nat) (x : Nat) : pk w (l ++ [x]) = pk w l + 2 ^ (w * l.length) * x := by
  induction l with
  | nil => simp [pk]
  | cons a l ih =>
    simp only [List.cons_append, pk, ih, List.length_cons]
    rw [Nat.mul_add, Nat.mul_succ, Nat.pow_add]
    simp only [Nat.mul_comm, Nat.mul_left_comm, Nat.add_assoc]
theorem pk_lt (w : Nat) (l : List Nat) (h : ∀ x ∈ l, x < 2 ^ w) : pk w l < 2 ^ (w * l.length) := by
  induction l with
  | nil => simp [pk]
  | cons a l ih =>
    have h1 := ih fun x hx => h x (by simp [hx])
    have h2 := h a (by simp)
    simp only [pk, List.length_cons]
    rw [Nat.mul_succ, Nat.pow_add, Nat.mul_comm (2 ^ (w * l.length))]
    have : 2 ^ w * (pk w l + 1) ≤ 2 ^ w * 2 ^ (w * l.length) := Nat.mul_le_mul_left _ h1
    rw [Nat.mul_add] at this
    omega
/-- The numbers of w bits that a number is made of. -/
def unpk (w : Nat) : Nat → Nat → List Nat
  | 0, _ => []
  | n + 1, B => unpk w n B ++ [B / 2 ^ (w * n) % 2 ^ w]
theorem unpk_len (w n B : Nat) : (unpk w n B).length = n := by induction n <;> simp_all [unpk]
theorem unpk_lt (w n B : Nat) : ∀ x ∈ unpk w n B, x < 2 ^ w := by
  induction n with
  | zero => intro x hx; simp [unpk] at hx
  | succ n ih =>
    intro x hx
    simp only [unpk, List.mem_append, List.mem_singleton] at hx
    rcases hx with hx | hx
    · exact ih x hx
    · subst hx; exact Nat.mod_lt _ (Nat.two_pow_pos w)
theorem unpk_getD (w n B i : Nat) (h : i < n) : (unpk w n B).getD i 0 = B / 2 ^ (w * i) % 2 ^ w := by
  induction n with
  | zero => omega
  | succ n ih =>
    rw [unpk, List.getD_eq_getElem?_getD]
    by_cases hi : i < n
    · rw [List.getElem?_append_left (by rw [unpk_len]; exact hi), ← List.getD_eq_getElem?_getD, ih hi]
    · obtain rfl : i = n := by omega
      rw [List.getElem?_append_right (by rw [unpk_len]; exact Nat.le_refl _), unpk_len]
      simp
theorem pk_unpk (w n B : Nat) : pk w (unpk w n B) = B % 2 ^ (w * n) := by
  induction n with
  | zero => simp [unpk, pk, Nat.mod_one]
  | succ n ih => rw [unpk, pk_snoc, ih, unpk_len, Nat.mul_succ, Nat.pow_add, Nat.mod_mul]
theorem unpk_pk (w : Nat) (l : List Nat) (h : ∀ x ∈ l, x < 2 ^ w) (B : Nat) (hB : B % 2 ^ (w * l.length) = pk w l) : unpk w l.length B = l := by
  have key : ∀ (m : List Nat), (∀ x ∈ m, x < 2 ^ w) → ∀ i, i < m.length → pk w m / 2 ^ (w * i) % 2 ^ w = m.getD i 0 := by
    intro m
    induction m with
    | nil => intro _ i hi; simp at hi
    | cons a m ih =>
      intro hm i hi
      have ha := hm a (by simp)
      cases i with
      | zero => simp [pk, Nat.add_mul_mod_self_left, Nat.mod_eq_of_lt ha]
      | succ i =>
        rw [pk, Nat.mul_succ, Nat.add_comm (w * i), Nat.pow_add, ← Nat.div_div_eq_div_mul, Nat.add_mul_div_left _ _ (Nat.two_pow_pos w), Nat.div_eq_of_lt ha, Nat.zero_add, ih (fun x hx => hm x (by simp [hx])) i (by simpa using hi)]
        simp
  refine List.ext_getElem (unpk_len _ _ _) fun i h1 h2 => ?_
  have e1 : (unpk w l.length B).getD i 0 = (unpk w l.length B)[i] := by rw [List.getD_eq_getElem?_getD, List.getElem?_eq_getElem h1]; rfl
  have e2 : l.getD i 0 = l[i] := by rw [List.getD_eq_getElem?_getD, List.getElem?_eq_getElem h2]; rfl
  rw [← e1, ← e2, unpk_getD w l.length B i h2, ← key l h i h2, ← hB]
  have hs : w * l.length = w * i + (w + w * (l.length - i - 1)) := by
    have e : l.length = i + (1 + (l.length - i - 1)) := by omega
    conv => lhs; rw [e]
    rw [Nat.mul_add, Nat.mul_add, Nat.mul_one]
  rw [hs, Nat.pow_add, Nat.mod_mul_right_div_self, Nat.pow_add, Nat.mod_mul_right_mod]

/-- A list that is as long and has the same numbers. -/
theorem low_getD (X s i : Nat) (h : i < s) : (low X s).getD i 0 = X / 256 ^ i % 256 := by
  induction s with
  | zero => omega
  | succ s ih =>
    rw [low, List.getD_eq_getElem?_getD]
    by_cases hi : i < s
    · rw [List.getElem?_append_left (by rw [low_len]; exact hi), ← List.getD_eq_getElem?_getD, ih hi]
    · obtain rfl : i = s := by omega
      rw [List.getElem?_append_right (by rw [low_len]; exact Nat.le_refl _), low_len]
      simp
theorem low_num (b : List Nat) (h : ∀ x ∈ b, x < 256) : low (num b) b.length = b := by
  have key : ∀ (m : List Nat), (∀ x ∈ m, x < 256) → ∀ i, i < m.length → num m / 256 ^ i % 256 = m.getD i 0 := by
    intro m
    induction m with
    | nil => intro _ i hi; simp at hi
    | cons a m ih =>
      intro hm i hi
      have ha := hm a (by simp)
      cases i with
      | zero => simp [num]; omega
      | succ i =>
        rw [num, Nat.pow_succ, Nat.mul_comm (256 ^ i), ← Nat.div_div_eq_div_mul, show (a + 256 * num m) / 256 = num m by omega, ih (fun x hx => hm x (by simp [hx])) i (by simpa using hi)]
        simp
  refine List.ext_getElem (low_len _ _) fun i h1 h2 => ?_
  have e1 : (low (num b) b.length).getD i 0 = (low (num b) b.length)[i] := by rw [List.getD_eq_getElem?_getD, List.getElem?_eq_getElem h1]; rfl
  have e2 : b.getD i 0 = b[i] := by rw [List.getD_eq_getElem?_getD, List.getElem?_eq_getElem h2]; rfl
  rw [← e1, ← e2, low_getD _ _ _ h2, key b h i h2]
theorem num_byte (b : List Nat) (h : ∀ x ∈ b, x < 256) (i : Nat) (hi : i < b.length) : b.getD i 0 = num b / 256 ^ i % 256 := by
  have := low_getD (num b) b.length i hi
  rwa [low_num b h] at this
theorem low_zero (s : Nat) : low 0 s = List.replicate s 0 := by
  induction s with
  | zero => rfl
  | succ s ih => rw [low, ih, List.replicate_succ']; simp
theorem p256 (k : Nat) : (256 : Nat) ^ k = 2 ^ (8 * k) := by rw [show (256 : Nat) = 2 ^ 8 from rfl, ← Nat.pow_mul]

/-- One more bit, above all that there are. -/
theorem low_set (X s a c : Nat) (ha : a < 8 * s) (hX : X < 2 ^ a) (hc : c ≤ 1) :
    (low X s).set (a / 8) ((low X s).getD (a / 8) 0 + c * 2 ^ (a % 8)) = low (X + c * 2 ^ a) s ∧ (low X s).getD (a / 8) 0 < 2 ^ (a % 8) ∧ (low X s).getD (a / 8) 0 + c * 2 ^ (a % 8) < 256 := by
  have hq : a / 8 < s := by omega
  have ea : 2 ^ a = 256 ^ (a / 8) * 2 ^ (a % 8) := by rw [p256, ← Nat.pow_add]; congr 1; omega
  have hr : 2 ^ (a % 8) ≤ 2 ^ 7 := Nat.pow_le_pow_right (by omega) (by omega)
  have h0 : X / 256 ^ (a / 8) < 2 ^ (a % 8) := by
    apply Nat.div_lt_of_lt_mul
    rw [← ea]; exact hX
  have hb : (low X s).getD (a / 8) 0 = X / 256 ^ (a / 8) := by
    rw [low_getD _ _ _ hq]; exact Nat.mod_eq_of_lt (by omega)
  have hcc : c * 2 ^ (a % 8) ≤ 2 ^ (a % 8) := by
    calc c * 2 ^ (a % 8) ≤ 1 * 2 ^ (a % 8) := Nat.mul_le_mul_right _ hc
      _ = _ := Nat.one_mul _
  have hlt : X / 256 ^ (a / 8) + c * 2 ^ (a % 8) < 256 := by omega
  refine ⟨?_, by rw [hb]; exact h0, by rw [hb]; exact hlt⟩
  refine List.ext_getElem (by simp [low_len]) fun i h1 h2 => ?_
  have h2' : i < s := by rwa [low_len] at h2
  have h1' : i < (low X s).length := by rwa [low_len]
  have e2 : (low (X + c * 2 ^ a) s)[i] = (X + c * 2 ^ a) / 256 ^ i % 256 := by
    rw [← low_getD _ _ _ h2', List.getD_eq_getElem?_getD, List.getElem?_eq_getElem h2]; rfl
  have e1 : (low X s)[i]'h1' = X / 256 ^ i % 256 := by
    rw [← low_getD _ _ _ h2', List.getD_eq_getElem?_getD, List.getElem?_eq_getElem h1']; rfl
  rw [e2, List.getElem_set]
  by_cases hi : a / 8 = i
  · subst hi
    rw [if_pos rfl, hb, ea, show c * (256 ^ (a / 8) * 2 ^ (a % 8)) = 256 ^ (a / 8) * (c * 2 ^ (a % 8)) from Nat.mul_left_comm _ _ _, Nat.add_mul_div_left _ _ (Nat.pow_pos (by omega)), Nat.mod_eq_of_lt hlt]
  · rw [if_neg hi, e1]
    rcases Nat.lt_or_gt_of_ne hi with hlt' | hgt
    · have hp : 2 ^ (a + 1) ≤ 256 ^ i := by rw [p256]; exact Nat.pow_le_pow_right (by omega) (by omega)
      have hca : c * 2 ^ a ≤ 2 ^ a := by
        calc c * 2 ^ a ≤ 1 * 2 ^ a := Nat.mul_le_mul_right _ hc
          _ = _ := Nat.one_mul _
      rw [Nat.pow_succ] at hp
      rw [Nat.div_eq_of_lt (by omega), Nat.div_eq_of_lt (by omega)]
    · have es : 2 ^ a = 256 ^ i * (256 * 2 ^ (a - 8 * (i + 1))) := by
        rw [p256, show (256 : Nat) = 2 ^ 8 from rfl, ← Nat.pow_add, ← Nat.pow_add]; congr 1; omega
      rw [es, show c * (256 ^ i * (256 * 2 ^ (a - 8 * (i + 1)))) = 256 ^ i * (256 * (c * 2 ^ (a - 8 * (i + 1)))) by simp only [Nat.mul_left_comm], Nat.add_mul_div_left _ _ (Nat.pow_pos (by omega)), Nat.add_mul_mod_self_left]
theorem mod_succ_pow (y j : Nat) : y % 2 ^ (j + 1) = y % 2 ^ j + 2 ^ j * (y / 2 ^ j % 2) := by rw [Nat.pow_succ, Nat.mod_mul]
theorem part_lt {X m : Nat} (y j : Nat) (hX : X < 2 ^ m) : X + y % 2 ^ j * 2 ^ m < 2 ^ (m + j) := by
  have h1 : y % 2 ^ j < 2 ^ j := Nat.mod_lt _ (Nat.two_pow_pos _)
  have h2 : (y % 2 ^ j + 1) * 2 ^ m ≤ 2 ^ j * 2 ^ m := Nat.mul_le_mul_right _ h1
  rw [Nat.add_mul, Nat.one_mul] at h2
  rw [Nat.pow_add, Nat.mul_comm (2 ^ m)]
  omega
theorem pack_step {X m : Nat} (s y j a q r t : Nat) (hX : X < 2 ^ m) (ha : a = m + j) (hs : a < 8 * s) (hq : q = a / 8 ∧ r = a % 8) (ht : t = y / 2 ^ j % 2) :
    (low (X + y % 2 ^ j * 2 ^ m) s).getD q 0 < 2 ^ r ∧ (low (X + y % 2 ^ j * 2 ^ m) s).set q ((low (X + y % 2 ^ j * 2 ^ m) s).getD q 0 + t * 2 ^ r) = low (X + y % 2 ^ (j + 1) * 2 ^ m) s := by
  obtain ⟨rfl, rfl⟩ := hq
  have h := low_set (X + y % 2 ^ j * 2 ^ m) s a t hs (by rw [ha]; exact part_lt y j hX) (by omega)
  refine ⟨h.2.1, h.1.trans ?_⟩
  congr 1
  rw [mod_succ_pow, Nat.add_mul, ht, ha, Nat.pow_add, Nat.add_assoc]
  congr 2
  rw [Nat.mul_comm (2 ^ m), ← Nat.mul_assoc, Nat.mul_comm (y / 2 ^ j % 2)]

end Go.Hm
/- Strings as lists of bytes: what the walk's operations come to. No program is named here. -/

namespace Go.Hm
open Go Go.RowKit

theorem bstr_extract (l : List Nat) (i j : Nat) : (bstr l).extract i j = bstr ((l.drop i).take (j - i)) := by
  refine ByteArray.ext ?_
  rw [ByteArray.data_extract]
  show ((l.map UInt8.ofNat).toArray).extract i j = (((l.drop i).take (j - i)).map UInt8.ofNat).toArray
  simp
theorem bstr_from (l : List Nat) (i : Nat) : (bstr l).extract i l.length = bstr (l.drop i) := by
  rw [bstr_extract, List.take_of_length_le (by rw [List.length_drop]; omega)]
theorem bstr_to (l : List Nat) (j : Nat) : (bstr l).extract 0 j = bstr (l.take j) := by
  rw [bstr_extract]; simp
theorem bstr_get (l : List Nat) (k : Nat) (h8 : ∀ x ∈ l, x < 256) (hk : k < (bstr l).size) : ((bstr l)[k]'hk).toNat = l.getD k 0 := by
  have hk' : k < l.length := by rwa [bstr_size] at hk
  show (((l.map UInt8.ofNat).toArray)[k]'(by simpa using hk')).toNat = _
  simp only [List.getElem_toArray, List.getElem_map, UInt8.toNat_ofNat']
  rw [List.getD_eq_getElem?_getD, List.getElem?_eq_getElem hk', Option.getD_some]
  exact Nat.mod_eq_of_lt (h8 _ (List.getElem_mem hk'))

section
variable {P : Program} {t : TypeId}
theorem run_idx (ht : P.underlying t = some .string) (l : List Nat) (h8 : ∀ x ∈ l, x < 256) (k : Nat) (hk : k < l.length) (w : World) :
    (Instr.index t (.string (bstr l)) (.int .i64 (k : Int))).run P w = .ok (.int .u8 ((l.getD k 0 : Nat) : Int)) w := by
  rw [run_index_string w t (bstr l) .i64 (k : Int) ht, dif_pos ⟨by omega, by rw [bstr_size]; omega⟩]
  rw [bstr_get l _ h8]
  simp
theorem run_from (ht : P.underlying t = some .string) (l : List Nat) (k : Nat) (hk : k ≤ l.length) (w : World) :
    (Instr.slice t (.string (bstr l)) (some (.int .i64 (k : Int))) none none).run P w = .ok (.string (bstr (l.drop k))) w := by
  rw [run_slice_string_from_if w t (bstr l) .i64 (k : Int) ht, if_pos ⟨by omega, by rw [bstr_size]; omega⟩, Int.toNat_natCast, bstr_size, bstr_from]
theorem run_to (ht : P.underlying t = some .string) (l : List Nat) (k : Nat) (hk : k ≤ l.length) (w : World) :
    (Instr.slice t (.string (bstr l)) none (some (.int .i64 (k : Int))) none).run P w = .ok (.string (bstr (l.take k))) w := by
  rw [run_slice_string_to_if w t (bstr l) .i64 (k : Int) ht, if_pos ⟨by omega, by rw [bstr_size]; omega⟩, Int.toNat_natCast, bstr_to]
theorem run_slen (ht : P.underlying t = some .string) (l : List Nat) (ty : TypeId) (w : World) : (Builtin.len_ #[t] ty #[.string (bstr l)]).run P w = .ok (goInt l.length) w := by
  rw [run_len_string w t ty (bstr l) ht, bstr_size]
end
theorem strCells_bstr (l : List Nat) (h8 : ∀ x ∈ l, x < 256) : Lib.strCells (bstr l) = nums .u8 l := by
  unfold Lib.strCells nums
  show ((l.map UInt8.ofNat).toArray.toList).map _ = _
  simp only [List.map_map]
  refine List.map_congr_left fun x hx => ?_
  simp only [Function.comp, UInt8.toNat_ofNat']
  rw [Nat.mod_eq_of_lt (by have := h8 x hx; omega)]
/-- Texts as values. -/
def strs (l : List (List Nat)) : List Value := l.map fun s => .string (bstr s)
theorem strs_length (l : List (List Nat)) : (strs l).length = l.length := by simp [strs]
theorem strs_nil : strs [] = [] := rfl
theorem strs_append (l m : List (List Nat)) : strs (l ++ m) = strs l ++ strs m := by simp [strs]
theorem strs_at (l : List (List Nat)) (i : Nat) (h : i < l.length) : (strs l)[i]? = some (.string (bstr (l.getD i []))) := by simp [strs, List.getElem?_eq_getElem h]
theorem strs_oneCell (l : List (List Nat)) : ∀ u ∈ strs l, u.oneCell' = true := by
  intro u hu
  simp only [strs, List.mem_map] at hu
  obtain ⟨z, _, rfl⟩ := hu
  rfl
theorem Reads.lenT {w : World} {B n : Nat} {A : Option Addr} {l : List (List Nat)} (h : Reads w B 1 A n (strs l)) : n = l.length := by
  have := h.1
  rw [strs_length] at this
  omega
theorem Reads.str {w : World} {B n : Nat} {A : Option Addr} {l : List (List Nat)} {i : Nat} (h : Reads w B 1 A n (strs l)) (hi : i < n) : ∃ ad, A = some ad ∧ ad.block < B ∧ w.cell? (ad.add i) = some (.string (bstr (l.getD i []))) := by
  obtain ⟨ad, u, e, hb, hu, hc⟩ := h.at_ hi
  have hl : i < l.length := by have := h.lenT; omega
  rw [strs_at l i hl] at hu
  injection hu with hu
  subst hu
  exact ⟨ad, e, hb, hc⟩
theorem getD_memT {L : List (List Nat)} {k : Nat} {Q : List Nat → Prop} (h : ∀ x ∈ L, Q x) (hk : k < L.length) : Q (L.getD k []) := by
  rw [List.getD_eq_getElem?_getD, List.getElem?_eq_getElem hk]
  exact h _ (List.getElem_mem hk)

section
variable {P : Program} {ops : Array Oper} {rest : List Oper} {o : Oper} {a : Act} {Q : Exit → Act → World → Prop}
/-- append(b, s...) of a text. -/
theorem wpList_pushStr {w : World} {t e ts : TypeId} (E : ElT P t e (.int .u8 0) 1 1) (hts : P.underlying ts = some .string) (hgd : o.guard = none) (s x : Operand)
    (ho : o.op = .call { callee := .builtin .append, args := #[s, x], argTypes := #[t, ts] })
    {W : World} {B base n c : Nat} {A : Option Addr} {l l2 : List Nat} (hown : Own w base e (.slice A n c) (nums .u8 l)) (h8 : ∀ x ∈ l2, x < 256) (hs : a.eval s = .slice A n c) (hx : a.eval x = .string (bstr l2))
    (hb : Below B W w) (hbB : B ≤ base) (hbase : base ≤ w.heap.size) (hn : n + l2.length ≤ 140737488355328)
    (h : ∀ A' c' w', n + l2.length ≤ c' → c' ≤ maxLen → Own w' base e (.slice A' (n + l2.length) c') (nums .u8 (l ++ l2)) → w.grownBy w' (Value.ownBlock (.slice A n c)) → Below B W w' → wpList P ops Q rest (a.put o.dst (.slice A' (n + l2.length) c')) w') :
    wpList P ops Q (o :: rest) a w := by
  obtain ⟨i, hi, hz0, hz1, hz2⟩ := info_parts E.hi
  have hln := hown.len
  rw [nums_length] at hln
  have hown' : w.ownsRow base e 1 (.slice A n c) n (nums .u8 l) := by
    unfold Own at hown
    rwa [nums_length, ← hln] at hown
  refine Lib.wpList_append_own_string w hgd s x t ts ho base e i E.ht hts hi hz0 hz1 hz2 _ n _ hs hown' (bstr l2) hx (by rw [bstr_size]; unfold maxLen; omega) (by rw [bstr_size]; exact hn) hbase ?_
  intro v' w' h1 h2 _
  rw [strCells_bstr l2 h8, ← nums_append, bstr_size] at h1
  have hown2 : Own w' base e v' (nums .u8 (l ++ l2)) := by
    unfold Own
    rw [nums_length, List.length_append, ← hln]
    exact h1
  obtain ⟨A', c', rfl, hc1, hc2⟩ := hown2.slice
  rw [nums_length, List.length_append, ← hln] at hc1 hown2 ⊢
  exact h A' c' w' hc1 hc2 hown2 h2 (hb.grown h2 (Nat.le_trans hbB hbase) (fun k hk => by have := (hown.lt k hk).1; omega))
end
theorem strs_inj {l m : List (List Nat)} (hl : ∀ s ∈ l, ∀ x ∈ s, x < 256) (hm : ∀ s ∈ m, ∀ x ∈ s, x < 256) (h : strs l = strs m) : l = m := by
  induction l generalizing m with
  | nil => cases m with
    | nil => rfl
    | cons => simp [strs] at h
  | cons s l ih =>
    cases m with
    | nil => simp [strs] at h
    | cons r m =>
      simp only [strs, List.map_cons, List.cons.injEq, Value.string.injEq] at h
      have e := bstr_beq (hl s (by simp)) (hm r (by simp))
      rw [h.1] at e
      simp at e
      rw [e, ih (fun x hx => hl x (by simp [hx])) (fun x hx => hm x (by simp [hx])) h.2]

end Go.Hm
/- What is answered with a truth beside: bytes, numbers, texts, or none. -/

namespace Go.Proofs.Ytnghjkihdcmoiaa
open Go.RowKit Go.Hm
theorem strT : Try.prog.underlying 9 = some .string := by kernel_rfl
/-- The answer v; only draws are counted. -/
def DrewPost (v : Value) (w : World) (e : Ending) (w' : World) : Prop := e = .returned v ∧ ∃ k, w' = w.drewN k
/-- The answer v; nothing that was is turned. -/
def NewPost (v : Value) (w : World) (e : Ending) (w' : World) : Prop := e = .returned v ∧ New w w'
/-- The answer v; nothing at all is turned. -/
def ValPost (v : Value) (w : World) (e : Ending) (w' : World) : Prop := e = .returned v ∧ w = w'
theorem DrewPost.new {v : Value} {w w' : World} {e : Ending} (h : DrewPost v w e w') : NewPost v w e w' := by
  obtain ⟨h1, k, rfl⟩ := h
  exact ⟨h1, new_drewN w k⟩
/-- Bytes or none, and whether there are any. -/
def OptB (o : Option (List Nat)) (w : World) (e : Ending) (w' : World) : Prop :=
  match o with
  | none => e = .returned (.tuple #[.slice none 0 0, .bool false]) ∧ Below w.heap.size w w'
  | some l => ∃ A n c, e = .returned (.tuple #[.slice A n c, .bool true]) ∧ Own w' w.heap.size 5 (.slice A n c) (nums .u8 l) ∧ Below w.heap.size w w'
theorem OptB.u {o : Option (List Nat)} {w w' : World} {e : Ending} (h : OptB o w e w') :
    ∃ A n c, e = .returned (.tuple #[.slice A n c, .bool o.isSome]) ∧ Own w' w.heap.size 5 (.slice A n c) (nums .u8 (o.getD [])) ∧ Below w.heap.size w w' := by
  cases o with
  | none => exact ⟨none, 0, 0, h.1, Own.nil_, h.2⟩
  | some l => exact h
def OptW (o : Option (List Nat)) (w : World) (e : Ending) (w' : World) : Prop :=
  match o with
  | none => e = .returned (.tuple #[.slice none 0 0, .bool false]) ∧ Below w.heap.size w w'
  | some l => ∃ A n c, e = .returned (.tuple #[.slice A n c, .bool true]) ∧ Own w' w.heap.size 36 (.slice A n c) (nums .u64 l) ∧ Below w.heap.size w w'
theorem OptW.u {o : Option (List Nat)} {w w' : World} {e : Ending} (h : OptW o w e w') :
    ∃ A n c, e = .returned (.tuple #[.slice A n c, .bool o.isSome]) ∧ Own w' w.heap.size 36 (.slice A n c) (nums .u64 (o.getD [])) ∧ Below w.heap.size w w' := by
  cases o with
  | none => exact ⟨none, 0, 0, h.1, Own.nil_, h.2⟩
  | some l => exact h

end Go.Proofs.Ytnghjkihdcmoiaa
/- Packing: the package bitpack and its answer. -/

namespace Go.Proofs.Ytnghjkihdcmoiaa
open Go.RowKit Go.Hm

/-- What is packed. -/
def packO (L : List Nat) (x : Int) : Option (List Nat) :=
  if 0 ≤ x ∧ x ≤ 64 ∧ L.length ≤ 65536 ∧ (wid L : Int) ≤ x then some (low (pk x.toNat L) ((x.toNat * L.length + 7) / 8)) else none
/-- What is unpacked. -/
def unpackO (b : List Nat) (x n : Int) : Option (List Nat) :=
  if 0 ≤ x ∧ x ≤ 64 ∧ 0 ≤ n ∧ n ≤ 65536 ∧ b.length = (x.toNat * n.toNat + 7) / 8 ∧ num b < 2 ^ (x.toNat * n.toNat) then some (unpk x.toNat n.toNat (num b)) else none

set_option maxHeartbeats 1000000 in
set_option maxRecDepth 100000 in
theorem pack_good {w : World} {A : Option Addr} {n c : Nat} {L : List Nat} (x : Nat) (h : Reads w w.heap.size 1 A n (nums .u64 L)) (hL : ∀ x ∈ L, x ≤ 18446744073709551615) (hn : n ≤ 65536) (hx : x ≤ 64) (hw : wid L ≤ x) :
    Calls Try.prog 44 #[.slice A n c, .int .i64 (x : Int)] w (OptB (some (low (pk x L) ((x * n + 7) / 8))) w) := by
  obtain rfl := h.len
  obtain ⟨s, hs⟩ : ∃ s, s = (x * L.length + 7) / 8 := ⟨_, rfl⟩
  have hp : x * L.length ≤ 64 * 65536 := Nat.mul_le_mul hx hn
  have hs1 : s ≤ 524288 := by omega
  have hs2 : x * L.length ≤ 8 * s := by omega
  have B1 := Lib.hid (bytes_anyN x L.length w hx hn)
  rw [← hs] at B1 ⊢
  have W1 := Lib.hid (width_any (c := c) h hL (by omega))
  have HS := Lib.hid hs2
  clear hs hs2 hp
  go_enter Try.func44, Try.ntmps44
  go_wp2_with (first
    | (go_at_call 55; refine B1.out.mono ?_; rintro e w1 ⟨rfl, rfl⟩)
    | (go_at_call 49; refine W1.out.mono ?_; rintro e w1 ⟨rfl, rfl⟩)
    | (refine wpList_mk elB rfl (.tmp 24) (.tmp 24) rfl (W := w) (B := w.heap.size) s s rfl rfl rfl rfl (by omega) (Below.refl _ _) (Nat.le_refl _) rfl (by omega) (by simp only [maxLen]; omega) ?_
       intro w1 hown1 hg1 hb1 hs1))
  go_loopw [8, 28] (fun a i wr => ∃ k m : Nat, k ≤ L.length ∧ m = x * k ∧ i = .int .i64 (k : Int) ∧ a = .int .i64 (m : Int) ∧ Own wr w.heap.size 5 (.slice (some ⟨w.heap.size, 0, none⟩) s s) (nums .u8 (low (pk x (L.take k)) s)) ∧ Below w.heap.size w wr) (fun _ i _ => L.length - (intOf i).toNat)
  case atStart => exact ⟨0, 0, by omega, rfl, rfl, rfl, by simpa [pk, low_zero, nums_replicate] using hown1, hb1⟩
  case round =>
    obtain ⟨k, m, hk, hm, rfl, rfl, hown, hb⟩ := hrel
    by_cases hlt : k < L.length
    · obtain ⟨ad, rfl, hbl, hcell⟩ := (h.below hb).num hlt
      have hy : L.getD k 0 < 2 ^ x := (wid_iff L x hx hL).1 hw _ (by rw [List.getD_eq_getElem?_getD, List.getElem?_eq_getElem hlt]; exact List.getElem_mem hlt)
      have hl0 : L.getD k 0 ≤ 18446744073709551615 := by
        rw [List.getD_eq_getElem?_getD, List.getElem?_eq_getElem hlt]
        exact hL _ (List.getElem_mem hlt)
      have HT := Lib.hid (take_snoc L k 0 hlt)
      have hX := pk_lt x (L.take k) (fun z hz => (wid_iff L x hx hL).1 hw z (List.mem_of_mem_take hz))
      rw [List.length_take, Nat.min_eq_left (by omega), ← hm] at hX
      have hmx : m + x ≤ 8 * s := by
        have h1 : x * (k + 1) ≤ x * L.length := Nat.mul_le_mul_left _ hlt
        rw [Nat.mul_succ] at h1
        have := HS.out
        omega
      generalize L.getD k 0 = y at *
      generalize hpk : pk x (L.take k) = X at *
      have HP := Lib.hid hpk
      clear hpk
      have Hm := Lib.hid hm
      have HX := Lib.hid hX
      have HY := Lib.hid hy
      clear hm hX hy
      go_wp2
      obtain ⟨wo, rfl⟩ : ∃ wo : World, wo = wr := ⟨_, rfl⟩
      go_loopw [8, 33] (fun a i wr => ∃ j m' : Nat, j ≤ x ∧ m' = m + j ∧ i = .int .i64 (j : Int) ∧ a = .int .i64 (m' : Int) ∧ Own wr w.heap.size 5 (.slice (some ⟨w.heap.size, 0, none⟩) s s) (nums .u8 (low (X + y % 2 ^ j * 2 ^ m) s)) ∧ Below w.heap.size w wr) (fun _ i _ => x - (intOf i).toNat)
      case atStart => exact ⟨0, m, by omega, rfl, rfl, rfl, by simpa [Nat.mod_one] using hown, hb⟩
      case round =>
        obtain ⟨j, m', hj, hm', rfl, rfl, hown, hb⟩ := hrel
        by_cases hlj : j < x
        · have hm8 : m' < 8 * s := by omega
          obtain ⟨q, r, hqr, q1, q2, q3, d1, d2⟩ := eighths m' (by omega)
          obtain ⟨hg0, hgl, hc, hf, hset⟩ := hown.num0 (i := q) (by omega)
          have Hm' := Lib.hid hm'
          have Hset := Lib.hid hset
          clear hm' hset
          generalize hbb : (low (X + y % 2 ^ j * 2 ^ m) s).getD q 0 = bb at *
          have Hbb := Lib.hid hbb
          clear hbb
          obtain ⟨t, ht, t1, t2, t3⟩ := bit64 y j hl0
          have hq4 : (q : Int) < (s : Int) := by omega
          have hq5 : (0 : Int) ≤ (q : Int) := by omega
          have P := pack_step s y j m' q r t HX.out Hm'.out hm8 hqr.out ht.out
          rw [Hbb.out] at P
          obtain ⟨z, hz⟩ : ∃ z, z = bb + t * 2 ^ r := ⟨_, rfl⟩
          have O := or_bit8 bb r t P.1 t1 q2
          rw [← hz] at O P
          have HP := Lib.hid P.2
          clear P hz
          go_wp2
          go_still_tail 15, (by kernel_rfl)
          go_wp2
          go_roundw
          case rel => exact ⟨j + 1, m' + 1, by omega, by have := Hm'.out; omega, by go_num, by go_num, by rw [← HP.out]; exact Hset.out z, by first | exact (hb.drew).setCell hg0 _ | exact hb.setCell hg0 _⟩
          case measure => simp [intOf]; omega
        · obtain rfl : j = x := by omega
          go_wp2
          go_roundw
          case rel => exact ⟨k + 1, m', by omega, by rw [hm', Hm.out, Nat.mul_succ], by go_num, rfl, by
            rw [HT.out, pk_snoc, List.length_take, Nat.min_eq_left (by omega), ← Hm.out, HP.out]
            rw [Nat.mod_eq_of_lt HY.out, Nat.mul_comm] at hown
            exact hown, hb⟩
          case measure => simp [intOf]; omega
    · obtain rfl : k = L.length := by omega
      rw [List.take_length] at hown
      go_wp2
      go_ret2
      exact ⟨_, _, _, rfl, hown, hb⟩

set_option maxHeartbeats 1000000 in
set_option maxRecDepth 100000 in
theorem pack_bad {w : World} {A : Option Addr} {n c : Nat} {L : List Nat} (x : Int) (h : Reads w w.heap.size 1 A n (nums .u64 L)) (hL : ∀ x ∈ L, x ≤ 18446744073709551615) (hn : n ≤ 9223372036854775807) (hx0 : -9223372036854775808 ≤ x) (hx : x ≤ 9223372036854775807)
    (hb : ¬ (0 ≤ x ∧ x ≤ 64 ∧ L.length ≤ 65536 ∧ (wid L : Int) ≤ x)) :
    Calls Try.prog 44 #[.slice A n c, .int .i64 x] w (OptB none w) := by
  obtain rfl := h.len
  have B1 := Lib.hid (bytes_any x L.length w hx0 hx (by omega) (by omega))
  have W1 := Lib.hid (width_any (c := c) h hL (by omega))
  by_cases hs : 0 ≤ x ∧ x ≤ 64 ∧ L.length ≤ 65536
  · have hy : x < (wid L : Int) := by omega
    have h0 : 0 ≤ nby x L.length := by
      unfold nby
      rw [if_neg (by omega)]
      have : 0 ≤ x * (L.length : Int) := Int.mul_nonneg (by omega) (by omega)
      omega
    clear hb hs
    generalize nby x L.length = B at *
    generalize wid L = W at *
    go_enter Try.func44, Try.ntmps44
    go_wp2_with (first
      | (go_at_call 55; refine B1.out.mono ?_; rintro e w1 ⟨rfl, rfl⟩)
      | (go_at_call 49; refine W1.out.mono ?_; rintro e w1 ⟨rfl, rfl⟩))
    go_ret2
    exact ⟨rfl, Below.refl _ _⟩
  · have h0 : nby x L.length = -1 := by unfold nby; rw [if_pos (by omega)]
    rw [h0] at B1
    clear hb hs h0
    go_enter Try.func44, Try.ntmps44
    go_wp2_with (first
      | (go_at_call 55; refine B1.out.mono ?_; rintro e w1 ⟨rfl, rfl⟩))
    go_ret2
    exact ⟨rfl, Below.refl _ _⟩
theorem pack_any {w : World} {A : Option Addr} {n c : Nat} {L : List Nat} (x : Int) (h : Reads w w.heap.size 1 A n (nums .u64 L)) (hL : ∀ x ∈ L, x ≤ 18446744073709551615) (hn : n ≤ 9223372036854775807) (hx0 : -9223372036854775808 ≤ x) (hx : x ≤ 9223372036854775807) :
    Calls Try.prog 44 #[.slice A n c, .int .i64 x] w (OptB (packO L x) w) := by
  have hl := h.len
  unfold packO
  split
  · rename_i hg
    obtain ⟨y, rfl⟩ := Int.eq_ofNat_of_zero_le hg.1
    have := pack_good (c := c) y h hL (by omega) (by omega) (by omega)
    rw [hl] at this ⊢
    exact this
  · rename_i hg
    exact pack_bad x h hL hn hx0 hx hg

end Go.Proofs.Ytnghjkihdcmoiaa
/- Numbers taken out of bytes, as plain lists. No program is named here. -/

namespace Go.Hm
/-- p numbers, k bits of the next one, and nothing yet of the others. -/
def ul (w p k B n : Nat) : List Nat := unpk w p B ++ (B / 2 ^ (w * p) % 2 ^ k) :: List.replicate (n - p - 1) 0
theorem ul_zero (w p B n : Nat) (h : p < n) : unpk w p B ++ List.replicate (n - p) 0 = ul w p 0 B n := by
  rw [ul, show n - p = (n - p - 1) + 1 by omega, List.replicate_succ, Nat.pow_zero, Nat.mod_one]
  rfl
theorem ul_all (w p B n : Nat) : ul w p w B n = unpk w (p + 1) B ++ List.replicate (n - (p + 1)) 0 := by
  rw [ul, unpk, List.append_assoc, show n - p - 1 = n - (p + 1) by omega]
  rfl
theorem ul_len (w p k B n : Nat) (h : p < n) : (ul w p k B n).length = n := by
  rw [ul, List.length_append, unpk_len, List.length_cons, List.length_replicate]; omega
theorem ul_getD (w p k B n : Nat) : (ul w p k B n).getD p 0 = B / 2 ^ (w * p) % 2 ^ k := by
  rw [ul, List.getD_eq_getElem?_getD, List.getElem?_append_right (by rw [unpk_len]; exact Nat.le_refl _), unpk_len]
  simp
theorem ul_step (w p k B n a t : Nat) (ha : a = w * p + k) (ht : t = B / 2 ^ a % 2) : (ul w p k B n).set p (B / 2 ^ (w * p) % 2 ^ k + t * 2 ^ k) = ul w p (k + 1) B n := by
  have e : B / 2 ^ (w * p) % 2 ^ (k + 1) = B / 2 ^ (w * p) % 2 ^ k + t * 2 ^ k := by
    rw [mod_succ_pow, Nat.div_div_eq_div_mul, ← Nat.pow_add, ← ha, ← ht, Nat.mul_comm t]
  rw [ul, ul, e, List.set_append_right _ _ (by rw [unpk_len]; exact Nat.le_refl _), unpk_len, Nat.sub_self]
  rfl
theorem bit_at (b : List Nat) (h : ∀ x ∈ b, x < 256) (a q r : Nat) (hq : q = a / 8 ∧ r = a % 8) (ha : a < 8 * b.length) : b.getD q 0 / 2 ^ r % 2 = num b / 2 ^ a % 2 := by
  obtain ⟨rfl, rfl⟩ := hq
  rw [num_byte b h _ (by omega)]
  have e : (256 : Nat) = 2 ^ (a % 8) * 2 ^ (8 - a % 8) := by rw [← Nat.pow_add, show a % 8 + (8 - a % 8) = 8 by omega]
  have e2 : 2 ^ (8 - a % 8) = 2 * 2 ^ (7 - a % 8) := by rw [← Nat.pow_succ']; congr 1; omega
  rw [show num b / 256 ^ (a / 8) % 256 = num b / 256 ^ (a / 8) % (2 ^ (a % 8) * 2 ^ (8 - a % 8)) by rw [← e], Nat.mod_mul_right_div_self, e2, Nat.mod_mul_right_mod, Nat.div_div_eq_div_mul, p256, ← Nat.pow_add]
  congr 3
  omega
/-- Whether what is left of the last byte is 0. -/
theorem num_last (b : List Nat) (h : ∀ x ∈ b, x < 256) (M r : Nat) (hl : b.length = (M + 7) / 8) (hr : r = M % 8) : num b < 2 ^ M ↔ (r = 0 ∨ b.getD (b.length - 1) 0 / 2 ^ r = 0) := by
  have hb := num_lt b h
  by_cases h0 : r = 0
  · have : M = 8 * b.length := by omega
    rw [p256, ← this] at hb
    simp [h0, hb]
  · have hl2 : b.length - 1 < b.length := by omega
    have hM : M = 8 * (b.length - 1) + r := by omega
    have e := num_byte b h _ hl2
    have hlt : num b / 256 ^ (b.length - 1) < 256 := by
      apply Nat.div_lt_of_lt_mul
      rw [← Nat.pow_succ, show (b.length - 1).succ = b.length by omega]
      exact hb
    rw [Nat.mod_eq_of_lt hlt] at e
    rw [e, hM, Nat.pow_add, ← p256]
    constructor
    · intro hh
      exact .inr (Nat.div_eq_of_lt (Nat.div_lt_of_lt_mul hh))
    · rintro (hh | hh)
      · exact absurd hh h0
      · have h1 : num b / 256 ^ (b.length - 1) < 2 ^ r := by
          rcases Nat.lt_or_ge (num b / 256 ^ (b.length - 1)) (2 ^ r) with h2 | h2
          · exact h2
          · have := Nat.div_pos h2 (Nat.two_pow_pos r)
            omega
        rw [Nat.mul_comm]
        exact (Nat.div_lt_iff_lt_mul (Nat.pow_pos (by omega))).1 h1
theorem or_bit64 (v k t : Nat) (hv : v < 2 ^ k) (ht : t ≤ 1) (hk : k < 64) : bits .or .u64 (v : Int) (IntKind.u64.wrap ((t : Int) * 2 ^ k)) = ((v + t * 2 ^ k : Nat) : Int) := by
  have h7 : 2 ^ (k + 1) ≤ 2 ^ 64 := Nat.pow_le_pow_right (by omega) (by omega)
  rw [Nat.pow_succ] at h7
  have hq : t * 2 ^ k ≤ 1 * 2 ^ k := Nat.mul_le_mul_right _ ht
  have e : IntKind.u64.wrap ((t : Int) * 2 ^ k) = ((t * 2 ^ k : Nat) : Int) := by
    have e2 : ((t * 2 ^ k : Nat) : Int) = (t : Int) * 2 ^ k := by simp
    rw [← e2, IntKind.wrap_u64]; omega
  rw [e, u64_or_nat _ _ (by omega) (by omega), Nat.or_comm, ← Nat.mul_comm (2 ^ k), ← Nat.two_pow_add_eq_or_of_lt hv, Nat.add_comm]

/-- One more bit, above all that there are. -/
theorem unpk_set (w n X a c : Nat) (hw : 0 < w) (ha : a < w * n) (hX : X < 2 ^ a) (hc : c ≤ 1) :
    (unpk w n X).set (a / w) ((unpk w n X).getD (a / w) 0 + c * 2 ^ (a % w)) = unpk w n (X + c * 2 ^ a) ∧ (unpk w n X).getD (a / w) 0 < 2 ^ (a % w) := by
  have hq : a / w < n := Nat.div_lt_of_lt_mul ha
  have hr := Nat.mod_lt a hw
  have hda := Nat.div_add_mod a w
  have ea : 2 ^ a = 2 ^ (w * (a / w)) * 2 ^ (a % w) := by rw [← Nat.pow_add, hda]
  have hrw : 2 ^ (a % w + 1) ≤ 2 ^ w := Nat.pow_le_pow_right (by omega) (by omega)
  rw [Nat.pow_succ] at hrw
  have h0 : X / 2 ^ (w * (a / w)) < 2 ^ (a % w) := by
    apply Nat.div_lt_of_lt_mul
    rw [← ea]; exact hX
  have hb : (unpk w n X).getD (a / w) 0 = X / 2 ^ (w * (a / w)) := by
    rw [unpk_getD _ _ _ _ hq]; exact Nat.mod_eq_of_lt (by omega)
  have hcc : c * 2 ^ (a % w) ≤ 1 * 2 ^ (a % w) := Nat.mul_le_mul_right _ hc
  have hlt : X / 2 ^ (w * (a / w)) + c * 2 ^ (a % w) < 2 ^ w := by omega
  refine ⟨?_, by rw [hb]; exact h0⟩
  refine List.ext_getElem (by simp [unpk_len]) fun i h1 h2 => ?_
  have h2' : i < n := by rwa [unpk_len] at h2
  have h1' : i < (unpk w n X).length := by rwa [unpk_len]
  have e2 : (unpk w n (X + c * 2 ^ a))[i] = (X + c * 2 ^ a) / 2 ^ (w * i) % 2 ^ w := by
    rw [← unpk_getD _ _ _ _ h2', List.getD_eq_getElem?_getD, List.getElem?_eq_getElem h2]; rfl
  have e1 : (unpk w n X)[i]'h1' = X / 2 ^ (w * i) % 2 ^ w := by
    rw [← unpk_getD _ _ _ _ h2', List.getD_eq_getElem?_getD, List.getElem?_eq_getElem h1']; rfl
  rw [e2, List.getElem_set]
  by_cases hi : a / w = i
  · subst hi
    rw [if_pos rfl, hb, ea, show c * (2 ^ (w * (a / w)) * 2 ^ (a % w)) = 2 ^ (w * (a / w)) * (c * 2 ^ (a % w)) from Nat.mul_left_comm _ _ _, Nat.add_mul_div_left _ _ (Nat.two_pow_pos _), Nat.mod_eq_of_lt hlt]
  · rw [if_neg hi, e1]
    rcases Nat.lt_or_gt_of_ne hi with hlt' | hgt
    · have hwi : w * (a / w + 1) ≤ w * i := Nat.mul_le_mul_left _ hlt'
      rw [Nat.mul_succ] at hwi
      have hp : 2 ^ (a + 1) ≤ 2 ^ (w * i) := Nat.pow_le_pow_right (by omega) (by omega)
      have hca : c * 2 ^ a ≤ 1 * 2 ^ a := Nat.mul_le_mul_right _ hc
      rw [Nat.pow_succ] at hp
      rw [Nat.div_eq_of_lt (by omega), Nat.div_eq_of_lt (by omega)]
    · have hwi : w * (i + 1) ≤ w * (a / w) := Nat.mul_le_mul_left _ hgt
      rw [Nat.mul_succ] at hwi
      have es : 2 ^ a = 2 ^ (w * i) * (2 ^ w * 2 ^ (a - (w * i + w))) := by
        rw [← Nat.pow_add, ← Nat.pow_add]; congr 1; omega
      rw [es, show c * (2 ^ (w * i) * (2 ^ w * 2 ^ (a - (w * i + w)))) = 2 ^ (w * i) * (2 ^ w * (c * 2 ^ (a - (w * i + w)))) by simp only [Nat.mul_left_comm], Nat.add_mul_div_left _ _ (Nat.two_pow_pos _), Nat.add_mul_mod_self_left]
theorem unpk_zero (w n : Nat) : unpk w n 0 = List.replicate n 0 := by
  induction n with
  | zero => rfl
  | succ n ih => rw [unpk, ih, List.replicate_succ']; simp
theorem and_bit8 (y r t : Nat) (hy : y < 256) (ht : t = y / 2 ^ r % 2) : bits .and .u8 ((y : Int) / 2 ^ r) 1 = (t : Int) := by
  have h1 : y / 2 ^ r ≤ y := Nat.div_le_self _ _
  have := u8_and_nat (y / 2 ^ r) 1 (by omega) (by omega)
  rw [Nat.and_one_is_mod, ← ht] at this
  rw [← this]
  congr 1

end Go.Hm
/- Unpacking: the package bitpack and its answer. -/

namespace Go.Proofs.Ytnghjkihdcmoiaa
open Go.RowKit Go.Hm

theorem optW_if {c : Prop} [Decidable c] {l : List Nat} {w w' : World} {e : Ending} (h : (c → OptW (some l) w e w') ∧ (¬ c → OptW none w e w')) : OptW (if c then some l else none) w e w' := by
  split
  · exact h.1 ‹_›
  · exact h.2 ‹_›

set_option maxHeartbeats 1000000 in
set_option maxRecDepth 100000 in
theorem unpack_good {w : World} {A : Option Addr} {m c : Nat} {b : List Nat} (x n : Nat) (h : Reads w w.heap.size 1 A m (nums .u8 b)) (h8 : ∀ x ∈ b, x < 256) (hx : x ≤ 64) (hn : n ≤ 65536) (hm : b.length = (x * n + 7) / 8) (hN : num b < 2 ^ (x * n)) :
    Calls Try.prog 52 #[.slice A m c, .int .i64 (x : Int), .int .i64 (n : Int)] w (OptW (some (unpk x n (num b))) w) := by
  obtain rfl := h.len
  have B1 := Lib.hid (bytes_anyN x n w hx hn)
  rw [← hm] at B1
  have hp : x * n ≤ 64 * 65536 := Nat.mul_le_mul hx hn
  obtain ⟨M, hM⟩ : ∃ M, M = x * n := ⟨_, rfl⟩
  rw [← hM] at hp hN hm
  have hMI : (x : Int) * (n : Int) = (M : Int) := by rw [hM, Int.natCast_mul]
  have NL := (num_last b h8 M (M % 8) hm rfl).1 hN
  obtain ⟨q, r, hqr, q1, q2, q3, d1, d2⟩ := eighths M (by omega)
  rw [← hqr.out.2] at NL
  have hl1 : b.length ≤ 524288 := by omega
  have hl2 : M ≤ 8 * b.length := by omega
  have HM := Lib.hid hM
  have Hm := Lib.hid hm
  clear hM hm hN d1
  by_cases hr : r = 0
  all_goals first
    | (subst hr
       clear NL)
    | (have hl0 : b.length - 1 < b.length := by have := Hm.out; have := hqr.out.2; omega
       obtain ⟨ad, rfl, hbl, hcell⟩ := h.num hl0
       have hr0 : (0 : Int) < (r : Int) := by omega
       have hlI : (1 : Int) ≤ (b.length : Int) := by omega
       have hL := NL.resolve_left hr
       generalize b.getD (b.length - 1) 0 = y at *
       have hz : ((y : Int) / 2 ^ r != 0) = false := by
         have e : ((y : Int) / 2 ^ r) = ((y / 2 ^ r : Nat) : Int) := by simp
         rw [e, hL]; rfl
       clear NL hL hr)
  all_goals
    go_enter Try.func52, Try.ntmps52
    go_wp2_with (first
      | (go_at_call 55; refine B1.out.mono ?_; rintro e w1 ⟨rfl, rfl⟩)
      | (refine wpList_mk elW rfl (.tmp 36) (.tmp 36) rfl (W := w) (B := w.heap.size) n n rfl rfl rfl rfl (by omega) (Below.refl _ _) (Nat.le_refl _) rfl (by omega) (by simp only [maxLen]; omega) ?_
         intro w1 hown1 hg1 hb1 hs1))
    go_loopw [10, 39] (fun a i wr => ∃ k m : Nat, k ≤ n ∧ m = x * k ∧ i = .int .i64 (k : Int) ∧ a = .int .i64 (m : Int) ∧ Own wr w.heap.size 36 (.slice (some ⟨w.heap.size, 0, none⟩) n n) (nums .u64 (unpk x k (num b) ++ List.replicate (n - k) 0)) ∧ Below w.heap.size w wr) (fun _ i _ => n - (intOf i).toNat)
    case atStart => exact ⟨0, 0, by omega, rfl, rfl, rfl, by simpa [unpk, nums_replicate] using hown1, hb1⟩
    case round =>
      obtain ⟨k, m, hk, hm, rfl, rfl, hown, hb⟩ := hrel
      by_cases hlt : k < n
      · rw [ul_zero x k (num b) n hlt] at hown
        have hmx : m + x ≤ M := by
          have h1 : x * (k + 1) ≤ x * n := Nat.mul_le_mul_left _ hlt
          rw [Nat.mul_succ] at h1
          have := HM.out
          omega
        have Hm := Lib.hid hm
        clear hm
        go_wp2
        obtain ⟨wo, rfl⟩ : ∃ wo : World, wo = wr := ⟨_, rfl⟩
        go_loopw [10, 43] (fun a i wr => ∃ j m' : Nat, j ≤ x ∧ m' = m + j ∧ i = .int .i64 (j : Int) ∧ a = .int .i64 (m' : Int) ∧ Own wr w.heap.size 36 (.slice (some ⟨w.heap.size, 0, none⟩) n n) (nums .u64 (ul x k j (num b) n)) ∧ Below w.heap.size w wr) (fun _ i _ => x - (intOf i).toNat)
        case atStart => exact ⟨0, m, by omega, rfl, rfl, rfl, hown, hb⟩
        case round =>
          obtain ⟨j, m', hj, hm', rfl, rfl, hown, hb⟩ := hrel
          by_cases hlj : j < x
          · have hm8 : m' < 8 * b.length := by omega
            obtain ⟨q, r, hqr, q1, q2, q3, d1, d2⟩ := eighths m' (by omega)
            obtain ⟨hg0, hgl, hc, hf, hset⟩ := hown.num0 (i := k) hlt
            have Hm' := Lib.hid hm'
            have Hset := Lib.hid hset
            clear hm' hset
            obtain ⟨ad1, e1, hbl1, hcb⟩ := (h.below hb).num (i := q) (by omega)
            first | (subst e1; skip) | (injection e1 with e1; subst e1)
            obtain ⟨t, ht⟩ : ∃ t, t = num b / 2 ^ m' % 2 := ⟨_, rfl⟩
            have hbit := bit_at b h8 m' q r hqr.out hm8
            have ht1 : t ≤ 1 := by omega
            have S := ul_step x k j (num b) n m' t (by rw [Hm'.out, Hm.out]) ht
            rw [ul_getD] at hc
            rw [← ht] at hbit
            have hv : num b / 2 ^ (x * k) % 2 ^ j < 2 ^ j := Nat.mod_lt _ (Nat.two_pow_pos _)
            generalize num b / 2 ^ (x * k) % 2 ^ j = v at *
            have hy := getD_lt b q h8
            generalize b.getD q 0 = y at *
            have O := or_bit64 v j t hv ht1 (by omega)
            obtain ⟨z, hz⟩ : ∃ z, z = v + t * 2 ^ j := ⟨_, rfl⟩
            rw [← hz] at O S
            have T1 := and_bit8 y r t hy hbit.symm
            have T2 : IntKind.u64.wrap (t : Int) = (t : Int) := by rw [IntKind.wrap_u64]; omega
            have HS := Lib.hid S
            have hq4 : (q : Int) < (b.length : Int) := by omega
            have hq5 : (0 : Int) ≤ (q : Int) := by omega
            have hq6 : (k : Int) < (n : Int) := by omega
            have hq7 : (0 : Int) ≤ (k : Int) := by omega
            clear S hz ht hbit hv
            go_wp2
            go_still_tail 18, (by kernel_rfl)
            go_wp2
            go_roundw
            case rel => exact ⟨j + 1, m' + 1, by omega, by have := Hm'.out; omega, by go_num, by go_num, by rw [← HS.out]; exact Hset.out z, by first | exact (hb.drew).setCell hg0 _ | exact hb.setCell hg0 _⟩
            case measure => simp [intOf]; omega
          · obtain rfl : j = x := by omega
            rw [ul_all] at hown
            go_wp2
            go_roundw
            case rel => exact ⟨k + 1, m', by omega, by rw [hm', Hm.out, Nat.mul_succ], by go_num, rfl, hown, hb⟩
            case measure => simp [intOf]; omega
      · obtain rfl : k = n := by omega
        rw [Nat.sub_self, List.replicate_zero, List.append_nil] at hown
        go_wp2
        go_ret2
        exact ⟨_, _, _, rfl, hown, hb⟩

set_option maxHeartbeats 1000000 in
set_option maxRecDepth 100000 in
theorem unpack_bad {w : World} {A : Option Addr} {m c : Nat} {b : List Nat} (x n : Int) (h : Reads w w.heap.size 1 A m (nums .u8 b)) (h8 : ∀ x ∈ b, x < 256) (hm : m ≤ 9223372036854775807) (hx0 : -9223372036854775808 ≤ x) (hx : x ≤ 9223372036854775807) (hn0 : -9223372036854775808 ≤ n) (hn : n ≤ 9223372036854775807)
    (hb : ¬ (0 ≤ x ∧ x ≤ 64 ∧ 0 ≤ n ∧ n ≤ 65536 ∧ b.length = (x.toNat * n.toNat + 7) / 8 ∧ num b < 2 ^ (x.toNat * n.toNat))) :
    Calls Try.prog 52 #[.slice A m c, .int .i64 x, .int .i64 n] w (OptW none w) := by
  obtain rfl := h.len
  have B1 := Lib.hid (bytes_any x n w hx0 hx hn0 hn)
  by_cases hs : (b.length : Int) = nby x n
  · have hg : 0 ≤ x ∧ x ≤ 64 ∧ 0 ≤ n ∧ n ≤ 65536 := by
      unfold nby at hs
      split at hs <;> omega
    obtain ⟨x, rfl⟩ := Int.eq_ofNat_of_zero_le hg.1
    obtain ⟨n, rfl⟩ := Int.eq_ofNat_of_zero_le hg.2.2.1
    rw [nby_nat x n (by omega) (by omega)] at hs B1
    have hs' : b.length = (x * n + 7) / 8 := by omega
    rw [← hs'] at B1
    obtain ⟨M, hM⟩ : ∃ M, M = x * n := ⟨_, rfl⟩
    have hp : x * n ≤ 64 * 65536 := Nat.mul_le_mul (by omega) (by omega)
    have hN : ¬ num b < 2 ^ M := by
      intro hN
      refine hb ⟨by omega, by omega, by omega, by omega, ?_, ?_⟩
      · simpa using hs'
      · simpa [← hM] using hN
    rw [← hM] at hp hs'
    have hMI : (x : Int) * (n : Int) = (M : Int) := by rw [hM, Int.natCast_mul]
    obtain ⟨q, r, hqr, q1, q2, q3, d1, d2⟩ := eighths M (by omega)
    have NL := (not_congr (num_last b h8 M r hs' hqr.out.2)).1 hN
    have hM8 := hqr.out.2
    have hr : ¬ r = 0 := fun e => NL (.inl e)
    have hL : ¬ b.getD (b.length - 1) 0 / 2 ^ r = 0 := fun e => NL (.inr e)
    have hl0 : b.length - 1 < b.length := by omega
    obtain ⟨ad, rfl, hbl, hcell⟩ := h.num hl0
    have hr0 : (0 : Int) < (r : Int) := by omega
    have hlI : (1 : Int) ≤ (b.length : Int) := by omega
    generalize b.getD (b.length - 1) 0 = y at *
    have hz : ((y : Int) / 2 ^ r != 0) = true := by
      have e : ((y : Int) / 2 ^ r) = ((y / 2 ^ r : Nat) : Int) := by simp
      rw [e, bne_iff_ne]; omega
    clear NL hL hr hM8 hN hs' hb hg hs d1
    have HM := Lib.hid hM
    clear hM
    go_enter Try.func52, Try.ntmps52
    go_wp2_with (first
      | (go_at_call 55; refine B1.out.mono ?_; rintro e w1 ⟨rfl, rfl⟩))
    go_ret2
    exact ⟨rfl, Below.refl _ _⟩
  · have hs1 : ((b.length : Int) != nby x n) = true := by rw [bne_iff_ne]; exact hs
    generalize nby x n = B at *
    clear hs hb
    go_enter Try.func52, Try.ntmps52
    go_wp2_with (first
      | (go_at_call 55; refine B1.out.mono ?_; rintro e w1 ⟨rfl, rfl⟩))
    go_ret2
    exact ⟨rfl, Below.refl _ _⟩
theorem unpack_any {w : World} {A : Option Addr} {m c : Nat} {b : List Nat} (x n : Int) (h : Reads w w.heap.size 1 A m (nums .u8 b)) (h8 : ∀ x ∈ b, x < 256) (hm : m ≤ 9223372036854775807) (hx0 : -9223372036854775808 ≤ x) (hx : x ≤ 9223372036854775807) (hn0 : -9223372036854775808 ≤ n) (hn : n ≤ 9223372036854775807) :
    Calls Try.prog 52 #[.slice A m c, .int .i64 x, .int .i64 n] w (OptW (unpackO b x n) w) := by
  unfold unpackO
  split
  · rename_i hg
    obtain ⟨x, rfl⟩ := Int.eq_ofNat_of_zero_le hg.1
    obtain ⟨n, rfl⟩ := Int.eq_ofNat_of_zero_le hg.2.2.1
    simp only [Int.toNat_natCast] at hg ⊢
    exact unpack_good x n h h8 (by omega) (by omega) hg.2.2.2.2.1 hg.2.2.2.2.2
  · rename_i hg
    exact unpack_bad x n h h8 hm hx0 hx hn0 hn hg

end Go.Proofs.Ytnghjkihdcmoiaa
/- What was packed is unpacked, and the other way round: plain lists. -/

namespace Go.Proofs.Ytnghjkihdcmoiaa
open Go.RowKit Go.Hm
theorem packO_some (L : List Nat) (x : Nat) (hx : x ≤ 64) (hl : L.length ≤ 65536) (hw : wid L ≤ x) : packO L (x : Int) = some (low (pk x L) ((x * L.length + 7) / 8)) := by
  unfold packO
  rw [if_pos ⟨by omega, by omega, hl, by omega⟩, Int.toNat_natCast]
theorem unpack_pack (L : List Nat) (x : Nat) (hx : x ≤ 64) (hl : L.length ≤ 65536) (hw : wid L ≤ x) (hL : ∀ x ∈ L, x ≤ 18446744073709551615) : unpackO (low (pk x L) ((x * L.length + 7) / 8)) (x : Int) (L.length : Int) = some L := by
  have h2 := (wid_iff L x hx hL).1 hw
  have h1 := pk_lt x L h2
  have h3 : num (low (pk x L) ((x * L.length + 7) / 8)) = pk x L := by
    rw [num_low, p256, Nat.mod_eq_of_lt]
    exact Nat.lt_of_lt_of_le h1 (Nat.pow_le_pow_right (by omega) (by omega))
  unfold unpackO
  rw [if_pos ⟨by omega, by omega, by omega, by omega, by simp only [Int.toNat_natCast, low_len], by simp only [Int.toNat_natCast, h3]; exact h1⟩]
  simp only [Int.toNat_natCast, h3]
  rw [unpk_pk x L h2 _ (Nat.mod_eq_of_lt h1)]
theorem pack_unpack {b l : List Nat} {x n : Int} (h8 : ∀ x ∈ b, x < 256) (h : unpackO b x n = some l) : packO l x = some b ∧ (l.length : Int) = n ∧ (wid l : Int) ≤ x ∧ (∀ y ∈ l, y ≤ 18446744073709551615) ∧ l.length ≤ 65536 := by
  unfold unpackO at h
  split at h
  · rename_i hg
    obtain ⟨h1, h2, h3, h4, h5, h6⟩ := hg
    injection h with h
    obtain ⟨x, rfl⟩ := Int.eq_ofNat_of_zero_le h1
    obtain ⟨n, rfl⟩ := Int.eq_ofNat_of_zero_le h3
    simp only [Int.toNat_natCast] at h5 h6 h
    have hx : x ≤ 64 := by omega
    have hlt : ∀ y ∈ l, y < 2 ^ x := by rw [← h]; exact unpk_lt _ _ _
    have hll : l.length = n := by rw [← h, unpk_len]
    have hp : 2 ^ x ≤ 2 ^ 64 := Nat.pow_le_pow_right (by omega) hx
    have hb : ∀ y ∈ l, y ≤ 18446744073709551615 := fun y hy => by have := hlt y hy; omega
    have hw : wid l ≤ x := (wid_iff l x hx hb).2 hlt
    refine ⟨?_, by omega, by omega, hb, by omega⟩
    rw [packO_some l x hx (by omega) hw, hll, ← h5, ← h, pk_unpk, Nat.mod_eq_of_lt h6, low_num b h8]
  · cases h

end Go.Proofs.Ytnghjkihdcmoiaa
