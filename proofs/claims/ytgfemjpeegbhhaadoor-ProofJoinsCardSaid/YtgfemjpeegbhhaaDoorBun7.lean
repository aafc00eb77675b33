/- Texts merged, for a claim has at most 60 files: Open02, Open21, TagW, TreW, PrfO, PrfN, Dr, PrfP, UpC, PrfJ. -/
import Derived.Laws.EntriesVeiled
import Derived.Test.YtgfemjpeegbhhaaDoorBun1
import Derived.Test.YtgfemjpeegbhhaaDoorBun4
import Derived.Test.YtgfemjpeegbhhaaDoorBun6
/- Rows of bytes, and rows of these, opened; what laws of layer 2 share. -/
set_option maxRecDepth 100000

namespace Go.Hm
open Go Go.RowKit
theorem parse_lt {b : List Nat} (h8 : ∀ x ∈ b, x < 256) : ∀ p ∈ ((parseO b).map Prod.snd).getD [], ∀ x ∈ p, x < 256 := by
  cases h : parseO b with
  | none => simp
  | some q => exact (frame_parse (s := q.1) (L := q.2) h8 h).2.2
theorem parse_lt1 {b : List Nat} (h8 : ∀ x ∈ b, x < 256) : ∀ x ∈ ((parseO b).map Prod.fst).getD [], x < 256 := by
  cases h : parseO b with
  | none => simp
  | some q => exact (frame_parse (s := q.1) (L := q.2) h8 h).2.1
theorem parse_few {b : List Nat} (h8 : ∀ x ∈ b, x < 256) : (((parseO b).map Prod.snd).getD []).length ≤ 255 := by
  cases h : parseO b with
  | none => simp
  | some q =>
    have := (frame_parse (s := q.1) (L := q.2) h8 h).1
    unfold frameO at this
    split at this
    · rename_i hc; exact hc.2.2
    · cases this
theorem parse_n {b : List Nat} {D : List PartS} {w : World} {A : Option Addr} {n c : Nat} (h8 : ∀ x ∈ b, x < 256) (h : RowsAt w A n c D) (hD : bytesOf D = ((parseO b).map Prod.snd).getD []) : n ≤ 255 := by
  have h1 := parse_few h8
  rw [← hD, bytesOf_len, ← h.len] at h1
  exact h1
/-- A tag and its parts as they lie: the tag, where the parts are, how many may, and which. -/
abbrev RowS := List Nat × Option Addr × Nat × List PartS
def rowV (r : RowS) : List Value := [.string (bstr r.1), .slice r.2.1 r.2.2.2.length r.2.2.1]
def PartsFine (D : List PartS) : Prop := ∀ p ∈ bytesOf D, (∀ x ∈ p, x < 256) ∧ p.length ≤ 140737488351232
theorem PartsFine.lt {D : List PartS} (h : PartsFine D) : ∀ p ∈ bytesOf D, ∀ x ∈ p, x < 256 := fun p hp => (h p hp).1
structure RowIn (w : World) (r : RowS) : Prop where
  tag : (∀ x ∈ r.1, x < 256) ∧ r.1.length ≤ 140737488351232
  rows : RowsAt w r.2.1 r.2.2.2.length r.2.2.1 r.2.2.2
  fine : PartsFine r.2.2.2
  few : r.2.2.2.length ≤ 4611686018427387903
theorem RowIn.later {w w' : World} {r : RowS} (h : RowIn w r) (hb : New w w') : RowIn w' r := ⟨h.tag, h.rows.later hb, h.fine, h.few⟩

end Go.Hm

namespace Go.Proofs.YtgfemjpeegbhhaaDoor
open Go.RowKit Go.Hm Go.WideShapes Go.ChangeShapes

section
variable {H : Type} {enc : TypeId × Value → H} {W : World} {base : Nat} {v : Value} {d : DataW H} {ps : List MemPlace}
theorem nat_recs (l : List Nat) : recs (fun n : Nat => [.int .u8 (n : Int)]) l = nums .u8 l := by
  induction l with
  | nil => rfl
  | cons x l ih => rw [recs_cons, ih]; rfl
theorem held_bytes {cs : List Value} (h : Held enc Tryd.prog W 22 cs) : ∃ x : PartS, cs = partV x ∧ (Reads W W.heap.size 1 x.1 x.2.2.length (nums .u8 x.2.2) ∧ x.2.2.length ≤ x.2.1 ∧ x.2.1 ≤ 140737488351232 ∧ ∀ z ∈ x.2.2, z < 256) := by
  have ht : Tryd.prog.underlying 22 = some (.slice 5) := by kernel_rfl
  obtain ⟨A, c, l, h1, h2, _, h4, h5, h6⟩ := h.recs (f := fun n : Nat => [.int .u8 (n : Int)]) (sz := 1) (by_ := 1) (Q := fun x => x < 256) 0 ht (by kernel_rfl) (by kernel_rfl) (fun _ => rfl) (by omega) (fun cs hh => by
    obtain ⟨n, e1, e2⟩ := hh.nat (k := .u8) rfl (by kernel_rfl)
    exact ⟨n, e1, by simp [IntKind.max, IntKind.signed, IntKind.bits] at e2; omega⟩)
  rw [nat_recs] at h5
  exact ⟨(A, c, l), h1, h5, h2, by show c ≤ _; unfold reachBytes at h4; omega, h6⟩
theorem held_parts {cs : List Value} (h : Held enc Tryd.prog W 28 cs) : ∃ (A : Option Addr) (c : Nat) (D : List PartS), cs = [.slice A D.length c] ∧ RowsAt W A D.length c D ∧ PartsFine D ∧ D.length ≤ 4611686018427387903 := by
  have ht : Tryd.prog.underlying 28 = some (.slice 22) := by kernel_rfl
  obtain ⟨A, c, l, h1, h2, _, h4, h5, h6⟩ := h.recs (f := partV) (sz := 1) (by_ := 24) (Q := fun x => (Reads W W.heap.size 1 x.1 x.2.2.length (nums .u8 x.2.2) ∧ x.2.2.length ≤ x.2.1 ∧ x.2.1 ≤ 140737488351232 ∧ ∀ z ∈ x.2.2, z < 256)) (none, 0, []) ht (by kernel_rfl) (by kernel_rfl) (fun _ => rfl) (by omega) (fun cs hh => held_bytes hh)
  refine ⟨A, c, l, h1, ⟨h5, fun d hd => ⟨(h6 d hd).1, (h6 d hd).2.1, by have := (h6 d hd).2.2.1; omega⟩, h2⟩, fun p hp => ?_, by unfold reachBytes at h4; omega⟩
  obtain ⟨d, hd, rfl⟩ := List.mem_map.1 hp
  exact ⟨(h6 d hd).2.2.2, by have := (h6 d hd).2.1; have := (h6 d hd).2.2.1; omega⟩
theorem open_BB (hval : Value.okWide Tryd.prog W .any base 28 v) (h : DataW.Trod enc Tryd.prog W 0 (fun _ => true) true 28 v d ps) (hlt : ∀ p ∈ ps, p.block < W.heap.size) (hw : ∀ n ∈ d.weights Tryd.prog 28, n ≤ reachBytes) :
    ∃ (A : Option Addr) (c : Nat) (D : List PartS), v = .slice A D.length c ∧ RowsAt W A D.length c D ∧ PartsFine D ∧ D.length ≤ 4611686018427387903 := by
  have ht : Tryd.prog.underlying 28 = some (.slice 22) := by kernel_rfl
  obtain ⟨a0, len, cap, rfl⟩ := okWide_slice ht hval
  obtain ⟨A, c, D, h1, h2⟩ := held_parts (Held.of h hlt hw)
  simp only [Value.cells, List.cons.injEq, and_true] at h1
  rw [h1]
  exact ⟨A, c, D, rfl, h2⟩
end

end Go.Proofs.YtgfemjpeegbhhaaDoor
/- Opens digests that come in. -/

namespace Go.Proofs.YtgfemjpeegbhhaaDoor
open Go.RowKit Go.Hm Go.WideShapes Go.ChangeShapes

section
variable {H : Type} {enc : TypeId × Value → H} {W : World} {base : Nat} {v : Value} {d : DataW H} {ps : List MemPlace}
theorem held_dig {cs : List Value} (h : Held enc Tryd.prog W 32 cs) : ∃ d : List Nat, cs = digC d ∧ DigN d := by
  have ht : Tryd.prog.underlying 32 = some (.array 32 5) := by kernel_rfl
  obtain ⟨hl, hi⟩ := h.array ht
  have hc : Tryd.prog.cellsOf 5 = 1 := by kernel_rfl
  have h32 : Tryd.prog.cellsOf 32 = 32 := by kernel_rfl
  rw [h32] at hl
  obtain ⟨l, hll, hp⟩ := list_choose (p := fun i (x : Nat) => cs[i]? = some (.int .u8 (x : Int)) ∧ x < 256) 0 32 (fun i hi32 => by
    obtain ⟨n, e1, e2⟩ := (hi i hi32).nat (k := .u8) rfl (by kernel_rfl)
    rw [hc, Nat.mul_one] at e1
    refine ⟨n, ?_, by simp [IntKind.max, IntKind.signed, IntKind.bits] at e2; omega⟩
    have := congrArg (fun z : List Value => z[0]?) e1
    simpa [List.getElem?_take, List.getElem?_drop] using this)
  refine ⟨l, ?_, hll, fun x hx => ?_⟩
  · refine List.ext_getElem? fun i => ?_
    by_cases hi32 : i < 32
    · rw [(hp i hi32).1]
      simp [digC, hi32]
    · rw [List.getElem?_eq_none (by omega), List.getElem?_eq_none (by rw [digC_len]; omega)]
  · obtain ⟨i, hi', rfl⟩ := List.getElem_of_mem hx
    have := (hp i (by omega)).2
    rwa [List.getD_eq_getElem?_getD, List.getElem?_eq_getElem hi'] at this
theorem open_Ds (hval : Value.okWide Tryd.prog W .any base 23 v) (h : DataW.Trod enc Tryd.prog W 0 (fun _ => true) true 23 v d ps) (hlt : ∀ p ∈ ps, p.block < W.heap.size) (hw : ∀ n ∈ d.weights Tryd.prog 23, n ≤ reachBytes) :
    ∃ (A : Option Addr) (c : Nat) (L : List (List Nat)), v = .slice A L.length c ∧ Reads W W.heap.size 32 A L.length (recs digC L) ∧ Digs L ∧ L.length ≤ c ∧ c ≤ 9223372036854775807 := by
  have ht : Tryd.prog.underlying 23 = some (.slice 32) := by kernel_rfl
  obtain ⟨a0, len, cap, rfl⟩ := okWide_slice ht hval
  obtain ⟨A, c, L, h1, h2, h3, _, h5, h6⟩ := (Held.of h hlt hw).recs (f := digC) (sz := 32) (by_ := 32) (Q := DigN) [] ht (by kernel_rfl) (by kernel_rfl) (fun _ => digC_len _) (by omega) (fun cs hh => held_dig hh)
  simp only [Value.cells, List.cons.injEq, and_true] at h1
  rw [h1]
  exact ⟨A, c, L, rfl, h5, h6, h2, by simp only [maxLen] at h3; omega⟩
end
/-- Digests that came in, apart from what is made later. -/
theorem leafIn_of {w : World} {A : Option Addr} {L : List (List Nat)} (h : Reads w w.heap.size 32 A L.length (recs digC L)) (hd : Digs L) {w' : World} (hb : New w w') {T : List Nat} (hT : ∀ x ∈ T, w.heap.size ≤ x) : LeafIn w' A L T := by
  refine ⟨Reads.later h hb, hd, fun hn ad ha hm => ?_⟩
  obtain ⟨ad', e, hlt, _⟩ := h.2 hn
  rw [ha] at e
  injection e with e
  subst e
  have := hT _ hm
  omega

end Go.Proofs.YtgfemjpeegbhhaaDoor
/- What the laws on logs share. -/

namespace Go.Hm
open Go Go.RowKit
/-- Rows that came in. -/
structure LogRows (w : World) (A : Option Addr) (L : List RowS) : Prop where
  row : Reads w w.heap.size 2 A L.length (recs rowV L)
  fine : ∀ r ∈ L, RowIn w r
theorem LogRows.later {w w' : World} {A : Option Addr} {L : List RowS} (h : LogRows w A L) (hb : New w w') : LogRows w' A L := ⟨Reads.later h.row hb, fun r hr => (h.fine r hr).later hb⟩
abbrev rowZ : RowS := ([], none, 0, [])
theorem LogRows.at_ {w : World} {A : Option Addr} {L : List RowS} (h : LogRows w A L) {i : Nat} (hi : i < L.length) :
    ∃ ad, A = some ad ∧ RowIn w (L.getD i rowZ) ∧ ∀ W, New w W → W.cell? (ad.add (i * 2)) = some (.string (bstr (L.getD i rowZ).1)) ∧ W.cell? ⟨(ad.add (i * 2)).block, (ad.add (i * 2)).off + 1, none⟩ = some (.slice (L.getD i rowZ).2.1 (L.getD i rowZ).2.2.2.length (L.getD i rowZ).2.2.1) := by
  obtain ⟨ad, e, hb, hl, hc⟩ := Reads.rec_ (f := rowV) (sz := 2) (fun _ => rfl) rowZ h.row hi (by omega)
  refine ⟨ad, e, h.fine _ ?_, fun W hW => ?_⟩
  · rw [List.getD_eq_getElem?_getD, List.getElem?_eq_getElem hi]
    exact List.getElem_mem hi
  · have h0 := hc 0 _ rfl
    have h1 := hc 1 _ rfl
    rw [← add_of_add] at h1
    exact ⟨(Below.cell hW (by rw [block_of_add]; exact hb)).trans h0, (Below.cell hW (by rw [block_of_add]; exact hb)).trans h1⟩
/-- Frames that may be summed. -/
def GoodF (F : List (List Nat)) : Prop := ∀ p ∈ F, (∀ x ∈ p, x < 256) ∧ p.length ≤ 1000000
theorem GoodF.add {F : List (List Nat)} {o : Option (List Nat)} (h : GoodF F) (ho : ∀ f, o = some f → (∀ x ∈ f, x < 256) ∧ f.length ≤ 1000000) : GoodF (F ++ o.toList) := by
  intro p hp
  rcases List.mem_append.1 hp with hp | hp
  · exact h p hp
  · cases o with
    | none => simp at hp
    | some f =>
      obtain rfl : p = f := by simpa using hp
      exact ho p rfl
theorem add_len (F : List (List Nat)) (o : Option (List Nat)) : (F ++ o.toList).length ≤ F.length + 1 := by cases o <;> simp
theorem extractO_is {A B : List (List Nat)} {x y : List Nat} (h : extractO A B = some (x, y)) : x ∈ A ∧ y ∈ B ∧ x ≠ y ∧ sumI x = sumI y := by
  unfold extractO at h
  obtain ⟨z, hz, h2⟩ := List.exists_of_findSome?_eq_some h
  cases hf : (B.find? fun y => decide (z ≠ y ∧ sumI z = sumI y)) with
  | none => rw [hf] at h2; cases h2
  | some y2 =>
    rw [hf] at h2
    simp only [Option.map_some, Option.some.injEq, Prod.mk.injEq] at h2
    obtain ⟨rfl, rfl⟩ := h2
    have := List.find?_some hf
    exact ⟨hz, List.mem_of_find?_eq_some hf, of_decide_eq_true this⟩

end Go.Hm

namespace Go.Proofs.YtgfemjpeegbhhaaDoor
open Go.RowKit Go.Hm

section
variable {P : Program} {w : World} {a : Act} {dst : Option Tmp} {tt : TypeId} {pos : String} {af : Array Edge} {gd : Option (Nat × Bool)}
theorem exec_aggN {t t2 : TypeId} {x y : Operand} {v : Value} {xs ys : Array Value} (hx : a.eval x = .agg xs) (hy : a.eval y = .agg ys) (hm : P.eqGuardType P.depth t = false) (hv : (binOp .neq t (.agg xs) (.agg ys)).run P w = .ok v w) : (execOp a.eval ⟨dst, .binOp .neq t x y t2, tt, pos, af, gd⟩).run P w = .ok (.value v) w := by
  unfold execOp
  simp only [hx, hy, Sem.run_bind, run_eqGuard_agg (hm := hm), hv, Result.andThen_ok, Sem.run_pure]
end
theorem run_neq_agg {P : Program} {w : World} {t : TypeId} {xs ys : Array Value} {b : Bool} (h : (binOp .eql t (.agg xs) (.agg ys)).run P w = .ok (.bool b) w) : (binOp .neq t (.agg xs) (.agg ys)).run P w = .ok (.bool !b) w := by
  rw [run_eql_struct] at h
  simp only [binOp]
  simp [Op.equal, Op.maxDepth]
  cases hq : (Op.equalIn 10000 t (.agg xs) (.agg ys)).run P w with
  | ok b' w' =>
    rw [hq] at h
    simp [Result.andThen] at h ⊢
    exact h
  | _ => rw [hq] at h; simp [Result.andThen] at h
theorem few_of {D : List PartS} (h : fewT (bytesOf D) = true) : D.length ≤ 260 ∧ tsum (bytesOf D) ≤ 1500 := by
  unfold fewT at h
  rw [decide_eq_true_eq, bytesOf_len] at h
  exact h
theorem frame_good {s : List Nat} {D : List PartS} (hs : ∀ x ∈ s, x < 256) (hD : PartsFine D) (ht : tsum (bytesOf D) ≤ 990000) : ∀ f, frameO s (bytesOf D) = some f → (∀ x ∈ f, x < 256) ∧ f.length ≤ 1000000 := fun _ hf => ⟨frameO_lt hs hD.lt hf, frameO_len hf ht⟩
/-- What a log may turn is its own. -/
theorem LogAt.own {w : World} {base g B : Nat} {V : Value} {L : List (List Nat)} (h : LogAt w base g V L) (hb : B ≤ base) (hg : B ≤ g) : ∀ x ∈ g :: rowT V, B ≤ x := by
  intro x hx
  rcases List.mem_cons.1 hx with rfl | hx
  · exact hg
  · exact Nat.le_trans hb (h.ge x hx).1
/-- None of a log's blocks that may be turned holds bytes. -/
theorem LogAt.noB {w : World} {base g : Nat} {V : Value} {L : List (List Nat)} (h : LogAt w base g V L) : ∀ x ∈ g :: rowT V, x < w.heap.size → ∀ cs, ¬ Blk w x 5 cs := by
  obtain ⟨A, n, c, D, rfl, h1, h2, _⟩ := h
  intro x hx _ cs hB
  rcases List.mem_cons.1 hx with rfl | hx
  · exact Blk.ne_ h1 hB (by decide) rfl
  · exact rowT_ne h2 hB (by decide) hx
/-- A log is not another one's slice. -/
theorem LogAt.notRow {w : World} {base base' g g' : Nat} {V V' : Value} {L L' : List (List Nat)} (h : LogAt w base g V L) (h' : LogAt w base' g' V' L') : g ∉ rowT V' ∧ V.ownBlock ≠ some g' := by
  obtain ⟨A, n, c, D, rfl, h1, h2, _⟩ := h
  obtain ⟨A', n', c', D', rfl, h1', h2', _⟩ := h'
  exact ⟨fun hx => rowT_ne h2' h1 (by decide) hx, h2.blk_ne h1' (by decide)⟩
theorem rowT_mem {V : Value} {x : Nat} (h : V.ownBlock = some x) : x ∈ rowT V := by unfold rowT; rw [h]; simp
/-- One log is kept while the other is turned. -/
theorem LogAt.other {w w' : World} {base base' g g' : Nat} {V V' : Value} {L L' : List (List Nat)} (h : LogAt w base g V L) (h' : LogAt w base' g' V' L') (hne : g ≠ g') (hd : ∀ x ∈ rowT V', V.ownBlock ≠ some x) (k : Turns (g' :: rowT V') w w') : LogAt w' base g V L := by
  obtain ⟨n1, n2⟩ := h.notRow h'
  refine h.turn k (fun hx => ?_) (fun x hx => ?_) h'.noB
  · rcases List.mem_cons.1 hx with e | hx
    · exact hne e
    · exact n1 hx
  · rcases List.mem_cons.1 hx with rfl | hx
    · exact n2
    · exact hd x hx
theorem LogAt.rebase {w : World} {base base' g : Nat} (h : LogAt w base g (.slice none 0 0) []) : LogAt w base' g (.slice none 0 0) [] := by
  obtain ⟨A, n, c, D, e, h1, h2, h3, h4⟩ := h
  injection e with e1 e2 e3
  subst e1 e2 e3
  have hD : D = [] := by
    have := bytesOf_len D
    rw [h4] at this
    exact List.eq_nil_of_length_eq_zero this.symm
  subst hD
  exact ⟨none, 0, 0, [], rfl, h1, Own.nil_, (fun _ hd => nomatch hd), rfl⟩

end Go.Proofs.YtgfemjpeegbhhaaDoor
/- What the laws of layer 21 share. -/

namespace Go.Hm
open Go Go.RowKit
theorem leafP_lt {k n : Int} {d : List Nat} (h : ∀ x ∈ d, x < 256) : ∀ p ∈ leafP k n d, ∀ x ∈ p, x < 256 := by
  intro p hp
  unfold leafP at hp
  simp only [List.mem_cons, List.not_mem_nil, or_false] at hp
  rcases hp with rfl | rfl | rfl
  · exact low_lt _ _
  · exact low_lt _ _
  · exact h

end Go.Hm

namespace Go.Proofs.YtgfemjpeegbhhaaDoor
open Go.RowKit Go.Hm
theorem node_good {a b : List Nat} (ha : DigN a) (hb : DigN b) : ∀ f, frameO nodeTag [a, b] = some f → (∀ x ∈ f, x < 256) ∧ f.length ≤ 1000000 := fun f hf =>
  ⟨frameO_lt (by decide) (by intro p hp; simp at hp; rcases hp with rfl | rfl; exact ha.2; exact hb.2) hf, frameO_len hf (by simp [tsum, ha.1, hb.1])⟩
theorem rootD_good {L : List (List Nat)} (h : Digs L) : GoodF (rootD L).2 := by
  intro f hf
  by_cases h0 : L.length = 0
  · obtain rfl := List.eq_nil_of_length_eq_zero h0
    rw [rootD_nil] at hf
    obtain rfl := List.mem_singleton.1 hf
    exact ⟨frameO_lt (by decide) (by simp) frame_none, frameO_len frame_none (by simp [tsum])⟩
  · obtain ⟨a, b, ha, hb, e⟩ := (rootD_nodes L h (by omega)).2 f hf
    exact node_good ha hb f e
theorem GoodF.app {F G : List (List Nat)} (h : GoodF F) (k : GoodF G) : GoodF (F ++ G) := fun p hp => (List.mem_append.1 hp).elim (h p) (k p)
/-- Digests as values: equal just if the digests are. -/
theorem eqDV {a b : List Nat} (ha : DigN a) (hb : DigN b) (W : World) : (binOp .eql 32 (dV a) (dV b)).run Tryd.prog W = .ok (.bool (decide (a = b))) W := by
  have h := run_eql_arr (P := Tryd.prog) (k := .u8) digarr (by kernel_rfl) (by kernel_rfl) (by kernel_rfl) (by kernel_rfl) (a.map fun n : Nat => (n : Int)) (b.map fun n : Nat => (n : Int)) (by simp [ha.1]) (by simp [hb.1]) W
  have e : ((a.map fun n : Nat => (n : Int)) == (b.map fun n : Nat => (n : Int))) = decide (a = b) := by
    rw [Bool.eq_iff_iff]
    simp only [beq_iff_eq, decide_eq_true_eq]
    constructor
    · intro h
      have := congrArg (List.map Int.toNat) h
      simpa [List.map_map, Function.comp_def] using this
    · rintro rfl; rfl
  rw [e] at h
  simpa [dV, nums, ints, List.map_map, Function.comp_def] using h
/-- The digest's cells in a value of its own. -/
theorem dV_agg {d : List Nat} (h : DigN d) : ∃ cs : Array Value, dV d = .agg cs ∧ (Tryd.prog.info? 32).map (·.size) = some cs.size ∧ (ints .u8 zero32).toArray.size = cs.size ∧ cs.all (·.oneCell') = true ∧ cs = (nums .u8 d).toArray := by
  refine ⟨(nums .u8 d).toArray, rfl, i32n h.1, by simp [ints, nums, zero32, h.1], one_n _, rfl⟩

section
variable {ops : Array Oper} {rest : List Oper} {o : Oper} {a : Act} {Q : Exit → Act → World → Prop}
/-- A digest is loaded, behind a guard that is met too. -/
theorem wpList_loadD (hw : Region.wanted o (yielded ops a.tmps) = true) {w : World} (x : Operand) (ho : o.op = .load 32 x) (g : Nat) (cs : Array Value) (hx : a.eval x = .pointer (some ⟨g, 0, none⟩)) (B : Blk w g 32 cs) (hi : (Tryd.prog.info? 32).map (·.size) = some cs.size)
    (h : wpList Tryd.prog ops Q rest (a.put o.dst (.agg cs)) w) : wpList Tryd.prog ops Q (o :: rest) a w :=
  wpList_step fun K hK => by
    simp only [hw, if_true]
    unfold Oper.wp execOp
    simp only [ho, hx, Instr.loadAt, Instr.sureAddr, Sem.run_bind, Sem.run_pure, Result.andThen_ok, run_loadVar_row w g 32 32 cs (0, 0) _ B digarr (by simp) hi]
    exact hK _ _ h
end
/-- One log is kept while another one, of whatever type, is turned. -/
theorem LogOf.beside {t u : TypeId} (ht : 22 ≠ t) (hu : 22 ≠ u) (hu8 : u ≠ 5) {w w' : World} {base base' g g' : Nat} {V V' : Value} {L L' : List (List Nat)} (h : LogOf t w base g V L) (h' : LogOf u w base' g' V' L') (hne : g ≠ g') (hd : ∀ x ∈ rowT V', V.ownBlock ≠ some x) (k : Turns (g' :: rowT V') w w') : LogOf t w' base g V L := by
  refine h.turn k (fun hx => ?_) (fun x hx => ?_) (h'.noB hu8)
  · rcases List.mem_cons.1 hx with e | hx
    · exact hne e
    · obtain ⟨A, n, c, D, rfl, h1, h2, _⟩ := h
      obtain ⟨A', n', c', D', rfl, h1', h2', _⟩ := h'
      exact rowT_ne h2' h1 ht hx
  · rcases List.mem_cons.1 hx with rfl | hx
    · obtain ⟨A, n, c, D, rfl, h1, h2, _⟩ := h
      obtain ⟨A', n', c', D', rfl, h1', h2', _⟩ := h'
      exact h2.blk_ne h1' hu
    · exact hd x hx
/-- Rows of two logs lie apart: still when one is turned. -/
theorem apart_step {w : World} {V V1 V' : Value} (h : ∀ x ∈ rowT V', V.ownBlock ≠ some x) (hl : ∀ x ∈ rowT V', x < w.heap.size) (a : V1.ownBlock = V.ownBlock ∨ ∃ h, V1.ownBlock = some h ∧ w.heap.size ≤ h) : ∀ x ∈ rowT V', V1.ownBlock ≠ some x := fun x hx e => by
  rcases a with a | ⟨h1, a1, a2⟩
  · exact h x hx (a ▸ e)
  · rw [a1] at e
    injection e with e
    have := hl x hx
    omega
theorem apart_symm {V V' : Value} (h : ∀ x ∈ rowT V', V.ownBlock ≠ some x) : ∀ x ∈ rowT V, V'.ownBlock ≠ some x := fun x hx e => by
  have hv : V.ownBlock = some x := by
    unfold rowT at hx
    cases hq : V.ownBlock with
    | none => rw [hq] at hx; simp at hx
    | some y => rw [hq] at hx; simp at hx; rw [hx]
  exact h x (rowT_mem e) hv
theorem take_dec {L M : List (List Nat)} {k : Nat} (h : k < L.length) (h2 : k < M.length) : decide (L.take (k + 1) = M.take (k + 1)) = (decide (L.take k = M.take k) && decide (L.getD k [] = M.getD k [])) := by
  rw [take_snoc L k [] h, take_snoc M k [] h2]
  by_cases e : L.take k = M.take k
  · rw [e]; simp
  · have : ¬ (L.take k ++ [L.getD k []] = M.take k ++ [M.getD k []]) := fun h => e (List.append_inj_left' h rfl)
    rw [decide_eq_false e, decide_eq_false this, Bool.false_and]
theorem Digs.at_ {L : List (List Nat)} (h : Digs L) {k : Nat} (hk : k < L.length) : DigN (L.getD k []) := h _ (mem_getD hk)
theorem i32L {d : List Nat} (h : d.length = 32) : (Tryd.prog.info? 32).map (·.size) = some (nums .u8 d).length := by simpa using i32n h
/-- A log of this call's own, made beyond w's memory, and digests that lie in blocks of their own. -/
def LogSt (w : World) (g : Nat) (W : World) (F : List (List Nat)) (K : List (Nat × Array Value)) : Prop :=
  ∃ V, LogOf tL W w.heap.size g V F ∧ New w W ∧ ∀ p ∈ K, Blk W p.1 32 p.2
theorem LogSt.new {w W W' : World} {g : Nat} {F : List (List Nat)} {K : List (Nat × Array Value)} (h : LogSt w g W F K) (n : New W W') : LogSt w g W' F K := by
  obtain ⟨V, l, b, k⟩ := h
  exact ⟨V, l.new n, New.trans b n, fun p hp => (k p hp).below n (k p hp).lt⟩
theorem LogSt.news {w W : World} {g : Nat} {F : List (List Nat)} {K : List (Nat × Array Value)} (h : LogSt w g W F K) : New w W := h.elim fun _ h => h.2.1
theorem LogSt.blk {w W : World} {g : Nat} {F : List (List Nat)} {K : List (Nat × Array Value)} (h : LogSt w g W F K) {b : Nat} {cs : Array Value} (hp : (b, cs) ∈ K) : Blk W b 32 cs := h.elim fun _ h => h.2.2 _ hp
/-- A digest in a new block. -/
theorem LogSt.add {w W : World} {g : Nat} {F : List (List Nat)} {K : List (Nat × Array Value)} (h : LogSt w g W F K) (cs : Array Value) : LogSt w g (W.alloc (.cells cs 32)) F ((W.heap.size, cs) :: K) := by
  obtain ⟨V, l, b, k⟩ := h.new (new_alloc2 W (.cells cs 32))
  refine ⟨V, l, b, fun p hp => ?_⟩
  rcases List.mem_cons.1 hp with rfl | hp
  · exact Blk.new _ _ _
  · exact k p hp
/-- What a call at such a log answers. -/
def StPost (v : Value) (w : World) (g : Nat) (F : List (List Nat)) (K : List (Nat × Array Value)) (W : World) (e : Ending) (W' : World) : Prop :=
  e = .returned v ∧ LogSt w g W' F K ∧ Below w.heap.size W W'
theorem st_of {w W : World} {g : Nat} {F F' : List (List Nat)} {K : List (Nat × Array Value)} {v V : Value} (hg : w.heap.size ≤ g) (l : LogOf tL W w.heap.size g V F) (b : New w W) (k : ∀ p ∈ K, Blk W p.1 32 p.2) {e : Ending} {W' : World} (h : PostOf tL v w.heap.size g V F' W e W') : StPost v w g F' K W e W' := by
  obtain ⟨rfl, V', l', _, t⟩ := h
  have own := l.own (B := w.heap.size) (Nat.le_refl _) hg
  exact ⟨rfl, ⟨V', l', Turns.below b t own (Nat.le_refl _), fun p hp => (k p hp).touch t (l.notT (k p hp) (by decide) (by decide))⟩, Turns.below (Below.refl _ W) t own b.size⟩
theorem root_st {w W : World} {g : Nat} {F : List (List Nat)} {K : List (Nat × Array Value)} (hg : w.heap.size ≤ g) (hC : ConstIn w) (h : LogSt w g W F K) {A : Option Addr} {c : Nat} {L : List (List Nat)} (hr : Reads w w.heap.size 32 A L.length (recs digC L)) (hd : Digs L) (hc : L.length ≤ c) (hcm : c ≤ 9223372036854775807) (hF : F.length + L.length ≤ 900000) :
    Calls Tryd.prog 19 #[.pointer (some ⟨g, 0, none⟩), .slice A L.length c] W (StPost (dV (rootD L).1) w g (F ++ (rootD L).2) K W) := by
  obtain ⟨V, l, b, k⟩ := h
  have own := l.own (B := w.heap.size) (Nat.le_refl _) hg
  exact (root_any (L.length + 1) (by omega) l b.size hF (leafIn_of hr hd b own) hc hcm (fun w' t => hC.new (Turns.below b t own (Nat.le_refl _)))).mono fun _ _ hp => st_of hg l b k hp
theorem node_st {w W : World} {g : Nat} {F : List (List Nat)} {K : List (Nat × Array Value)} (hg : w.heap.size ≤ g) (hC : ConstIn w) (h : LogSt w g W F K) {x y : List Nat} (hx : DigN x) (hy : DigN y) (hF : F.length ≤ 1000000) :
    Calls Tryd.prog 17 #[.pointer (some ⟨g, 0, none⟩), dV x, dV y] W (StPost (dV (hashN nodeTag [x, y])) w g (F ++ [frameL nodeTag [x, y]]) K W) := by
  obtain ⟨V, l, b, k⟩ := h
  have own := l.own (B := w.heap.size) (Nat.le_refl _) hg
  exact (node_any l b.size hF hx hy (fun w' t => hC.new (Turns.below b t own (Nat.le_refl _)))).mono fun _ _ hp => st_of hg l b k hp

end Go.Proofs.YtgfemjpeegbhhaaDoor
/- The contract of proof.walk.over, for whatever three functions it is given. -/

namespace Go.Hm
open Go Go.RowKit
/-- Blocks of a type lie as they lay. -/
def KeepT (t : TypeId) (w w' : World) : Prop := w.heap.size ≤ w'.heap.size ∧ ∀ b cs, Blk w b t cs → Blk w' b t cs
theorem KeepT.refl (t : TypeId) (w : World) : KeepT t w w := ⟨Nat.le_refl _, fun _ _ h => h⟩
theorem KeepT.trans {t : TypeId} {w w1 w2 : World} (h : KeepT t w w1) (k : KeepT t w1 w2) : KeepT t w w2 := ⟨Nat.le_trans h.1 k.1, fun b cs hb => k.2 b cs (h.2 b cs hb)⟩
theorem KeepT.new {t : TypeId} {w w' : World} (h : New w w') : KeepT t w w' := ⟨h.size, fun _ _ hb => hb.below h hb.lt⟩

end Go.Hm

namespace Go.Proofs.YtgfemjpeegbhhaaDoor
open Go.RowKit Go.Hm
abbrev tW : TypeId := 79
def OvPost (R : List Ev → World → Prop) (es : List Ev) (w : World) (e : Ending) (w' : World) : Prop := e = .returned (.tuple #[]) ∧ R es w' ∧ KeepT tW w w'
theorem OvPost.after {R : List Ev → World → Prop} {es : List Ev} {w w1 : World} (k : KeepT tW w w1) {e : Ending} {w' : World} (h : OvPost R es w1 e w') : OvPost R es w e w' := ⟨h.1, h.2.1, k.trans h.2.2⟩
set_option maxHeartbeats 4000000 in
set_option maxRecDepth 100000 in
theorem over_any {f t kA kB kC : Nat} {eA eB eC : Array Value} {total : List Ev} {R : List Ev → World → Prop}
    (hk : ∀ k, k = kA ∨ k = kB ∨ k = kC → ∀ args w, (callFunc k args).run Tryd.prog w = .ok (.enter k args) w)
    (hR : ∀ es w w', R es w → New w w' → R es w')
    (hA : ∀ es lo hi w, (es ++ [.among lo hi]) <+: total → R es w → Calls Tryd.prog kA (#[.int .i64 (lo : Int), .int .i64 (hi : Int)] ++ eA) w (OvPost R (es ++ [.among lo hi]) w))
    (hB : ∀ es lo hi w, (es ++ [.beside lo hi]) <+: total → R es w → Calls Tryd.prog kB (#[.int .i64 (lo : Int), .int .i64 (hi : Int)] ++ eB) w (OvPost R (es ++ [.beside lo hi]) w))
    (hC : ∀ es w, (es ++ [.node]) <+: total → R es w → Calls Tryd.prog kC eC w (OvPost R (es ++ [.node]) w)) :
    ∀ (m lo hi : Nat) (es : List Ev) (w : World), hi - lo < m → lo ≤ hi → hi ≤ 1000000 → (es ++ evs f t lo hi) <+: total → R es w →
      Calls Tryd.prog 50 #[.agg #[.int .i64 (f : Int), .int .i64 (t : Int), .func (.func kA) #[] eA, .func (.func kB) #[] eB, .func (.func kC) #[] eC], .int .i64 (lo : Int), .int .i64 (hi : Int)] w (OvPost R (es ++ evs f t lo hi) w) := by
  intro m
  induction m with
  | zero => intro lo hi es w h; omega
  | succ m ih =>
    intro lo hi es w hm hl hh hp hr
    obtain ⟨W, hW⟩ : ∃ W, W = w.alloc (.cells #[.int .i64 (f : Int), .int .i64 (t : Int), .func (.func kA) #[] eA, .func (.func kB) #[] eB, .func (.func kC) #[] eC] tW) := ⟨_, rfl⟩
    have n1 : New w W := by rw [hW]; exact new_alloc2 _ _
    have g1 : Blk W w.heap.size tW #[.int .i64 (f : Int), .int .i64 (t : Int), .func (.func kA) #[] eA, .func (.func kB) #[] eB, .func (.func kC) #[] eC] := by rw [hW]; exact Blk.new _ _ _
    have R1 := Lib.hid (hR es w W hr n1)
    have N1 := Lib.hid n1
    have hW' := hW
    have HW := Lib.hid hW
    have HH := Lib.hid (And.intro hA (And.intro hB hC))
    have IH := Lib.hid ih
    have HP := Lib.hid hp
    have EV := Lib.hid (@evs_among f t lo hi)
    have EB := Lib.hid (@evs_beside f t lo hi)
    have EN := Lib.hid (@evs_node f t lo hi)
    have c0 : W.cell? ⟨w.heap.size, 0, none⟩ = some (.int .i64 (f : Int)) := g1.cell 0
    have c1 : W.cell? ⟨w.heap.size, 1, none⟩ = some (.int .i64 (t : Int)) := g1.cell 1
    have c2 : W.cell? ⟨w.heap.size, 2, none⟩ = some (.func (.func kA) #[] eA) := g1.cell 2
    have c3 : W.cell? ⟨w.heap.size, 3, none⟩ = some (.func (.func kB) #[] eB) := g1.cell 3
    rw [hW] at c0 c1 c2 c3
    have G1 := Lib.hid g1
    clear hr hA hB hC ih g1 hp hW n1
    have kA1 := hk kA (by simp)
    have kB1 := hk kB (by simp)
    have kC1 := hk kC (by simp)
    clear hk
    go_enter Tryd.func50, Tryd.ntmps50
    have AM : (lo = hi ∨ (f ≤ lo ∧ hi ≤ t)) → Hid (Calls Tryd.prog kA (#[.int .i64 (lo : Int), .int .i64 (hi : Int)] ++ eA) (w.alloc (.cells #[.int .i64 (f : Int), .int .i64 (t : Int), .func (.func kA) #[] eA, .func (.func kB) #[] eB, .func (.func kC) #[] eC] tW)) (OvPost R (es ++ evs f t lo hi) w)) := fun h => Lib.hid (by
      rw [← HW.out, EV.out h]
      refine (HH.out.1 es lo hi W (by rw [← EV.out h]; exact HP.out) R1.out).mono fun _ _ p => p.after (KeepT.new N1.out))
    by_cases a0 : lo = hi
    · subst a0
      have AM2 := AM (.inl rfl)
      clear AM
      clear EV EB EN IH HH HP
      go_wp2_with fail
      refine AM2.out.mono ?_
      rintro e w' hpost
      obtain rfl := hpost.1
      have HPO := Lib.hid hpost
      clear hpost AM2
      go_wp2_with fail
      go_end0
      exact HPO.out
    have q0 : ((lo : Int) == (hi : Int)) = false := by simp; omega
    by_cases aa : f ≤ lo ∧ hi ≤ t
    · have q1 : decide (f ≤ lo) = true := by simp; omega
      have q2 : decide (hi ≤ t) = true := by simp; omega
      have AM2 := AM (.inr aa)
      clear AM
      clear EV EB EN IH HH HP
      go_wp2_with fail
      refine AM2.out.mono ?_
      rintro e w' hpost
      obtain rfl := hpost.1
      have HPO := Lib.hid hpost
      clear hpost AM2
      go_wp2_with fail
      go_end0
      exact HPO.out
    clear AM EV
    have na : ¬ (lo = hi ∨ (f ≤ lo ∧ hi ≤ t)) := by omega
    have NA := Lib.hid na
    by_cases bb : min hi t ≤ max lo f
    · have BE : Hid (Calls Tryd.prog kB (#[.int .i64 (lo : Int), .int .i64 (hi : Int)] ++ eB) (w.alloc (.cells #[.int .i64 (f : Int), .int .i64 (t : Int), .func (.func kA) #[] eA, .func (.func kB) #[] eB, .func (.func kC) #[] eC] tW)) (OvPost R (es ++ evs f t lo hi) w)) := Lib.hid (by
        rw [← HW.out, EB.out na bb]
        refine (HH.out.2.1 es lo hi W (by rw [← EB.out na bb]; exact HP.out) R1.out).mono fun _ _ p => p.after (KeepT.new N1.out))
      clear EB EN IH HH HP
      have q4 : decide (min (hi : Int) (t : Int) ≤ max (lo : Int) (f : Int)) = true := by simp; omega
      have q5 : decide (f ≤ lo) = true ∨ decide (f ≤ lo) = false := by cases decide (f ≤ lo) <;> simp
      rcases q5 with q5 | q5
      · have q6 : decide (hi ≤ t) = false := by simp at q5 ⊢; omega
        clear na aa
        go_wp2_with fail
        refine BE.out.mono ?_
        rintro e w' hpost
        obtain rfl := hpost.1
        have HPO := Lib.hid hpost
        clear hpost BE
        go_wp2_with fail
        go_end0
        exact HPO.out
      · clear na aa
        go_wp2_with fail
        refine BE.out.mono ?_
        rintro e w' hpost
        obtain rfl := hpost.1
        have HPO := Lib.hid hpost
        clear hpost BE
        go_wp2_with fail
        go_end0
        exact HPO.out
    have q4 : decide (min (hi : Int) (t : Int) ≤ max (lo : Int) (f : Int)) = false := by simp; omega
    have hn : 2 ≤ hi - lo := by omega
    have hs := splitN_lt hn
    have SP := Lib.hid (split_any ((hi : Int) - (lo : Int)) W (by omega) (by omega))
    rw [show ((hi : Int) - (lo : Int)).toNat = hi - lo by omega, hW'] at SP
    have EN := EN.out hl na bb
    obtain ⟨k, hk⟩ : ∃ k, k = splitN (hi - lo) := ⟨_, rfl⟩
    rw [← hk] at hs SP EN
    have EN := Lib.hid EN
    have q5 : decide (f ≤ lo) = true ∨ decide (f ≤ lo) = false := by cases decide (f ≤ lo) <;> simp
    have q6 : decide (f ≤ lo) = true → decide (hi ≤ t) = false := by simp; omega
    have W4 : ∀ w', KeepT tW W w' → Hid (Blk w' w.heap.size tW #[.int .i64 (f : Int), .int .i64 (t : Int), .func (.func kA) #[] eA, .func (.func kB) #[] eB, .func (.func kC) #[] eC]) := fun w' h => Lib.hid (h.2 _ _ G1.out)
    have I1 := Lib.hid (fun w' => IH.out lo (lo + k) es w' (by omega) (by omega) (by omega) (by
      refine List.IsPrefix.trans ?_ HP.out
      rw [EN.out]
      exact (List.prefix_append_right_inj _).2 (List.prefix_append _ _)))
    have I2 := Lib.hid (fun w' => IH.out (lo + k) hi (es ++ evs f t lo (lo + k)) w' (by omega) (by omega) (by omega) (by
      refine List.IsPrefix.trans ?_ HP.out
      rw [EN.out, List.append_assoc]
      exact (List.prefix_append_right_inj _).2 ((List.prefix_append_right_inj _).2 (List.prefix_append _ _))))
    have I3 := Lib.hid (fun w' => HH.out.2.2 (es ++ evs f t lo (lo + k) ++ evs f t (lo + k) hi) w' (by
      rw [List.append_assoc, List.append_assoc, ← EN.out]
      exact HP.out))
    have hcast : ((lo + k : Nat) : Int) = (lo : Int) + (k : Int) := by omega
    rw [hcast] at I1 I2
    have ER := Lib.hid (show es ++ evs f t lo hi = es ++ evs f t lo (lo + k) ++ evs f t (lo + k) hi ++ [.node] by rw [EN.out]; simp only [List.append_assoc])
    clear EB EN IH HH HP na aa bb hk hcast
    rcases q5 with q5 | q5
    · have q6 := q6 q5
      go_wp2_with fail
      refine SP.out.mono ?_
      rintro e w1 ⟨rfl, rfl⟩
      go_wp2_with fail
      have J1 := I1.out W R1.out
      rw [HW.out] at J1
      refine J1.mono ?_
      clear J1
      rintro e w1 hpost
      obtain rfl := hpost.1
      have R2 := Lib.hid hpost.2.1
      have k1 : KeepT tW W w1 := by rw [HW.out]; exact hpost.2.2
      have K1 := Lib.hid k1
      have g2 := (W4 w1 k1).out
      have d0 : w1.cell? ⟨w.heap.size, 0, none⟩ = some (.int .i64 (f : Int)) := g2.cell 0
      have d1 : w1.cell? ⟨w.heap.size, 1, none⟩ = some (.int .i64 (t : Int)) := g2.cell 1
      have d2 : w1.cell? ⟨w.heap.size, 2, none⟩ = some (.func (.func kA) #[] eA) := g2.cell 2
      have d3 : w1.cell? ⟨w.heap.size, 3, none⟩ = some (.func (.func kB) #[] eB) := g2.cell 3
      have d4 : w1.cell? ⟨w.heap.size, 4, none⟩ = some (.func (.func kC) #[] eC) := g2.cell 4
      clear hpost k1 g2
      go_wp2_with fail
      refine (I2.out w1 R2.out).mono ?_
      rintro e w2 hpost
      obtain rfl := hpost.1
      have R3 := Lib.hid hpost.2.1
      have k2 : KeepT tW W w2 := K1.out.trans hpost.2.2
      have K2 := Lib.hid k2
      have g2 := (W4 w2 k2).out
      have f4 : w2.cell? ⟨w.heap.size, 4, none⟩ = some (.func (.func kC) #[] eC) := g2.cell 4
      clear hpost k2 g2 d0 d1 d2 d3 d4
      go_wp2_with fail
      refine (I3.out w2 R3.out).mono ?_
      rintro e w3 hpost
      obtain rfl := hpost.1
      have HPO := Lib.hid (show OvPost R (es ++ evs f t lo hi) w _ w3 by rw [ER.out]; exact hpost.after ((KeepT.new N1.out).trans K2.out))
      clear hpost
      go_wp2_with fail
      go_end0
      exact HPO.out
    · clear q6
      go_wp2_with fail
      refine SP.out.mono ?_
      rintro e w1 ⟨rfl, rfl⟩
      go_wp2_with fail
      have J1 := I1.out W R1.out
      rw [HW.out] at J1
      refine J1.mono ?_
      clear J1
      rintro e w1 hpost
      obtain rfl := hpost.1
      have R2 := Lib.hid hpost.2.1
      have k1 : KeepT tW W w1 := by rw [HW.out]; exact hpost.2.2
      have K1 := Lib.hid k1
      have g2 := (W4 w1 k1).out
      have d0 : w1.cell? ⟨w.heap.size, 0, none⟩ = some (.int .i64 (f : Int)) := g2.cell 0
      have d1 : w1.cell? ⟨w.heap.size, 1, none⟩ = some (.int .i64 (t : Int)) := g2.cell 1
      have d2 : w1.cell? ⟨w.heap.size, 2, none⟩ = some (.func (.func kA) #[] eA) := g2.cell 2
      have d3 : w1.cell? ⟨w.heap.size, 3, none⟩ = some (.func (.func kB) #[] eB) := g2.cell 3
      have d4 : w1.cell? ⟨w.heap.size, 4, none⟩ = some (.func (.func kC) #[] eC) := g2.cell 4
      clear hpost k1 g2
      go_wp2_with fail
      refine (I2.out w1 R2.out).mono ?_
      rintro e w2 hpost
      obtain rfl := hpost.1
      have R3 := Lib.hid hpost.2.1
      have k2 : KeepT tW W w2 := K1.out.trans hpost.2.2
      have K2 := Lib.hid k2
      have g2 := (W4 w2 k2).out
      have f4 : w2.cell? ⟨w.heap.size, 4, none⟩ = some (.func (.func kC) #[] eC) := g2.cell 4
      clear hpost k2 g2 d0 d1 d2 d3 d4
      go_wp2_with fail
      refine (I3.out w2 R3.out).mono ?_
      rintro e w3 hpost
      obtain rfl := hpost.1
      have HPO := Lib.hid (show OvPost R (es ++ evs f t lo hi) w _ w3 by rw [ER.out]; exact hpost.after ((KeepT.new N1.out).trans K2.out))
      clear hpost
      go_wp2_with fail
      go_end0
      exact HPO.out

end Go.Proofs.YtgfemjpeegbhhaaDoor
/- The contract of proof.Need, and of the document's own. -/

namespace Go.Hm
open Go Go.RowKit
/-- How many parts are beside; -1 where that may not be. -/
def needI (n f t : Int) : Int := if 65536 < n ∨ f < 0 ∨ t < f ∨ n < t then -1 else (cnt (evs f.toNat t.toNat 0 n.toNat) : Nat)
theorem KeepT.set_ {t t' : TypeId} {w : World} {b : Nat} {cs : Array Value} (h : Blk w b t' cs) (hne : t' ≠ t) (i : Nat) (u : Value) : KeepT t w (w.setCell ⟨b, i, none⟩ u) :=
  ⟨by simp, fun b' cs' h' => h'.far (p := ⟨b, i, none⟩) (fun e => Blk.ne_ h h' hne e.symm) u⟩
theorem prefix_last {a b : List Ev} {x : Ev} (h : (a ++ [x]) <+: b) : cnt (a ++ [x]) ≤ cnt b := cnt_pre h

end Go.Hm

namespace Go.Proofs.YtgfemjpeegbhhaaDoor
open Go.RowKit Go.Hm
def UnitPost (w : World) (e : Ending) (w' : World) : Prop := e = .returned (.tuple #[]) ∧ w' = w
theorem nowhere_any (lo hi : Int) (w : World) : Calls Tryd.prog 47 #[.int .i64 lo, .int .i64 hi] w (UnitPost w) := by
  go_enter Tryd.func47, Tryd.ntmps47
  go_wp2
  go_end0
  exact ⟨rfl, rfl⟩
theorem nothing_any (w : World) : Calls Tryd.prog 48 #[] w (UnitPost w) := by
  go_enter Tryd.func48, Tryd.ntmps48
  go_wp2
  go_end0
  exact ⟨rfl, rfl⟩
def AddPost (c : Nat) (w : World) (b : Nat) (e : Ending) (w' : World) : Prop := e = .returned (.tuple #[]) ∧ w' = w.setCell ⟨b, 0, none⟩ (.int .i64 ((c + 1 : Nat) : Int))
theorem need1_any (lo hi : Int) {w : World} {b c : Nat} (h : Blk w b 3 #[.int .i64 (c : Int)]) (hc : c ≤ 1000000) : Calls Tryd.prog 49 #[.int .i64 lo, .int .i64 hi, .pointer (some ⟨b, 0, none⟩)] w (AddPost c w b) := by
  have c0 : w.cell? ⟨b, 0, none⟩ = some (.int .i64 (c : Int)) := h.cell 0
  have f0 : w.frozen? ⟨b, 0, none⟩ = false := h.frozen 0
  clear h
  go_enter Tryd.func49, Tryd.ntmps49
  go_wp2
  go_end0
  exact ⟨rfl, by simp⟩
def CntR (w : World) (b : Nat) (es : List Ev) (W : World) : Prop := Blk W b 3 #[.int .i64 (cnt es : Int)] ∧ Below w.heap.size w W
set_option maxHeartbeats 4000000 in
set_option maxRecDepth 100000 in
theorem need_any (n f t : Int) (w : World) (n0 : -9223372036854775808 ≤ n) (n1 : n ≤ 9223372036854775807) : Calls Tryd.prog 31 #[.int .i64 n, .int .i64 f, .int .i64 t] w (NewPost (.int .i64 (needI n f t)) w) := by
  have hv : ∀ x, needI n f t = x → Hid (needI n f t = x) := fun x h => Lib.hid h
  by_cases a1 : 65536 < n
  · have HV := hv (-1) (if_pos (.inl a1))
    have q1 : decide (65536 < n) = true := decide_eq_true a1
    clear hv
    go_enter Tryd.func31, Tryd.ntmps31
    go_wp2
    go_ret
    exact ⟨by rw [HV.out]; simp, Below.refl _ _⟩
  by_cases a2 : f < 0
  · have HV := hv (-1) (if_pos (.inr (.inl a2)))
    have q1 : decide (65536 < n) = false := decide_eq_false a1
    have q2 : decide (f < 0) = true := decide_eq_true a2
    clear hv
    go_enter Tryd.func31, Tryd.ntmps31
    go_wp2
    go_ret
    exact ⟨by rw [HV.out]; simp, Below.refl _ _⟩
  by_cases a3 : t < f
  · have HV := hv (-1) (if_pos (.inr (.inr (.inl a3))))
    have q1 : decide (65536 < n) = false := decide_eq_false a1
    have q2 : decide (f < 0) = false := decide_eq_false a2
    have q3 : decide (t < f) = true := decide_eq_true a3
    clear hv
    go_enter Tryd.func31, Tryd.ntmps31
    go_wp2
    go_ret
    exact ⟨by rw [HV.out]; simp, Below.refl _ _⟩
  by_cases a4 : n < t
  · have HV := hv (-1) (if_pos (.inr (.inr (.inr a4))))
    have q1 : decide (65536 < n) = false := decide_eq_false a1
    have q2 : decide (f < 0) = false := decide_eq_false a2
    have q3 : decide (t < f) = false := decide_eq_false a3
    have q4 : decide (n < t) = true := decide_eq_true a4
    clear hv
    go_enter Tryd.func31, Tryd.ntmps31
    go_wp2
    go_ret
    exact ⟨by rw [HV.out]; simp, Below.refl _ _⟩
  have HV := hv _ (if_neg (by omega))
  clear hv
  obtain ⟨n, rfl⟩ : ∃ m : Nat, n = (m : Int) := ⟨n.toNat, by omega⟩
  obtain ⟨f, rfl⟩ : ∃ m : Nat, f = (m : Int) := ⟨f.toNat, by omega⟩
  obtain ⟨t, rfl⟩ : ∃ m : Nat, t = (m : Int) := ⟨t.toNat, by omega⟩
  rw [Int.toNat_natCast, Int.toNat_natCast, Int.toNat_natCast] at HV
  have q1 : decide ((65536 : Int) < (n : Int)) = false := decide_eq_false a1
  have q2 : decide ((f : Int) < 0) = false := decide_eq_false a2
  have q3 : decide (t < f) = false := by simp; omega
  have q4 : decide (n < t) = false := by simp; omega
  have OV := Lib.hid (fun (W : World) (hW : CntR w w.heap.size [] W) => over_any (f := f) (t := t) (kA := 47) (kB := 49) (kC := 48) (eA := #[]) (eB := #[.pointer (some ⟨w.heap.size, 0, none⟩)]) (eC := #[]) (total := evs f t 0 n) (R := CntR w w.heap.size)
    (by rintro k (rfl | rfl | rfl) args w <;> go_simp)
    (fun es w1 w2 h k => ⟨h.1.below k h.1.lt, h.2.trans (k.mono h.2.size)⟩)
    (fun es lo hi w1 hp h => (nowhere_any lo hi w1).mono (by
      rintro e w' ⟨rfl, rfl⟩
      exact ⟨rfl, by unfold CntR; rw [cnt_app]; exact h, KeepT.refl _ _⟩))
    (fun es lo hi w1 hp h => (need1_any lo hi h.1 (by have := prefix_last hp; have := cnt_le 0 n (Nat.zero_le n) (f := f) (t := t); rw [cnt_app] at *; omega)).mono (by
      rintro e w' ⟨rfl, rfl⟩
      refine ⟨rfl, ⟨?_, h.2.setCell (p := ⟨w.heap.size, 0, none⟩) (Nat.le_refl _) _⟩, KeepT.set_ h.1 (by decide) _ _⟩
      rw [cnt_app]
      exact h.1.set_ 0 _))
    (fun es w1 hp h => (nothing_any w1).mono (by
      rintro e w' ⟨rfl, rfl⟩
      exact ⟨rfl, by unfold CntR; rw [cnt_app]; exact h, KeepT.refl _ _⟩))
    (n + 1) 0 n [] W (by omega) (by omega) (by omega) (List.prefix_refl _) hW)
  clear a1 a2 a3 a4
  have hmf : ∀ (fn : Fn) (first cap : Array Value) (w : World), (Instr.makeFunc fn first cap).run Tryd.prog w = .ok (.func fn first cap) w := fun _ _ _ _ => rfl
  go_enter Tryd.func31, Tryd.ntmps31
  go_wp2_with fail
  have C0 : CntR w w.heap.size [] ((w.alloc (.cells #[.int .i64 0] 3)).alloc (.cells #[.int .i64 (f : Int), .int .i64 (t : Int), .func (.func 47) #[] #[], .func (.func 49) #[] #[.pointer (some ⟨w.heap.size, 0, none⟩)], .func (.func 48) #[] #[]] tW)) :=
    ⟨(Blk.new w _ _).alloc _, New.trans (new_alloc2 _ _) (new_alloc2 _ _)⟩
  refine (OV.out _ C0).mono ?_
  rintro e w1 ⟨rfl, r, -⟩
  rw [List.nil_append] at r
  have c1 : w1.cell? ⟨w.heap.size, 0, none⟩ = some (.int .i64 (cnt (evs f t 0 n) : Int)) := r.1.cell 0
  have B1 := Lib.hid r.2
  clear r C0 OV
  go_wp2
  go_ret
  exact ⟨by rw [HV.out]; simp, B1.out⟩

end Go.Proofs.YtgfemjpeegbhhaaDoor
/- A row of digests in a box of its own, beside a log: what calls at the log and appends to the row leave. -/

namespace Go.Hm
open Go Go.RowKit
theorem turns_far {T T' : List Nat} {w W W2 : World} (h : Turns T w W) (k : Turns T' W W2) (hT : ∀ x ∈ T', w.heap.size ≤ x) : Turns T w W2 :=
  ⟨k.os.trans h.os, k.tape.trans h.tape, k.output.trans h.output, Nat.le_trans h.size k.size, fun j hj hn => (k.block j (Nat.lt_of_lt_of_le hj h.size) (fun hm => by have := hT _ hm; omega)).trans (h.block j hj hn)⟩
theorem wrapI_is (n : Int) (h : -9223372036854775808 ≤ n ∧ n ≤ 9223372036854775807) : IntKind.i64.wrap n = n := by
  rw [IntKind.wrap_i64]
  omega
theorem row_take {w : World} {base sz n c k : Nat} {e : TypeId} {a : Addr} {xs : List Value} (h : w.ownsRow base e sz (.slice (some a) n c) n xs) (hk : k ≤ n) : w.ownsRow base e sz (.slice (some a) k c) k (xs.take (k * sz)) := by
  rcases h.2 with ⟨hn, _⟩ | ⟨g, cap, cur, hv, hbg, hgg, h1, h2, h3, h4⟩
  · cases hn
  · injection hv with e1 e2 e3
    injection e1 with e1
    subst e1
    subst e3
    refine ⟨?_, .inr ⟨g, c, cur, rfl, hbg, hgg, by omega, h2, h3, ?_⟩⟩
    · rw [List.length_take, h.1, Nat.min_eq_left (Nat.mul_le_mul_right sz hk)]
    · rw [← h4, List.take_take, Nat.min_eq_left (Nat.mul_le_mul_right sz hk)]
theorem digC_one (l : List (List Nat)) : ∀ u ∈ recs digC l, u.oneCell' = true := by
  intro u hu
  obtain ⟨x, _, hx⟩ := List.mem_flatMap.1 hu
  simp only [digC, List.mem_map, List.mem_range] at hx
  obtain ⟨i, _, rfl⟩ := hx
  rfl

end Go.Hm

namespace Go.Proofs.YtgfemjpeegbhhaaDoor
open Go.RowKit Go.Hm
abbrev tS : TypeId := 23
abbrev tD : TypeId := 32
theorem elD : ElT Tryd.prog tS tD (.agg (Array.replicate 32 (.int .u8 0))) 32 32 := ⟨by kernel_rfl, by kernel_rfl, rfl, by omega⟩
/-- Blocks lie as they lay, but those of logs, those of digests from B on, and one. -/
def KeepX (B bo : Nat) (W W' : World) : Prop := W.heap.size ≤ W'.heap.size ∧ ∀ t b cs, t ≠ tL → t ≠ 22 → (t ≠ tD ∨ b < B) → b ≠ bo → Blk W b t cs → Blk W' b t cs
theorem KeepX.refl (B bo : Nat) (W : World) : KeepX B bo W W := ⟨Nat.le_refl _, fun _ _ _ _ _ _ _ h => h⟩
theorem KeepX.trans {B bo : Nat} {a b c : World} (h : KeepX B bo a b) (k : KeepX B bo b c) : KeepX B bo a c := ⟨Nat.le_trans h.1 k.1, fun t x cs h1 h2 h3 h4 hb => k.2 t x cs h1 h2 h3 h4 (h.2 t x cs h1 h2 h3 h4 hb)⟩
theorem KeepX.new {B bo : Nat} {W W' : World} (h : New W W') : KeepX B bo W W' := ⟨h.size, fun _ _ _ _ _ _ _ hb => hb.below h hb.lt⟩
/-- Blocks lie as they lay, but those of logs, and those of digests from B on. -/
def KeepL (B : Nat) (W W' : World) : Prop := W.heap.size ≤ W'.heap.size ∧ ∀ t b cs, t ≠ tL → t ≠ 22 → (t ≠ tD ∨ b < B) → Blk W b t cs → Blk W' b t cs
theorem KeepL.refl {B : Nat} (W : World) : KeepL B W W := ⟨Nat.le_refl _, fun _ _ _ _ _ _ h => h⟩
theorem KeepL.trans {B : Nat} {a b c : World} (h : KeepL B a b) (k : KeepL B b c) : KeepL B a c := ⟨Nat.le_trans h.1 k.1, fun t x cs h1 h2 h3 hb => k.2 t x cs h1 h2 h3 (h.2 t x cs h1 h2 h3 hb)⟩
theorem KeepL.new {B : Nat} {W W' : World} (h : New W W') : KeepL B W W' := ⟨h.size, fun _ _ _ _ _ _ hb => hb.below h hb.lt⟩
theorem KeepL.x {B bo : Nat} {W W' : World} (h : KeepL B W W') : KeepX B bo W W' := ⟨h.1, fun t b cs h1 h2 h3 _ => h.2 t b cs h1 h2 h3⟩
theorem KeepL.row {B n : Nat} {v : Value} {xs : List Value} {W W' : World} (o : W.ownsRow B tD 32 v n xs) (gr : W.grownBy W' v.ownBlock) : KeepL B W W' :=
  ⟨gr.size, fun _ b _ _ _ h3 hb => hb.touch (Turns.row gr) (by
    rcases h3 with h3 | h3
    · exact rowT_ne o hb (Ne.symm h3)
    · exact fun hm => by have := (rowT_ge o b hm).1; omega)⟩
/-- Blocks lie as they lay, but those of logs. -/
def KeepC (W W' : World) : Prop := W.heap.size ≤ W'.heap.size ∧ ∀ t b cs, t ≠ tL → t ≠ 22 → Blk W b t cs → Blk W' b t cs
theorem KeepC.refl (W : World) : KeepC W W := ⟨Nat.le_refl _, fun _ _ _ _ _ h => h⟩
theorem KeepC.trans {a b c : World} (h : KeepC a b) (k : KeepC b c) : KeepC a c := ⟨Nat.le_trans h.1 k.1, fun t x cs h1 h2 hb => k.2 t x cs h1 h2 (h.2 t x cs h1 h2 hb)⟩
theorem KeepC.new {W W' : World} (h : New W W') : KeepC W W' := ⟨h.size, fun _ _ _ _ _ hb => hb.below h hb.lt⟩
theorem KeepC.l {B : Nat} {W W' : World} (h : KeepC W W') : KeepL B W W' := ⟨h.1, fun t b cs h1 h2 _ => h.2 t b cs h1 h2⟩
theorem KeepC.log {base g : Nat} {V : Value} {F : List (List Nat)} {W W' : World} (l : LogOf tL W base g V F) (t : Turns (g :: rowT V) W W') : KeepC W W' :=
  ⟨t.size, fun _ _ _ h1 h2 hb => hb.touch t (l.notT hb (Ne.symm h1) (Ne.symm h2))⟩
theorem KeepC.row {base n : Nat} {v : Value} {xs : List Value} {W W' : World} (o : W.ownsRow base tD 32 v n xs) (k : KeepC W W') : W'.ownsRow base tD 32 v n xs := by
  refine ⟨o.1, ?_⟩
  rcases o.2 with hn | ⟨g, cap, cur, rfl, hbg, hgg, rest⟩
  · exact .inl hn
  · exact .inr ⟨g, cap, cur, rfl, hbg, k.2 tD g cur (by decide) (by decide) hgg, rest⟩
/-- The log keeps F, the box bo holds a row of digests P of the call's own. -/
def DrSt (w : World) (B base g : Nat) (V0 : Value) (bo : Nat) (F P : List (List Nat)) (W : World) : Prop :=
  ∃ V v, LogOf tL W base g V F ∧ (V.ownBlock = V0.ownBlock ∨ ∃ h, V.ownBlock = some h ∧ w.heap.size ≤ h) ∧ Turns (g :: rowT V0) w W ∧ (w.heap.size ≤ B ∧ B ≤ bo) ∧ Blk W bo tS #[v] ∧ W.ownsRow B tD 32 v P.length (recs digC P)

section
variable {w W : World} {B base g bo : Nat} {V0 : Value} {F P : List (List Nat)}
theorem DrSt.new (h : DrSt w B base g V0 bo F P W) {W' : World} (k : New W W') : DrSt w B base g V0 bo F P W' := by
  obtain ⟨V, v, l, a, t, hb, Bb, o⟩ := h
  exact ⟨V, v, l.new k, a, t.trans (Turns.of_new k), hb, Bb.below k Bb.lt, row_later o k⟩
theorem DrSt.turns (h : DrSt w B base g V0 bo F P W) : Turns (g :: rowT V0) w W := by
  obtain ⟨V, v, l, a, t, hb, Bb, o⟩ := h
  exact t
def DrPost (x : Value) (w : World) (B base g : Nat) (V0 : Value) (bo : Nat) (F P : List (List Nat)) (W : World) (e : Ending) (W' : World) : Prop := e = .returned x ∧ DrSt w B base g V0 bo F P W' ∧ KeepX B bo W W'
def DrCall (x : Value) (w : World) (B base g : Nat) (V0 : Value) (bo : Nat) (F P : List (List Nat)) (W : World) (e : Ending) (W' : World) : Prop := e = .returned x ∧ DrSt w B base g V0 bo F P W' ∧ KeepC W W'
theorem DrSt.call (h : DrSt w B base g V0 bo F P W) {x : Value} {F2 : List (List Nat)} {e : Ending} {W' : World} {V : Value} (hv : ∀ V1, LogOf tL W base g V1 F → V1 = V) (p : PostOf tL x base g V F2 W e W') : DrCall x w B base g V0 bo F2 P W e W' := by
  obtain ⟨V1, v, l1, a, t, hb, Bb, o⟩ := h
  obtain rfl := hv V1 l1
  obtain ⟨rfl, V', l', a', t'⟩ := p
  refine ⟨rfl, ⟨V', v, l', alt_seq t.size a a', turns_seq t a t', hb, Bb.touch t' (l1.notT Bb (by decide) (by decide)), row_touch o t' (fun x hx => ?_)⟩, KeepC.log l1 t'⟩
  obtain ⟨A, n, c, D, rfl, hg, ho, _⟩ := l1
  rcases List.mem_cons.1 hx with rfl | hx
  · exact row_blk_ne o hg (by decide)
  · exact row_row o ho (by decide) x hx
theorem log_val {V V1 : Value} (l : LogOf tL W base g V F) {F1 : List (List Nat)} (l1 : LogOf tL W base g V1 F1) : V1 = V := by
  obtain ⟨A, n, c, D, rfl, hg, _⟩ := l
  obtain ⟨A1, n1, c1, D1, rfl, hg1, _⟩ := l1
  have := hg.symm.trans hg1
  simp at this
  obtain ⟨rfl, rfl, rfl⟩ := this
  rfl
theorem root_dr (h : DrSt w B base g V0 bo F P W) (hbs : base ≤ w.heap.size) {L : List (List Nat)} (hF : F.length + L.length ≤ 900000) {A : Option Addr} {c : Nat} (hlv : LeafIn w A L (g :: rowT V0)) (hc : L.length ≤ c) (hcm : c ≤ 9223372036854775807) (hC : ∀ w', Turns (g :: rowT V0) w w' → ConstIn w') :
    Calls Tryd.prog 19 #[.pointer (some ⟨g, 0, none⟩), .slice A L.length c] W (DrCall (dV (rootD L).1) w B base g V0 bo (F ++ (rootD L).2) P W) := by
  have h' := h
  obtain ⟨V, v, l, a, t, hb, Bb, o⟩ := h
  exact (root_any (L.length + 1) (by omega) l (Nat.le_trans hbs t.size) hF (hlv.turn t (fun x hx hn => row_out hn hx a)) hc hcm (fun w' k => hC w' (turns_seq t a k))).mono
    fun _ _ p => h'.call (fun _ l1 => log_val l l1) p
theorem node_dr (h : DrSt w B base g V0 bo F P W) (hbs : base ≤ w.heap.size) {x y : List Nat} (hx : DigN x) (hy : DigN y) (hF : F.length ≤ 1000000) (hC : ∀ w', Turns (g :: rowT V0) w w' → ConstIn w') :
    Calls Tryd.prog 17 #[.pointer (some ⟨g, 0, none⟩), dV x, dV y] W (DrCall (dV (hashN nodeTag [x, y])) w B base g V0 bo (F ++ [frameL nodeTag [x, y]]) P W) := by
  have h' := h
  obtain ⟨V, v, l, a, t, hb, Bb, o⟩ := h
  exact (node_any l (Nat.le_trans hbs t.size) hF hx hy (fun w' k => hC w' (turns_seq t a k))).mono
    fun _ _ p => h'.call (fun _ l1 => log_val l l1) p
/-- A row was appended to, and is stored into the box. -/
theorem dr_store {V v : Value} (l : LogOf tL W base g V F) (a : V.ownBlock = V0.ownBlock ∨ ∃ h, V.ownBlock = some h ∧ w.heap.size ≤ h) (t : Turns (g :: rowT V0) w W) (hb : w.heap.size ≤ B ∧ B ≤ bo) (Bb : Blk W bo tS #[v]) {n : Nat} {xs : List Value} (o : W.ownsRow B tD 32 v n xs)
    {w' : World} {A' : Option Addr} {c' m : Nat} {P2 : List (List Nat)} (o' : w'.ownsRow B tD 32 (.slice A' m c') m (recs digC P2)) (hm : m = P2.length) (gr : W.grownBy w' v.ownBlock) :
    DrSt w B base g V0 bo F P2 (w'.setCell ⟨bo, 0, none⟩ (.slice A' m c')) ∧ KeepX B bo W (w'.setCell ⟨bo, 0, none⟩ (.slice A' m c')) := by
  subst hm
  have T1 : Turns (rowT v) W w' := Turns.row gr
  have T2 : Turns [bo] w' (w'.setCell ⟨bo, 0, none⟩ (.slice A' P2.length c')) := Turns.setCell _ (by simp) w'
  have B1 : Blk w' bo tS #[v] := Bb.touch T1 (rowT_ne o Bb (by decide))
  obtain ⟨Al, nl, cl, D, rfl, hg, ho, hp, hD⟩ := l
  have l : LogOf tL W base g (.slice Al nl cl) F := ⟨Al, nl, cl, D, rfl, hg, ho, hp, hD⟩
  have l1 := l.turn T1 (rowT_ne o hg (by decide)) (row_row ho o (by decide)) (fun x hx _ cs hB => rowT_ne o hB (by decide) hx)
  have ho1 : Own w' base 22 (.slice Al nl cl) (recs partV D) := ho.touch T1 (row_row ho o (by decide))
  have hg1 : Blk w' g tL #[.slice Al nl cl] := hg.touch T1 (rowT_ne o hg (by decide))
  have l2 := l1.turn T2 (by simp; exact Blk.ne_ hg1 B1 (by decide)) (by simp; exact row_blk_ne ho1 B1 (by decide)) (fun x hx _ cs hB => by simp at hx; subst hx; exact Blk.ne_ B1 hB (by decide) rfl)
  refine ⟨⟨_, _, l2, a, turns_far (turns_far t T1 (fun x hx => Nat.le_trans hb.1 (rowT_ge o x hx).1)) T2 (by simpa using Nat.le_trans hb.1 hb.2), hb, B1.set_ 0 _, row_touch o' T2 (by simp; exact row_blk_ne o' B1 (by decide))⟩, ?_⟩
  refine ⟨Nat.le_trans T1.size T2.size, fun t b cs h1 h2 h3 h4 hb => ?_⟩
  exact ((KeepL.row o gr).2 t b cs h1 h2 h3 hb).touch T2 (by simpa using h4)
end
theorem dslice_lh (A : Option Addr) (n c l h : Nat) (h1 : l ≤ h) (h2 : h ≤ c) (w : World) : (Instr.sliceAt tS (.slice A n c) (some (.int .i64 (l : Int))) (some (.int .i64 (h : Int))) none).run Tryd.prog w = .ok (.slice (if c = l then A else A.map (·.add (l * 32))) (h - l) (c - l)) w := by
  rw [run_sliceAt_slice w _ _ _ _ _ sD, run_slice_lh w _ A n c sD .i64 .i64 (l : Int) (h : Int) (by omega) (by omega) (by omega), zD]
  simp [Result.andThen, sliced]
theorem DrSt.setBox {w W : World} {B base g bo bq : Nat} {V0 : Value} {F P : List (List Nat)} (h : DrSt w B base g V0 bo F P W) {cs : Array Value} (Bq : Blk W bq tS cs) (hbq : w.heap.size ≤ bq) (hne : bo ≠ bq) (u : Value) : DrSt w B base g V0 bo F P (W.setCell ⟨bq, 0, none⟩ u) := by
  obtain ⟨V, v, l, a, t, hb, Bb, o⟩ := h
  have T2 : Turns [bq] W (W.setCell ⟨bq, 0, none⟩ u) := Turns.setCell _ (by simp) W
  obtain ⟨Al, nl, cl, D, rfl, hg, ho, hp, hD⟩ := l
  have l : LogOf tL W base g (.slice Al nl cl) F := ⟨Al, nl, cl, D, rfl, hg, ho, hp, hD⟩
  have l2 := l.turn T2 (by simp; exact Blk.ne_ hg Bq (by decide)) (by simp; exact row_blk_ne ho Bq (by decide)) (fun x hx _ cs hB => by simp at hx; subst hx; exact Blk.ne_ Bq hB (by decide) rfl)
  exact ⟨_, v, l2, a, turns_far t T2 (by simpa using hbq), hb, Bb.touch T2 (by simpa using hne), row_touch o T2 (by simp; exact row_blk_ne o Bq (by decide))⟩
/-- The i-th of a row of digests of one's own. -/
theorem row_at {W : World} {base n c i : Nat} {A : Option Addr} {P : List (List Nat)} (o : W.ownsRow base tD 32 (.slice A n c) n (recs digC P)) (hP : Digs P) (hi : i < n) :
    ∃ ad, A = some ad ∧ ∀ W', KeepC W W' → ∀ j u, (nums .u8 (P.getD i []))[j]? = some u → W'.cell? ((ad.add (i * 32)).add j) = some u := by
  obtain ⟨ad, e, hb, hl, hc⟩ := Reads.rec_ (f := digC) (sz := 32) digC_len [] (Reads.of_own o) hi (by omega)
  refine ⟨ad, e, fun W' k j u hu => ?_⟩
  subst e
  obtain ⟨ad', e', hb', hl', hc'⟩ := Reads.rec_ (f := digC) (sz := 32) digC_len [] (Reads.of_own (k.row o)) hi (by omega)
  injection e' with e'
  subst e'
  rw [add_of_add]
  have hd : DigN (P.getD i []) := hP _ (mem_getD hl)
  rw [← digC_eq hd.1] at hu
  exact hc' j u hu

end Go.Proofs.YtgfemjpeegbhhaaDoor
/- The contract of proof.Prove. -/

namespace Go.Proofs.YtgfemjpeegbhhaaDoor
open Go.RowKit Go.Hm
/-- Some of the leaves. -/
theorem leafIn_sl {w : World} {A : Option Addr} {L : List (List Nat)} {T : List Nat} (h : LeafIn w A L T) {lo hi c : Nat} (h1 : lo ≤ hi) (h2 : hi ≤ L.length) (hc : L.length ≤ c) : LeafIn w (if c = lo then A else A.map (·.add (lo * 32))) (sl L lo hi) T := by
  have := (h.drop (k := lo) (c := c) (by omega) hc).take (k := hi - lo) (by rw [List.length_drop]; omega)
  exact this
/-- What came in lies in boxes. -/
def Box1 (g bl bv : Nat) (A : Option Addr) (n c : Nat) (W : World) : Prop := Blk W bl 25 #[.pointer (some ⟨g, 0, none⟩)] ∧ Blk W bv tS #[.slice A n c]
theorem Box1.keep {g B bo bl bv : Nat} {A : Option Addr} {n c : Nat} {W W' : World} (h : Box1 g bl bv A n c W) (k : KeepX B bo W W') (h1 : bl ≠ bo) (h2 : bv ≠ bo) : Box1 g bl bv A n c W' :=
  ⟨k.2 _ _ _ (by decide) (by decide) (.inl (by decide)) h1 h.1, k.2 _ _ _ (by decide) (by decide) (.inl (by decide)) h2 h.2⟩
set_option maxHeartbeats 4000000 in
set_option maxRecDepth 100000 in
theorem prove1_any {w W : World} {B base g bo bl bv : Nat} {V0 : Value} {F P L : List (List Nat)} {A : Option Addr} {c lo hi : Nat} (h : DrSt w B base g V0 bo F P W) (hx : Box1 g bl bv A L.length c W) (hbs : base ≤ w.heap.size) (hF : F.length + L.length ≤ 900000) (hP : P.length ≤ 1000000) (hlv : LeafIn w A L (g :: rowT V0)) (hc : L.length ≤ c) (hcm : c ≤ 9223372036854775807) (h1 : lo ≤ hi) (h2 : hi ≤ L.length) (hC : ∀ w', Turns (g :: rowT V0) w w' → ConstIn w') :
    Calls Tryd.prog 53 #[.int .i64 (lo : Int), .int .i64 (hi : Int), .pointer (some ⟨bo, 0, none⟩), .pointer (some ⟨bl, 0, none⟩), .pointer (some ⟨bv, 0, none⟩)] W
      (DrPost (.tuple #[]) w B base g V0 bo (F ++ (rootD (sl L lo hi)).2) (P ++ [(rootD (sl L lo hi)).1]) W) := by
  have h' := h
  obtain ⟨V, v, l, a, t, hb, Bb, o⟩ := h
  obtain ⟨x1, x2⟩ := hx
  have hd := rootD_dig _ (hlv.digs.sl lo hi)
  have hfew := rootD_few (hlv.digs.sl lo hi)
  have hlen : (sl L lo hi).length = hi - lo := sl_len h2
  have RT := Lib.hid (root_dr (L := sl L lo hi) (A := if c = lo then A else A.map (·.add (lo * 32))) (c := c - lo) (h'.new (New.drew W)) hbs (by rw [hlen]; omega) (leafIn_sl hlv h1 h2 hc) (by rw [hlen]; omega) (by omega) hC)
  rw [hlen] at RT
  have T0 : ∀ W', KeepL B W.drew W' → Hid (Blk W' bo tS #[v] ∧ Blk W' bl 25 #[.pointer (some ⟨g, 0, none⟩)] ∧ Blk W' bv tS #[.slice A L.length c]) := fun W' k =>
    Lib.hid ⟨k.2 _ _ _ (by decide) (by decide) (.inl (by decide)) Bb, k.2 _ _ _ (by decide) (by decide) (.inl (by decide)) x1, k.2 _ _ _ (by decide) (by decide) (.inl (by decide)) x2⟩
  have SL := fun W => dslice_lh A L.length c lo hi h1 (by omega) W
  go_enter Tryd.func53, Tryd.ntmps53
  go_wp2_with fail
  refine wp_region_upT (KeepL B) 9 [(0, 0), (0, 1), (0, 2), (1, 3), (1, 4), (1, 5), (2, 6), (2, 7), (2, 8), (2, 9)]
    KeepL.refl KeepL.trans (by kernel_rfl) (by kernel_rfl) (by kernel_rfl) (by kernel_rfl) ?_
  iterate 3 (
    refine upT_quiet rfl rfl (v := ?_) (fun W' hW => ?_) ?_
    rotate_left
    · obtain ⟨y1, y2, y3⟩ := (T0 W' hW).out
      have z1 : W'.cell? ⟨bo, 0, none⟩ = some v := y1.cell 0
      have z2 : W'.cell? ⟨bl, 0, none⟩ = some (.pointer (some ⟨g, 0, none⟩)) := y2.cell 0
      have z3 : W'.cell? ⟨bv, 0, none⟩ = some (.slice A L.length c) := y3.cell 0
      go_simp <;> with_reducible rfl
    simp only [Act.put, List.setIfInBounds_toArray, List.set_cons_zero, List.set_cons_succ])
  iterate 2 (
    refine upT_pure rfl rfl (v := ?_) (fun W' => ?_) ?_
    rotate_left
    · go_simp <;> with_reducible rfl
    simp only [Act.put, List.setIfInBounds_toArray, List.set_cons_zero, List.set_cons_succ])
  refine upT_pure rfl rfl (v := .slice (if c = lo then A else A.map (·.add (lo * 32))) (hi - lo) (c - lo)) (fun W' => by have q := SL W'; go_simp) ?_
  simp only [Act.put, List.setIfInBounds_toArray, List.set_cons_zero, List.set_cons_succ]
  obtain ⟨d, hdd⟩ : ∃ d, d = (rootD (sl L lo hi)).1 := ⟨_, rfl⟩
  obtain ⟨fr, hfr⟩ : ∃ d, d = (rootD (sl L lo hi)).2 := ⟨_, rfl⟩
  rw [← hdd] at hd
  rw [← hdd, ← hfr] at RT ⊢
  have Bb := Lib.hid Bb
  clear hdd hfr SL T0 hfew x1 x2 l a t o h'
  refine upT_call rfl rfl (fun K hK => ?_)
  go_simp
  (with_reducible refine RT.out.mono ?_)
  rintro e w1 ⟨rfl, d1, k1⟩
  have k1 := k1.l (B := B)
  refine hK _ _ (.inr (.inr k1)) ?_
  clear hK RT
  obtain ⟨V1, v1, l1, a1, t1, hb1, B1, o1⟩ := d1
  obtain rfl : v1 = v := by
    have := (k1.2 _ _ _ (by decide) (by decide) (.inl (by decide)) (Bb.out.drew)).symm.trans B1
    simpa using this.symm
  have hds : Digs [d] := fun x hx => by obtain rfl := List.mem_singleton.1 hx; exact hd
  refine upT_call rfl rfl (fun K hK => ?_)
  refine wp_digs 1 _ rfl [d] hds rfl (by omega) (by omega) (by rw [List.map_cons, List.map_nil, Array.toList_map]; rfl) ?_
  have k2 : KeepL B w1 (w1.alloc (.cells (recs digC [d]).toArray 32)) := KeepL.new (new_alloc2 _ _)
  refine hK _ _ (.inr (.inr k2)) ?_
  clear hK
  have lv := (leafIn_new (w := w1) hds (T := []) (by simp)).row
  have n2 := new_alloc2 w1 (.cells (recs digC [d]).toArray 32)
  have K2 := KeepX.trans (B := B) (bo := bo) (KeepX.new (New.drew W)) (KeepX.trans k1.x (KeepX.new n2))
  have l2 := l1.new n2
  have t2 := t1.trans (Turns.of_new (T := g :: rowT V0) n2)
  have B2 := B1.below n2 B1.lt
  have o2 := row_later o1 n2
  obtain ⟨w2, hw2⟩ : ∃ W, W = w1.alloc (.cells (recs digC [d]).toArray 32) := ⟨_, rfl⟩
  obtain ⟨q, hq⟩ : ∃ q, q = w1.heap.size := ⟨_, rfl⟩
  rw [← hw2, ← hq] at lv
  rw [← hw2] at K2 l2 t2 B2 o2
  rw [← hw2, ← hq]
  clear hw2 hq n2 k2 l1 t1 B1 o1 k1 Bb
  refine upT_call rfl rfl (fun K hK => ?_)
  refine wp_appR elD (.tmp 7) (.tmp 14) rfl (W := w2) (B := 0) o2 lv rfl rfl (Below.refl _ _) (Nat.zero_le _) (Nat.le_trans hb1.2 (Nat.le_of_lt B2.lt)) (digC_one _) (by simp; omega) (by simp only [maxLen, List.length_cons, List.length_nil]; omega) ?_
  intro A3 c3 w3 _ _ o3 g3 _
  rw [← recs_append] at o3
  have ST := dr_store l2 a1 t2 hb1 B2 o2 o3 (by simp) g3
  have k3 := KeepL.row o2 g3
  have B3 := k3.2 _ _ _ (by decide) (by decide) (.inl (by decide)) B2
  refine hK _ _ (.inr (.inr k3)) ?_
  clear hK o3 g3 k3 lv
  have c3 : w3.cell? ⟨bo, 0, none⟩ = some v1 := B3.cell 0
  have f3 : w3.frozen? ⟨bo, 0, none⟩ = false := B3.frozen 0
  have ST := Lib.hid ST
  have K2 := Lib.hid K2
  clear B2 o2 l2 t2 B3
  refine upT_call rfl rfl (fun K hK => ?_)
  go_simp
  refine hK _ _ (.inr (.inl rfl)) ?_
  clear hK
  refine upT_nil ?_
  go_end0
  exact ⟨rfl, ST.out.1, K2.out.trans ST.out.2⟩
theorem KeepX.t {B bo : Nat} {W W' : World} (h : KeepX B bo W W') {cs : Array Value} (Bb : Blk W bo tS cs) : KeepT tW W W' :=
  ⟨h.1, fun b _ hb => h.2 _ _ _ (by decide) (by decide) (.inl (by decide)) (Blk.ne_ hb Bb (by decide)) hb⟩
theorem DrSt.box {w W : World} {B base g bo : Nat} {V0 : Value} {F P : List (List Nat)} (h : DrSt w B base g V0 bo F P W) : ∃ v, Blk W bo tS #[v] ∧ W.ownsRow B tD 32 v P.length (recs digC P) := by
  obtain ⟨V, v, l, a, t, hb, Bb, o⟩ := h
  exact ⟨v, Bb, o⟩
/-- What Prove answers. -/
def provP (L : List (List Nat)) (f t : Int) : List (List Nat) := if needI (L.length : Nat) f t < 0 then [] else prD L (evs f.toNat t.toNat 0 L.length)
def provF (L : List (List Nat)) (f t : Int) : List (List Nat) := if needI (L.length : Nat) f t < 0 then [] else prF L (evs f.toNat t.toNat 0 L.length)
def DigsPost (P : List (List Nat)) (base g : Nat) (V : Value) (F : List (List Nat)) (w : World) (e : Ending) (w' : World) : Prop :=
  ∃ v, e = .returned v ∧ w'.ownsRow w.heap.size tD 32 v P.length (recs digC P) ∧ ∃ V', LogOf tL w' base g V' F ∧ (V'.ownBlock = V.ownBlock ∨ ∃ h, V'.ownBlock = some h ∧ w.heap.size ≤ h) ∧ Turns (g :: rowT V) w w'
theorem DrSt.post {w W : World} {B base g bo : Nat} {V0 : Value} {F P : List (List Nat)} (h : DrSt w B base g V0 bo F P W) {v : Value} (hv : ∀ v', Blk W bo tS #[v'] → v' = v) : DigsPost P base g V0 F w (.returned v) W := by
  obtain ⟨V, v', l, a, t, hb, Bb, o⟩ := h
  obtain rfl := hv v' Bb
  exact ⟨_, rfl, row_base o hb.1, V, l, a, t⟩
def PrvR (w : World) (base g : Nat) (V : Value) (bo : Nat) (F L : List (List Nat)) (A : Option Addr) (c : Nat) (es : List Ev) (W : World) : Prop :=
  DrSt w w.heap.size base g V bo (F ++ prF L es) (prD L es) W ∧ Box1 g w.heap.size (w.heap.size + 1) A L.length c W
set_option maxHeartbeats 4000000 in
set_option maxRecDepth 100000 in
theorem prove_any {w : World} {base g : Nat} {V : Value} {F L : List (List Nat)} {A : Option Addr} {c : Nat} (f t : Int) (hL : LogOf tL w base g V F) (hbs : base ≤ w.heap.size) (hF : F.length + 2 * L.length ≤ 900000) (hlv : LeafIn w A L (g :: rowT V)) (hc : L.length ≤ c) (hcm : c ≤ 9223372036854775807) (hC : ∀ w', Turns (g :: rowT V) w w' → ConstIn w') :
    Calls Tryd.prog 33 #[.pointer (some ⟨g, 0, none⟩), .slice A L.length c, .int .i64 f, .int .i64 t] w (DigsPost (provP L f t) base g V (F ++ provF L f t) w) := by
  have ND := Lib.hid (fun W => need_any (L.length : Nat) f t W (by omega) (by omega))
  obtain ⟨W1, hW1⟩ : ∃ W, W = (w.alloc (.cells #[.pointer (some ⟨g, 0, none⟩)] 25)).alloc (.cells #[.slice A L.length c] tS) := ⟨_, rfl⟩
  have n1 : New w W1 := by rw [hW1]; exact New.trans (new_alloc2 _ _) (new_alloc2 _ _)
  have x1 : Box1 g w.heap.size (w.heap.size + 1) A L.length c W1 := by
    rw [hW1]
    refine ⟨(Blk.new w _ _).alloc _, ?_⟩
    have := Blk.new (w.alloc (.cells #[.pointer (some ⟨g, 0, none⟩)] 25)) tS #[.slice A L.length c]
    rwa [World.size_alloc] at this
  have z1 : W1.heap.size = w.heap.size + 2 := by rw [hW1]; simp
  have HW1 := Lib.hid hW1
  have X1 := Lib.hid x1
  have N1 := Lib.hid n1
  by_cases hneg : needI (L.length : Nat) f t < 0
  · have PN := Lib.hid (show provP L f t = [] from if_pos hneg)
    have PF := Lib.hid (show provF L f t = [] from if_pos hneg)
    obtain ⟨y, hy⟩ : ∃ y, y = needI (L.length : Nat) f t := ⟨_, rfl⟩
    rw [← hy] at hneg ND
    have q1 : decide (y < 0) = true := decide_eq_true hneg
    have HL := Lib.hid hL
    clear hy x1 n1 hW1 hlv hC hL
    go_enter Tryd.func33, Tryd.ntmps33
    go_wp2_with fail
    have N := ND.out W1
    rw [HW1.out] at N
    refine N.mono ?_
    clear N
    rintro e w2 ⟨rfl, b2⟩
    have b2 : New W1 w2 := by rw [HW1.out]; exact b2
    have B2 := Lib.hid (New.trans N1.out b2)
    clear b2
    go_wp2
    go_ret
    rw [PN.out, PF.out, List.append_nil]
    exact ⟨_, by simp, row_nil, V, HL.out.new B2.out, .inl rfl, Turns.of_new B2.out⟩
  have PN := Lib.hid (show provP L f t = _ from if_neg hneg)
  have PF := Lib.hid (show provF L f t = _ from if_neg hneg)
  have hok : 0 ≤ f ∧ f ≤ t ∧ t ≤ (L.length : Nat) ∧ (L.length : Nat) ≤ 65536 := by
    unfold needI at hneg
    split at hneg
    · omega
    · omega
  obtain ⟨f, rfl⟩ : ∃ m : Nat, f = (m : Int) := ⟨f.toNat, by omega⟩
  obtain ⟨t, rfl⟩ : ∃ m : Nat, t = (m : Int) := ⟨t.toNat, by omega⟩
  rw [Int.toNat_natCast, Int.toNat_natCast] at PN PF
  obtain ⟨y, hy⟩ : ∃ y, y = needI (L.length : Nat) f t := ⟨_, rfl⟩
  rw [← hy] at hneg ND
  have q1 : decide (y < 0) = false := decide_eq_false hneg
  have hfl := prF_len hlv.digs 0 L.length (Nat.zero_le _) (Nat.le_refl _) (f := f) (t := t)
  have hcl := cnt_le 0 L.length (Nat.zero_le _) (f := f) (t := t)
  have OV := Lib.hid (fun (bo : Nat) (W : World) (hbo : w.heap.size + 2 ≤ bo) (hr : PrvR w base g V bo F L A c [] W) =>
    over_any (f := f) (t := t) (kA := 47) (kB := 53) (kC := 48) (eA := #[]) (eB := #[.pointer (some ⟨bo, 0, none⟩), .pointer (some ⟨w.heap.size, 0, none⟩), .pointer (some ⟨w.heap.size + 1, 0, none⟩)]) (eC := #[]) (total := evs f t 0 L.length)
    (R := PrvR w base g V bo F L A c)
    (by rintro k (rfl | rfl | rfl) args w <;> go_simp)
    (fun es w1 w2 h k => ⟨h.1.new k, h.2.keep (KeepX.new (B := 0) (bo := bo) k) (by omega) (by omega)⟩)
    (fun es lo hi w1 hp h => (nowhere_any lo hi w1).mono (by
      rintro e w' ⟨rfl, rfl⟩
      refine ⟨rfl, ?_, KeepT.refl _ _⟩
      unfold PrvR at h ⊢
      rw [prF_app, prD_app]
      simpa [prF, prD] using h))
    (fun es lo hi w1 hp h => by
      have hin := evs_last hp
      have h1 := prF_pre (L := L) hp
      have h2 := cnt_pre hp
      rw [prF_app, List.length_append] at h1
      rw [cnt_app] at h2
      have h3 : (prD L es).length = cnt es := prD_len L es
      obtain ⟨v, B, _⟩ := h.1.box
      refine (prove1_any h.1 h.2 hbs (by simp; omega) (by omega) hlv hc hcm (by have := hin.2.1; omega) hin.2.2 hC).mono ?_
      rintro e w' ⟨rfl, d, k⟩
      refine ⟨rfl, ⟨?_, h.2.keep k (by omega) (by omega)⟩, k.t B⟩
      rw [prF_app, prD_app]
      simpa [prF, prD] using d)
    (fun es w1 hp h => (nothing_any w1).mono (by
      rintro e w' ⟨rfl, rfl⟩
      refine ⟨rfl, ?_, KeepT.refl _ _⟩
      unfold PrvR at h ⊢
      rw [prF_app, prD_app]
      simpa [prF, prD] using h))
    (L.length + 1) 0 L.length [] W (by omega) (by omega) (by omega) (List.prefix_refl _) hr)
  have HL := Lib.hid hL
  clear hy x1 n1 hW1 hlv hC hL hfl hcl hneg
  have hmf : ∀ (fn : Fn) (first cap : Array Value) (w : World), (Instr.makeFunc fn first cap).run Tryd.prog w = .ok (.func fn first cap) w := fun _ _ _ _ => rfl
  go_enter Tryd.func33, Tryd.ntmps33
  go_wp2_with fail
  have N := ND.out W1
  rw [HW1.out] at N
  refine N.mono ?_
  clear N
  rintro e w2 ⟨rfl, b2⟩
  have b2 : New W1 w2 := by rw [HW1.out]; exact b2
  have B2 := Lib.hid (New.trans N1.out b2)
  have z2 : w.heap.size + 2 ≤ w2.heap.size := by have := b2.size; omega
  have x2 := X1.out.keep (KeepX.new (B := 0) (bo := w2.heap.size) b2) (by omega) (by omega)
  have k2 : w2.cell? ⟨w.heap.size + 1, 0, none⟩ = some (.slice A L.length c) := x2.2.cell 0
  have X2 := Lib.hid x2
  have kW : ((w2.alloc (.cells #[.slice none 0 0] tS)).alloc (.cells #[.int .i64 (f : Int), .int .i64 (t : Int), .func (.func 47) #[] #[], .func (.func 53) #[] #[.pointer (some ⟨w2.heap.size, 0, none⟩), .pointer (some ⟨w.heap.size, 0, none⟩), .pointer (some ⟨w.heap.size + 1, 0, none⟩)], .func (.func 48) #[] #[]] tW)).cell? ⟨w.heap.size + 1, 0, none⟩ = some (.slice A L.length c) := by
    rw [World.cell?_alloc_lt _ _ _ (by simp; omega), World.cell?_alloc_lt _ _ _ (by show w.heap.size + 1 < w2.heap.size; omega)]
    exact k2
  have R3 : PrvR w base g V w2.heap.size F L A c [] ((w2.alloc (.cells #[.slice none 0 0] tS)).alloc (.cells #[.int .i64 (f : Int), .int .i64 (t : Int), .func (.func 47) #[] #[], .func (.func 53) #[] #[.pointer (some ⟨w2.heap.size, 0, none⟩), .pointer (some ⟨w.heap.size, 0, none⟩), .pointer (some ⟨w.heap.size + 1, 0, none⟩)], .func (.func 48) #[] #[]] tW)) := by
    have n3 : ∀ o1 o2, New w2 ((w2.alloc o1).alloc o2) := fun _ _ => New.trans (new_alloc2 _ _) (new_alloc2 _ _)
    refine ⟨⟨V, .slice none 0 0, ?_, .inl rfl, Turns.of_new (New.trans B2.out (n3 _ _)), ⟨Nat.le_refl _, by omega⟩, (Blk.new w2 _ _).alloc _, row_nil⟩, x2.keep (KeepX.new (B := 0) (bo := w2.heap.size) (n3 _ _)) (by omega) (by omega)⟩
    rw [show prF L [] = [] from rfl, List.append_nil]
    exact HL.out.new (New.trans B2.out (n3 _ _))
  have R3 := Lib.hid R3
  clear b2 x2 ND HW1 X1 N1 z1 HL
  go_wp2_with fail
  refine (OV.out w2.heap.size _ z2 R3.out).mono ?_
  rintro e w4 ⟨rfl, r, -⟩
  rw [List.nil_append] at r
  obtain ⟨d, -⟩ := r
  obtain ⟨v, B, o⟩ := d.box
  have c4 : w4.cell? ⟨w2.heap.size, 0, none⟩ = some v := B.cell 0
  have D := Lib.hid (d.post (v := v) (fun v' B' => by have := B.symm.trans B'; simpa using this.symm))
  clear d B o R3 OV kW
  go_wp2
  go_ret
  rw [PN.out, PF.out]
  simpa using D.out

end Go.Proofs.YtgfemjpeegbhhaaDoor
/- As UpT, where t0 may wait for what reads by way of others. No program is named here. -/

namespace Go.Hm
open Go.RowKit

section
variable {P : Program} {ops : Array Oper} {Q : Exit → Act → World → Prop} {md : Region.Mode} {S : World → Prop} {t0 : Nat}
/-- Whether t waits for i, at once or by way of others. -/
def waitsC (md : Region.Mode) (ops : Array Oper) : Nat → Nat → Nat → Bool
  | 0, _, _ => false
  | n + 1, t, i => match ops[t]? with
    | some ot => ot.after.any fun e => Region.binds md e && (e.on == i || waitsC md ops n e.on i)
    | none => false
/-- What is listed has all listed for which it waits. -/
def Closed (md : Region.Mode) (ops : Array Oper) (listed : Array Bool) : Prop := ∀ p op, ops[p]? = some op → listed.getD p false = true → ∀ e ∈ op.after, Region.binds md e = true → listed.getD e.on false = true
theorem Closed.set_ {listed : Array Bool} {j : Nat} (h : Closed md ops listed) (hj : j ∈ Region.ready md ops listed) : Closed md ops (listed.setIfInBounds j true) := by
  intro p op hp hl e he hb
  obtain ⟨_, oj, hoj, hall⟩ := mem_ready.1 hj
  by_cases hpj : p = j
  · subst hpj
    rw [hoj] at hp
    injection hp with hp
    subst hp
    exact getD_set_keep (hall e he hb)
  · rw [getD_set_other (Ne.symm hpj)] at hl
    exact getD_set_keep (h p op hp hl e he hb)
theorem Closed.waits {listed : Array Bool} (h : Closed md ops listed) : ∀ {n t i : Nat}, waitsC md ops n t i = true → (t ∈ Region.ready md ops listed ∨ listed.getD t false = true) → listed.getD i false = true
  | 0, _, _, hw, _ => by cases hw
  | n + 1, t, i, hw, ht => by
    unfold waitsC at hw
    cases ho : ops[t]? with
    | none => rw [ho] at hw; cases hw
    | some ot =>
      rw [ho] at hw
      rw [Array.any_eq_true] at hw
      obtain ⟨j, hj, hw⟩ := hw
      simp only [Bool.and_eq_true, Bool.or_eq_true, beq_iff_eq] at hw
      have hon : listed.getD (ot.after[j]).on false = true := by
        rcases ht with ht | ht
        · obtain ⟨_, o2, ho2, hall⟩ := mem_ready.1 ht
          rw [ho] at ho2
          injection ho2 with ho2
          subst ho2
          exact hall _ (Array.getElem_mem hj) hw.1
        · exact h t ot ho ht _ (Array.getElem_mem hj) hw.1
      rcases hw.2 with e | e
      · rw [← e]; exact hon
      · exact h.waits e (.inr hon)
/-- Taken first. -/
theorem wpAnyC_first {i : Nat} {oi : Oper} {v : Value} (hi : ops[i]? = some oi) (hit : i ≠ t0) (hsel : ∀ (j : Nat) (o : Oper) cs b, ops[j]? = some o → o.op ≠ .select cs b)
    (hQ : ∀ c a w, Q (.panic c) (a.put oi.dst v) w → Q (.panic c) a w) (V : World → Prop)
    (hV : (∀ w, V w) ∨ ((∀ w, S w → V w) ∧ waitsC md ops ops.size t0 i = true)) :
    ∀ (fuel : Nat) (listed : Array Bool) (a : Act) (w : World),
      (∀ j oj, ops[j]? = some oj → j ≠ i → listed.getD j true = false → (∀ e ∈ oj.after, Region.binds md e = true → e.on ≠ i) → oi.apart ops oj = true) →
      Closed md ops listed → i ∈ Region.ready md ops listed → YieldsIf P ops V oi v a → (listed.getD t0 false = true ∨ S w) → ((∀ w, V w) ∨ listed.getD t0 false = false) →
      wpAnyT P md ops Q t0 S fuel (listed.setIfInBounds i true) (a.put oi.dst v) w → wpAnyT P md ops Q t0 S (fuel + 1) listed a w := by
  have hVw : ∀ (listed : Array Bool) (w : World), (listed.getD t0 false = true ∨ S w) → ((∀ w, V w) ∨ listed.getD t0 false = false) → V w := by
    intro listed w hS ht
    rcases ht with ht | ht
    · exact ht w
    · rcases hS with hS | hS
      · rw [ht] at hS; cases hS
      · rcases hV with hV | hV
        · exact hV w
        · exact hV.1 w hS
  intro fuel
  induction fuel with
  | zero =>
    intro listed a w _ _ hr hy hS ht H
    refine ⟨fun h => (by rw [h] at hr; cases hr), fun j hj => ?_⟩
    by_cases hji : j = i
    · subst hji
      exact hy.wpOp hi (hVw listed w hS ht) ⟨hS.imp getD_set_keep id, H⟩
    · have := ready_mono hj hji
      rw [H.1] at this
      cases this
  | succ fuel ih =>
    intro listed a w hfree hcl hr hy hS ht H
    refine ⟨fun h => (by rw [h] at hr; cases hr), fun j hj => ?_⟩
    by_cases hji : j = i
    · subst hji
      exact hy.wpOp hi (hVw listed w hS ht) ⟨hS.imp getD_set_keep id, H⟩
    · have h1 := H.2 j (ready_mono hj hji)
      obtain ⟨hjun, oj, hoj, hall⟩ := mem_ready.1 hj
      have hnot : ∀ e ∈ oj.after, Region.binds md e = true → e.on ≠ i := fun e he hb heq => by
        have h1 := hall e he hb
        have h0 := (mem_ready.1 hr).1
        rw [heq] at h1
        rcases Nat.lt_or_ge i listed.size with h' | h'
        · simp [h'] at h0 h1; rw [h0] at h1; cases h1
        · simp [Array.getElem?_eq_none h'] at h1
      have h2 := wpOp_putIf hoj (hfree j oj hoj hji hjun hnot) (fun cs b => hsel i oi cs b hi) (fun cs b => hsel j oj cs b hoj) hQ hy h1
      have hfree' : ∀ k ok, ops[k]? = some ok → k ≠ i → (listed.setIfInBounds j true).getD k true = false →
          (∀ e ∈ ok.after, Region.binds md e = true → e.on ≠ i) → oi.apart ops ok = true := fun k ok hk hki hun hno => by
        refine hfree k ok hk hki ?_ hno
        by_cases hjk : j = k
        · subst hjk; exact hjun
        · rw [getD_set_ne true hjk] at hun; exact hun
      have ht' : (∀ w, V w) ∨ (listed.setIfInBounds j true).getD t0 false = false := by
        rcases hV with hV | ⟨_, hwt⟩
        · exact .inl hV
        · refine ht.imp id fun ht => ?_
          have hjt : j ≠ t0 := by
            rintro rfl
            have h1 := hcl.waits hwt (.inl hj)
            have h0 := (mem_ready.1 hr).1
            rcases Nat.lt_or_ge i listed.size with h' | h'
            · simp [h'] at h0 h1; rw [h0] at h1; cases h1
            · simp [Array.getElem?_eq_none h'] at h1
          rw [getD_set_other hjt]
          exact ht
      refine wpOp_mono (fun a' w' h3 => ?_) h2
      have hS' : (listed.setIfInBounds j true).getD t0 false = true ∨ S w' := by
        refine h3.2.1.imp (fun h4 => ?_) id
        rw [Array.setIfInBounds_comm _ _ (fun e => hji e.symm), getD_set_other hit] at h4
        exact h4
      refine ⟨hS', ih (listed.setIfInBounds j true) a' w' hfree' (hcl.set_ hj) (ready_mono hr (Ne.symm hji)) h3.1 hS' ht' ?_⟩
      rw [Array.setIfInBounds_comm _ _ hji]
      exact h3.2.2
theorem wpAnyC_take {i : Nat} {oi : Oper} {v : Value} {fuel : Nat} {listed : Array Bool} {a : Act} {w : World} (V : World → Prop) (hi : ops[i]? = some oi) (hit : i ≠ t0)
    (hs : Region.noSelect ops = true) (hf : Region.free md ops listed i = true) (hr : (Region.ready md ops listed).contains i = true)
    (hQ : ∀ c a w, Q (.panic c) (a.put oi.dst v) w → Q (.panic c) a w)
    (hV : (∀ w, V w) ∨ ((∀ w, S w → V w) ∧ waitsC md ops ops.size t0 i = true))
    (hcl : Closed md ops listed) (hy : YieldsIf P ops V oi v a) (hS : listed.getD t0 false = true ∨ S w) (ht : (∀ w, V w) ∨ listed.getD t0 false = false)
    (h : wpAnyT P md ops Q t0 S fuel (listed.setIfInBounds i true) (a.put oi.dst v) w) : wpAnyT P md ops Q t0 S (fuel + 1) listed a w :=
  wpAnyC_first hi hit (Region.noSelect_spec hs) hQ V hV fuel listed a w (Region.free_spec hi hf) hcl (by simpa using hr) hy hS ht h

/-- 0: reads, and t0 waits for it; 1: yields its value in whatever world; 2: comes up alone. -/
def upOkC (ops : Array Oper) (t0 : Nat) : Array Bool → List (Nat × Nat) → Bool
  | listed, [] => (Region.ready .any ops listed).isEmpty
  | listed, (0, i) :: r => (Region.ready .any ops listed).contains i && (Region.free .any ops listed i && (waitsC .any ops ops.size t0 i && (decide (i ≠ t0) && (!listed.getD t0 false && upOkC ops t0 (listed.setIfInBounds i true) r))))
  | listed, (1, i) :: r => (Region.ready .any ops listed).contains i && (Region.free .any ops listed i && (decide (i ≠ t0) && upOkC ops t0 (listed.setIfInBounds i true) r))
  | listed, (_, i) :: r => decide (Region.ready .any ops listed = [i]) && upOkC ops t0 (listed.setIfInBounds i true) r
variable {R : World → World → Prop}
theorem wpAnyC_of_up (hrefl : ∀ w, R w w) (htrans : ∀ {x y z}, R x y → R y z → R x z) (hs : Region.noSelect ops = true) :
    ∀ (ord : List (Nat × Nat)) (fuel : Nat) (listed : Array Bool) (d : Bool) (a : Act) (w : World), (d = true → listed.getD t0 false = true) → (∀ i ∈ ord.map (·.2), i < listed.size) → ord.length ≤ fuel → Closed .any ops listed → upOkC ops t0 listed ord = true → wpUpT P ops R Q t0 ord d a w → wpAnyT P .any ops (NoPanic Q) t0 (R w) fuel listed a w := by
  intro ord
  induction ord with
  | nil =>
    intro fuel listed d a w _ _ _ _ hok h
    have hr : Region.ready .any ops listed = [] := by simpa [upOkC] using hok
    cases fuel with
    | zero => exact ⟨hr, NoPanic.normal h⟩
    | succ fuel => exact ⟨fun _ => NoPanic.normal h, by rw [hr]; simp⟩
  | cons x r ih =>
    obtain ⟨b, i⟩ := x
    intro fuel listed d a w hd hsz hl hcl hok h
    obtain ⟨fuel, rfl⟩ : ∃ k, fuel = k + 1 := ⟨fuel - 1, by simp at hl; omega⟩
    have hl' : r.length ≤ fuel := by simp at hl; omega
    have hsz' : ∀ k ∈ r.map (·.2), k < (listed.setIfInBounds i true).size := fun k hk => by rw [Array.size_setIfInBounds]; exact hsz k (by simp at hk ⊢; exact .inr hk)
    have hi0 : i < listed.size := hsz i (by simp)
    match b with
    | 0 =>
      obtain ⟨o, v, ho, hv, hr⟩ := h
      simp only [upOkC, Bool.and_eq_true, decide_eq_true_eq, Bool.not_eq_true'] at hok
      obtain ⟨h1, h2, h3, h4, h5, h6⟩ := hok
      exact wpAnyC_take (R w) ho h4 hs h2 h1 (fun _ _ _ hp => hp) (.inr ⟨fun _ hh => hh, h3⟩) hcl hv (.inr (hrefl w)) (.inr h5) (ih fuel _ d _ w (fun e => getD_set_keep (hd e)) hsz' hl' (hcl.set_ (by simpa using h1)) h6 hr)
    | 1 =>
      obtain ⟨o, v, ho, hv, hr⟩ := h
      simp only [upOkC, Bool.and_eq_true, decide_eq_true_eq] at hok
      obtain ⟨h1, h2, h3, h4⟩ := hok
      exact wpAnyC_take (fun _ => True) ho h3 hs h2 h1 (fun _ _ _ hp => hp) (.inl fun _ => trivial) hcl (hv.imp (fun hh => ⟨hh.1, fun w' _ => hh.2 w'⟩) id) (.inr (hrefl w)) (.inl fun _ => trivial) (ih fuel _ d _ w (fun e => getD_set_keep (hd e)) hsz' hl' (hcl.set_ (by simpa using h1)) h4 hr)
    | b + 2 =>
      obtain ⟨o, ho, hc⟩ := h
      simp only [upOkC, Bool.and_eq_true, decide_eq_true_eq] at hok
      obtain ⟨h1, h3⟩ := hok
      refine ⟨fun h0 => (by rw [h1] at h0; cases h0), fun j hj => ?_⟩
      have hj0 := hj
      rw [h1] at hj0
      obtain rfl : j = i := by simpa using hj0
      have hd' : (d || j == t0) = true → (listed.setIfInBounds j true).getD t0 false = true := by
        intro e
        rw [Bool.or_eq_true, beq_iff_eq] at e
        rcases e with e | rfl
        · exact getD_set_keep (hd e)
        · rw [Array.getD_eq_getD_getElem?, Array.getElem?_setIfInBounds, if_pos rfl, if_pos hi0]; rfl
      unfold wpOp
      simp only [ho]
      split
      · rename_i hw
        rw [if_pos hw] at hc
        refine .inl (Oper.wp_mono (fun a' w' hh => ?_) hc)
        obtain ⟨hR, hh⟩ := hh
        have hI := ih fuel _ _ a' w' hd' hsz' hl' (hcl.set_ hj) h3 hh
        by_cases ht : (listed.setIfInBounds j true).getD t0 false = true
        · exact ⟨.inl ht, wpAnyT_weaken fuel _ a' w' (.inl ht) hI⟩
        · have hR' : R w w' := by
            rcases hR with hR | hR | hR
            · exact absurd (getD_set_keep (hd hR)) ht
            · exact absurd (hd' (by simp [hR])) ht
            · exact hR
          exact ⟨.inr hR', wpAnyT_weaken fuel _ a' w' (.inr fun z hz => htrans hR' hz) hI⟩
      · rename_i hw
        rw [if_neg hw] at hc
        exact ⟨.inr (hrefl w), ih fuel _ _ _ w hd' hsz' hl' (hcl.set_ hj) h3 hc⟩

theorem wp_region_upC {id : Nat} {a : Act} {w : World} (R : World → World → Prop) (t0 : Nat) (ord : List (Nat × Nat)) (hrefl : ∀ w, R w w) (htrans : ∀ {x y z}, R x y → R y z → R x z) (hm : P.follows .mixedOrders = true)
    (hs : Region.noSelect ops = true) (hl : (decide (ord.length ≤ ops.size) && ord.all fun x => decide (x.2 < ops.size)) = true) (hok : upOkC ops t0 (Array.replicate ops.size false) ord = true) (h : wpUpT P ops R Q t0 ord false a w.drew) : (Code.region id ops true).wp P Q a w := by
  simp only [Bool.and_eq_true, decide_eq_true_eq, List.all_eq_true] at hl
  refine wp_region_noPanic (wp_region_any hm (wpAny_of_T _ _ _ _ (wpAnyC_of_up hrefl htrans hs ord ops.size _ false a _ (by simp) ?_ hl.1 (by intro p op _ hp; rw [Array.getD_eq_getD_getElem?, Array.getElem?_replicate] at hp; split at hp <;> cases hp) hok h)))
  intro i hi
  simp only [List.mem_map] at hi
  obtain ⟨x, hx, rfl⟩ := hi
  rw [Array.size_replicate]
  exact hl.2 x hx
end

end Go.Hm
/- The contracts of what proof.Join tells a walk. -/

namespace Go.Proofs.YtgfemjpeegbhhaaDoor
open Go.RowKit Go.Hm
set_option maxHeartbeats 4000000 in
set_option maxRecDepth 100000 in
theorem join1_any {w W : World} {B base g bo bl bp bf : Nat} {V0 : Value} {F P L : List (List Nat)} {A : Option Addr} {c f lo hi : Nat} (h : DrSt w B base g V0 bo F P W) (x1 : Blk W bl 25 #[.pointer (some ⟨g, 0, none⟩)]) (x2 : Blk W bp tS #[.slice A L.length c]) (x3 : Blk W bf 3 #[.int .i64 (f : Int)])
    (hbs : base ≤ w.heap.size) (hF : F.length + L.length ≤ 900000) (hP : P.length ≤ 1000000) (hlv : LeafIn w A L (g :: rowT V0)) (hc : L.length ≤ c) (hcm : c ≤ 9223372036854775807) (h0 : f ≤ lo) (h1 : lo ≤ hi) (h2 : hi - f ≤ L.length) (hhi : hi ≤ 1000000) (hC : ∀ w', Turns (g :: rowT V0) w w' → ConstIn w') :
    Calls Tryd.prog 54 #[.int .i64 (lo : Int), .int .i64 (hi : Int), .pointer (some ⟨bo, 0, none⟩), .pointer (some ⟨bl, 0, none⟩), .pointer (some ⟨bp, 0, none⟩), .pointer (some ⟨bf, 0, none⟩)] W
      (DrPost (.tuple #[]) w B base g V0 bo (F ++ (rootD (sl L (lo - f) (hi - f))).2) (P ++ [(rootD (sl L (lo - f) (hi - f))).1]) W) := by
  have h' := h
  obtain ⟨V, v, l, a, t, hb, Bb, o⟩ := h
  obtain ⟨lo', rfl⟩ : ∃ x, lo = f + x := ⟨lo - f, by omega⟩
  obtain ⟨hi', rfl⟩ : ∃ x, hi = f + x := ⟨hi - f, by omega⟩
  rw [show f + lo' - f = lo' by omega, show f + hi' - f = hi' by omega] at *
  have h1 : lo' ≤ hi' := by omega
  have hd := rootD_dig _ (hlv.digs.sl lo' hi')
  have hlen : (sl L lo' hi').length = hi' - lo' := sl_len h2
  have RT := Lib.hid (root_dr (L := sl L lo' hi') (A := if c = lo' then A else A.map (·.add (lo' * 32))) (c := c - lo') (h'.new (New.drew W)) hbs (by rw [hlen]; omega) (leafIn_sl hlv h1 h2 hc) (by rw [hlen]; omega) (by omega) hC)
  rw [hlen] at RT
  have T0 : ∀ W', KeepL B W.drew W' → Hid (Blk W' bo tS #[v] ∧ Blk W' bl 25 #[.pointer (some ⟨g, 0, none⟩)] ∧ Blk W' bp tS #[.slice A L.length c] ∧ Blk W' bf 3 #[.int .i64 (f : Int)]) := fun W' k =>
    Lib.hid ⟨k.2 _ _ _ (by decide) (by decide) (.inl (by decide)) Bb, k.2 _ _ _ (by decide) (by decide) (.inl (by decide)) x1, k.2 _ _ _ (by decide) (by decide) (.inl (by decide)) x2, k.2 _ _ _ (by decide) (by decide) (.inl (by decide)) x3⟩
  have SL := fun W => dslice_lh A L.length c lo' hi' h1 (by omega) W
  have e1 : ((f + lo' : Nat) : Int) - (f : Int) = (lo' : Int) := by omega
  have e2 : ((f + hi' : Nat) : Int) - (f : Int) = (hi' : Int) := by omega
  have w1 : IntKind.i64.wrap (((f + lo' : Nat) : Int) - (f : Int)) = (lo' : Int) := by rw [e1]; exact wrapI_is _ ⟨by omega, by omega⟩
  have w2 : IntKind.i64.wrap (((f + hi' : Nat) : Int) - (f : Int)) = (hi' : Int) := by rw [e2]; exact wrapI_is _ ⟨by omega, by omega⟩
  generalize hfl : f + lo' = fl at *
  generalize hfh : f + hi' = fh at *
  clear hfl hfh e1 e2
  go_enter Tryd.func54, Tryd.ntmps54
  go_wp2_with fail
  refine wp_region_upT (KeepL B) 13 [(0, 0), (0, 1), (0, 2), (1, 3), (0, 4), (1, 5), (1, 6), (0, 7), (1, 8), (1, 9), (2, 10), (2, 11), (2, 12), (2, 13)]
    KeepL.refl KeepL.trans (by kernel_rfl) (by kernel_rfl) (by kernel_rfl) (by kernel_rfl) ?_
  iterate 9 (first
    | (refine upT_quiet rfl rfl (v := ?_) (fun W' hW => ?_) ?_
       rotate_left
       · obtain ⟨y1, y2, y3, y4⟩ := (T0 W' hW).out
         have z1 : W'.cell? ⟨bo, 0, none⟩ = some v := y1.cell 0
         have z2 : W'.cell? ⟨bl, 0, none⟩ = some (.pointer (some ⟨g, 0, none⟩)) := y2.cell 0
         have z3 : W'.cell? ⟨bp, 0, none⟩ = some (.slice A L.length c) := y3.cell 0
         have z4 : W'.cell? ⟨bf, 0, none⟩ = some (.int .i64 (f : Int)) := y4.cell 0
         go_simp <;> with_reducible rfl
       simp only [Act.put, List.setIfInBounds_toArray, List.set_cons_zero, List.set_cons_succ])
    | (refine upT_pure rfl rfl (v := ?_) (fun W' => ?_) ?_
       rotate_left
       · go_simp <;> with_reducible rfl
       simp only [Act.put, List.setIfInBounds_toArray, List.set_cons_zero, List.set_cons_succ]))
  refine upT_pure rfl rfl (v := .slice (if c = lo' then A else A.map (·.add (lo' * 32))) (hi' - lo') (c - lo')) (fun W' => by have q := SL W'; go_simp) ?_
  simp only [Act.put, List.setIfInBounds_toArray, List.set_cons_zero, List.set_cons_succ]
  obtain ⟨d, hdd⟩ : ∃ d, d = (rootD (sl L lo' hi')).1 := ⟨_, rfl⟩
  obtain ⟨fr, hfr⟩ : ∃ d, d = (rootD (sl L lo' hi')).2 := ⟨_, rfl⟩
  rw [← hdd] at hd
  rw [← hdd, ← hfr] at RT ⊢
  have Bb := Lib.hid Bb
  clear hdd hfr SL T0 x1 x2 x3 l a t o h'
  refine upT_call rfl rfl (fun K hK => ?_)
  go_simp
  (with_reducible refine RT.out.mono ?_)
  rintro e w1 ⟨rfl, d1, k1⟩
  have k1 := k1.l (B := B)
  refine hK _ _ (.inr (.inr k1)) ?_
  clear hK RT
  obtain ⟨V1, v1, l1, a1, t1, hb1, B1, o1⟩ := d1
  obtain rfl : v1 = v := by
    have := (k1.2 _ _ _ (by decide) (by decide) (.inl (by decide)) (Bb.out.drew)).symm.trans B1
    simpa using this.symm
  have hds : Digs [d] := fun x hx => by obtain rfl := List.mem_singleton.1 hx; exact hd
  refine upT_call rfl rfl (fun K hK => ?_)
  refine wp_digs 1 _ rfl [d] hds rfl (by omega) (by omega) (by rw [List.map_cons, List.map_nil, Array.toList_map]; rfl) ?_
  have k2 : KeepL B w1 (w1.alloc (.cells (recs digC [d]).toArray 32)) := KeepL.new (new_alloc2 _ _)
  refine hK _ _ (.inr (.inr k2)) ?_
  clear hK
  have lv := (leafIn_new (w := w1) hds (T := []) (by simp)).row
  have n2 := new_alloc2 w1 (.cells (recs digC [d]).toArray 32)
  have K2 := KeepX.trans (B := B) (bo := bo) (KeepX.new (New.drew W)) (KeepX.trans k1.x (KeepX.new n2))
  have l2 := l1.new n2
  have t2 := t1.trans (Turns.of_new (T := g :: rowT V0) n2)
  have B2 := B1.below n2 B1.lt
  have o2 := row_later o1 n2
  obtain ⟨w2, hw2⟩ : ∃ W, W = w1.alloc (.cells (recs digC [d]).toArray 32) := ⟨_, rfl⟩
  obtain ⟨q, hq⟩ : ∃ q, q = w1.heap.size := ⟨_, rfl⟩
  rw [← hw2, ← hq] at lv
  rw [← hw2] at K2 l2 t2 B2 o2
  rw [← hw2, ← hq]
  clear hw2 hq n2 k2 l1 t1 B1 o1 k1 Bb
  refine upT_call rfl rfl (fun K hK => ?_)
  refine wp_appR elD (.tmp 8) (.tmp 19) rfl (W := w2) (B := 0) o2 lv rfl rfl (Below.refl _ _) (Nat.zero_le _) (Nat.le_trans hb1.2 (Nat.le_of_lt B2.lt)) (digC_one _) (by simp; omega) (by simp only [maxLen, List.length_cons, List.length_nil]; omega) ?_
  intro A3 c3 w3 _ _ o3 g3 _
  rw [← recs_append] at o3
  have ST := dr_store l2 a1 t2 hb1 B2 o2 o3 (by simp) g3
  have k3 := KeepL.row o2 g3
  have B3 := k3.2 _ _ _ (by decide) (by decide) (.inl (by decide)) B2
  refine hK _ _ (.inr (.inr k3)) ?_
  clear hK o3 g3 k3 lv
  have c3 : w3.cell? ⟨bo, 0, none⟩ = some v1 := B3.cell 0
  have f3 : w3.frozen? ⟨bo, 0, none⟩ = false := B3.frozen 0
  have ST := Lib.hid ST
  have K2 := Lib.hid K2
  clear B2 o2 l2 t2 B3
  refine upT_call rfl rfl (fun K hK => ?_)
  go_simp
  refine hK _ _ (.inr (.inl rfl)) ?_
  clear hK
  refine upT_nil ?_
  go_end0
  exact ⟨rfl, ST.out.1, K2.out.trans ST.out.2⟩
/-- What is left of a proof: a box with its slice, whose digests came in. -/
def RestIn (w : World) (g : Nat) (V0 : Value) (bq : Nat) (R : List (List Nat)) (W : World) : Prop := ∃ A c, Blk W bq tS #[.slice A R.length c] ∧ R.length ≤ c ∧ c ≤ 9223372036854775807 ∧ LeafIn w A R (g :: rowT V0)
def Join2Post (w : World) (B base g : Nat) (V0 : Value) (bo bq : Nat) (F P R : List (List Nat)) (W : World) (e : Ending) (W' : World) : Prop :=
  e = .returned (.tuple #[]) ∧ DrSt w B base g V0 bo F P W' ∧ RestIn w g V0 bq R W' ∧ W.heap.size ≤ W'.heap.size ∧ ∀ t b cs, t ≠ tL → t ≠ 22 → (t ≠ tD ∨ b < B) → b ≠ bo → b ≠ bq → Blk W b t cs → Blk W' b t cs
set_option maxHeartbeats 4000000 in
set_option maxRecDepth 100000 in
theorem join2_any {w W : World} {B base g bo bq : Nat} {V0 : Value} {F P R : List (List Nat)} (lo hi : Int) (h : DrSt w B base g V0 bo F P W) (hR : RestIn w g V0 bq R W) (hP : P.length ≤ 1000000) (hn : 1 ≤ R.length) (hbq : w.heap.size ≤ bq) (hne : bo ≠ bq) :
    Calls Tryd.prog 55 #[.int .i64 lo, .int .i64 hi, .pointer (some ⟨bo, 0, none⟩), .pointer (some ⟨bq, 0, none⟩)] W
      (Join2Post w B base g V0 bo bq F (P ++ [R.getD 0 []]) (R.drop 1) W) := by
  have h' := h
  obtain ⟨V, v, l, a, t, hb, Bb, o⟩ := h
  obtain ⟨A, c, Bq, hc, hcm, lv⟩ := hR
  have hd : DigN (R.getD 0 []) := lv.digs _ (mem_getD hn)
  obtain ⟨ad, rfl, -⟩ := lv.at_ hn
  have T0 : ∀ W', Turns (rowT v) W.drew W' → Hid (Blk W' bo tS #[v] ∧ Blk W' bq tS #[.slice (some ad) R.length c] ∧ ∀ j u, (nums .u8 (R.getD 0 []))[j]? = some u → W'.cell? (ad.add j) = some u) := fun W' k => by
    have k' := (Turns.drew _ W).trans k
    refine Lib.hid ⟨Bb.touch k' (rowT_ne o Bb (by decide)), Bq.touch k' (rowT_ne o Bq (by decide)), ?_⟩
    have tw := turns_far t k' (fun x hx => Nat.le_trans hb.1 (rowT_ge o x hx).1)
    obtain ⟨ad', e', hc'⟩ := (lv.turn (T' := []) tw (by simp)).at_ hn
    injection e' with e'
    subst e'
    intro j u hu
    have := hc' W' (Below.refl _ _) j u hu
    rwa [Nat.zero_mul, add_zero'] at this
  have SL := fun W => dslice_l (some ad) R.length c 1 hn W
  have HD0 : (0 : Nat) < R.length := hn
  obtain ⟨d, hdd⟩ : ∃ d, d = R.getD 0 [] := ⟨_, rfl⟩
  rw [← hdd] at hd T0 ⊢
  have hds : Digs [d] := fun x hx => by obtain rfl := List.mem_singleton.1 hx; exact hd
  have lvR := (lv.drop (k := 1) hn hc)
  have lR2 : (R.drop 1).length = R.length - 1 := List.length_drop
  generalize R.drop 1 = R2 at *
  have LR2 := Lib.hid lR2
  clear lR2
  have I32 := Lib.hid (i32L hd.1)
  clear hdd
  go_enter Tryd.func55, Tryd.ntmps55
  go_wp2_with fail
  refine wp_region_upT (Turns (rowT v)) 6 [(0, 0), (0, 1), (1, 2), (0, 3), (2, 4), (2, 5), (2, 6)]
    (Turns.refl _) Turns.trans (by kernel_rfl) (by kernel_rfl) (by kernel_rfl) (by kernel_rfl) ?_
  iterate 2 (
    refine upT_quiet rfl rfl (v := ?_) (fun W' hW => ?_) ?_
    rotate_left
    · obtain ⟨y1, y2, -⟩ := (T0 W' hW).out
      have z1 : W'.cell? ⟨bo, 0, none⟩ = some v := y1.cell 0
      have z2 : W'.cell? ⟨bq, 0, none⟩ = some (.slice (some ad) R.length c) := y2.cell 0
      go_simp <;> with_reducible rfl
    simp only [Act.put, List.setIfInBounds_toArray, List.set_cons_zero, List.set_cons_succ])
  refine upT_pure rfl rfl (v := ?_) (fun W' => ?_) ?_
  rotate_left
  · go_simp <;> with_reducible rfl
  simp only [Act.put, List.setIfInBounds_toArray, List.set_cons_zero, List.set_cons_succ]
  refine upT_quiet rfl rfl (v := .agg (nums .u8 d).toArray) (fun W' hW => exec_load_at rfl (T0 W' hW).out.2.2 digarr rfl I32.out) ?_
  simp only [Act.put, List.setIfInBounds_toArray, List.set_cons_zero, List.set_cons_succ]
  refine upT_call rfl rfl (fun K hK => ?_)
  refine wp_digs 1 _ rfl [d] hds rfl (by omega) (by omega) (by rw [List.map_cons, List.map_nil, Array.toList_map]; rfl) ?_
  have n2 : New W.drew (W.drew.alloc (.cells (recs digC [d]).toArray 32)) := new_alloc2 _ _
  have lvn := (leafIn_new (w := W.drew) hds (T := []) (by simp)).row
  have n02 := New.trans (New.drew W) n2
  have l2 := l.new n02
  have t2 := t.trans (Turns.of_new (T := g :: rowT V0) n02)
  have B2 := Bb.below n02 Bb.lt
  have Bq2 := Bq.below n02 Bq.lt
  have o2 := row_later o n02
  refine hK _ _ (.inr (.inr (Turns.of_new n2))) ?_
  clear hK
  obtain ⟨w2, hw2⟩ : ∃ W2, W2 = W.drew.alloc (.cells (recs digC [d]).toArray 32) := ⟨_, rfl⟩
  obtain ⟨q, hq⟩ : ∃ q, q = W.drew.heap.size := ⟨_, rfl⟩
  rw [← hw2, ← hq] at lvn
  rw [← hw2] at l2 t2 B2 Bq2 o2 n02
  rw [← hw2, ← hq]
  clear hw2 hq n2 T0
  refine upT_call rfl rfl (fun K hK => ?_)
  refine wp_appR elD (.tmp 6) (.tmp 10) rfl (W := w2) (B := 0) o2 lvn rfl rfl (Below.refl _ _) (Nat.zero_le _) (Nat.le_trans hb.2 (Nat.le_of_lt B2.lt)) (digC_one _) (by simp; omega) (by simp only [maxLen, List.length_cons, List.length_nil]; omega) ?_
  intro A3 c3 w3 _ _ o3 g3 _
  rw [← recs_append] at o3
  have ST := dr_store l2 a t2 hb B2 o2 o3 (by simp) g3
  have k3 := KeepL.row o2 g3
  have B3 := k3.2 _ _ _ (by decide) (by decide) (.inl (by decide)) B2
  refine hK _ _ (.inr (.inr (Turns.row g3))) ?_
  clear hK o3 g3 k3 lvn
  have z3 : w3.cell? ⟨bo, 0, none⟩ = some v := B3.cell 0
  have f3 : w3.frozen? ⟨bo, 0, none⟩ = false := B3.frozen 0
  have Bq4 := ST.2.2 _ _ _ (by decide) (by decide) (.inl (by decide)) (Ne.symm hne) Bq2
  obtain ⟨w4, hw4⟩ : ∃ W4, W4 = w3.setCell ⟨bo, 0, none⟩ (.slice A3 (P.length + 1) c3) := ⟨_, rfl⟩
  have HW4 := Lib.hid hw4
  have ST4 := Lib.hid (show DrSt w B base g V0 bo F (P ++ [d]) w4 ∧ KeepX B bo W w4 by
    rw [hw4]
    exact ⟨ST.1, (KeepX.new n02).trans ST.2⟩)
  have Bq4 : Blk w4 bq tS #[.slice (some ad) R.length c] := by rw [hw4]; exact Bq4
  clear hw4 ST B2 o2 l2 t2 B3 Bq2 n02 Bb Bq o l t a h'
  refine upT_call rfl rfl (fun K hK => ?_)
  go_simp
  refine hK _ _ (.inr (.inl rfl)) ?_
  clear hK
  have hw4 : w3.setCell ⟨bo, 0, none⟩ (.slice A3 (P.length + 1) c3) = w4 := HW4.out.symm
  refine upT_nil ?_
  rw [hw4]
  have z4 : w4.cell? ⟨bq, 0, none⟩ = some (.slice (some ad) R.length c) := Bq4.cell 0
  have f4 : w4.frozen? ⟨bq, 0, none⟩ = false := Bq4.frozen 0
  have DN := Lib.hid (show DrSt w B base g V0 bo F (P ++ [d]) (w4.setCell ⟨bq, 0, none⟩ (.slice (if c = 1 then some ad else (some ad).map (·.add (1 * 32))) (R.length - 1) (c - 1))) ∧ RestIn w g V0 bq R2 (w4.setCell ⟨bq, 0, none⟩ (.slice (if c = 1 then some ad else (some ad).map (·.add (1 * 32))) (R.length - 1) (c - 1))) ∧ W.heap.size ≤ (w4.setCell ⟨bq, 0, none⟩ (.slice (if c = 1 then some ad else (some ad).map (·.add (1 * 32))) (R.length - 1) (c - 1))).heap.size ∧ ∀ t b cs, t ≠ tL → t ≠ 22 → (t ≠ tD ∨ b < B) → b ≠ bo → b ≠ bq → Blk W b t cs → Blk (w4.setCell ⟨bq, 0, none⟩ (.slice (if c = 1 then some ad else (some ad).map (·.add (1 * 32))) (R.length - 1) (c - 1))) b t cs by
    refine ⟨ST4.out.1.setBox Bq4 hbq hne _, ⟨_, c - 1, ?_, by rw [LR2.out]; omega, by omega, lvR⟩, by simpa using ST4.out.2.1, fun t b cs h1 h2 h3 h4 h5 hB => ?_⟩
    · rw [LR2.out]
      exact Bq4.set_ 0 _
    · exact (ST4.out.2.2 t b cs h1 h2 h3 h4 hB).far (p := ⟨bq, 0, none⟩) h5 _)
  clear Bq4 ST4 HW4 hw4 lvR lv
  clear SL
  go_wp2
  · go_end0
    have := DN.out
    rw [if_pos (by assumption), show c - 1 = 0 by omega] at this
    exact ⟨rfl, this⟩
  · go_end0
    have := DN.out
    rw [if_neg (by assumption)] at this
    exact ⟨rfl, this⟩
set_option maxHeartbeats 4000000 in
set_option maxRecDepth 100000 in
theorem join3_any {w W : World} {B base g bo bl k : Nat} {V0 : Value} {F P : List (List Nat)} (h : DrSt w B base g V0 bo F P W) (x1 : Blk W bl 25 #[.pointer (some ⟨g, 0, none⟩)]) (hbs : base ≤ w.heap.size) (hF : F.length ≤ 1000000) (hD : Digs P) (hk : P.length = k + 2) (hP : P.length ≤ 1000000) (hC : ∀ w', Turns (g :: rowT V0) w w' → ConstIn w') :
    Calls Tryd.prog 56 #[.pointer (some ⟨bo, 0, none⟩), .pointer (some ⟨bl, 0, none⟩)] W
      (DrPost (.tuple #[]) w B base g V0 bo (F ++ [frameL nodeTag [P.getD k [], P.getD (k + 1) []]]) (P.take k ++ [hashN nodeTag [P.getD k [], P.getD (k + 1) []]]) W) := by
  have h' := h
  obtain ⟨V, v, l, a, t, hb, Bb, o⟩ := h
  obtain ⟨A, c, rfl, hlc, hcm⟩ := row_slice o
  obtain ⟨ad, rfl, hx⟩ := row_at o hD (i := k) (by omega)
  obtain ⟨ad', e', hy⟩ := row_at o hD (i := k + 1) (by omega)
  injection e' with e'
  subst e'
  have hdx : DigN (P.getD k []) := hD _ (mem_getD (by omega))
  have hdy : DigN (P.getD (k + 1) []) := hD _ (mem_getD (by omega))
  have NT := Lib.hid (node_dr (h'.new (New.drew W)) hbs hdx hdy hF hC)
  have hz := hashN_dig nodeTag [P.getD k [], P.getD (k + 1) []]
  have T0 : ∀ W', KeepC W.drew W' → Hid (Blk W' bo tS #[.slice (some ad) P.length c] ∧ Blk W' bl 25 #[.pointer (some ⟨g, 0, none⟩)] ∧ (∀ j u, (nums .u8 (P.getD k []))[j]? = some u → W'.cell? ((ad.add (k * 32)).add j) = some u) ∧ (∀ j u, (nums .u8 (P.getD (k + 1) []))[j]? = some u → W'.cell? ((ad.add ((k + 1) * 32)).add j) = some u)) := fun W' q =>
    Lib.hid ⟨q.2 _ _ _ (by decide) (by decide) Bb, q.2 _ _ _ (by decide) (by decide) x1, hx W' ((KeepC.new (New.drew W)).trans q), hy W' ((KeepC.new (New.drew W)).trans q)⟩
  have SL := fun W => dslice_h (some ad) P.length c k (by omega) W
  have IX := Lib.hid (i32L hdx.1)
  have IY := Lib.hid (i32L hdy.1)
  have O := Lib.hid o
  have Bb := Lib.hid Bb
  have z0 : W.cell? ⟨bo, 0, none⟩ = some (.slice (some ad) P.length c) := Bb.out.cell 0
  obtain ⟨x, hxx⟩ : ∃ x, x = P.getD k [] := ⟨_, rfl⟩
  obtain ⟨y, hyy⟩ : ∃ y, y = P.getD (k + 1) [] := ⟨_, rfl⟩
  rw [← hxx] at hdx IX T0 NT hz ⊢
  rw [← hyy] at hdy IY T0 NT hz ⊢
  generalize hashN nodeTag [x, y] = d at *
  generalize frameL nodeTag [x, y] = fr at *
  have HPk := Lib.hid hk
  obtain ⟨n, hn⟩ : ∃ n, n = P.length := ⟨_, rfl⟩
  have HNP := Lib.hid hn
  rw [← hn] at z0 T0 SL hk hlc hP
  subst hk
  clear hxx hyy x1 l a t o h' hx hy hn
  go_enter Tryd.func56, Tryd.ntmps56
  go_wp2_with fail
  have wk1 : IntKind.i64.wrap ((k : Int) + 1) = (k : Int) + 1 := wrapI_is _ ⟨by omega, by omega⟩
  have kb1 : (k : Int) < (k : Int) + 2 := by omega
  have kb2 : (k : Int) + 1 < (k : Int) + 2 := by omega
  have kb3 : (0 : Int) ≤ (k : Int) + 1 := by omega
  have kt : ((k : Int) + 1).toNat = k + 1 := by omega
  refine wp_region_upC KeepC 15 [(0, 0), (1, 1), (1, 2), (0, 3), (0, 4), (1, 5), (1, 6), (0, 7), (0, 8), (1, 9), (1, 10), (1, 11), (0, 12), (2, 13), (2, 14), (2, 15), (2, 16)]
    KeepC.refl KeepC.trans (by kernel_rfl) (by kernel_rfl) (by kernel_rfl) (by kernel_rfl) ?_
  iterate 1 (
    refine upT_quiet rfl rfl (v := ?_) (fun W' hW => ?_) ?_
    rotate_left
    · obtain ⟨y1, y2, -⟩ := (T0 W' hW).out
      have u1 : W'.cell? ⟨bo, 0, none⟩ = some (.slice (some ad) (k + 2) c) := y1.cell 0
      have u2 : W'.cell? ⟨bl, 0, none⟩ = some (.pointer (some ⟨g, 0, none⟩)) := y2.cell 0
      go_simp <;> with_reducible rfl
    simp only [Act.put, List.setIfInBounds_toArray, List.set_cons_zero, List.set_cons_succ])
  iterate 1 (
    refine upT_pure rfl rfl (v := ?_) (fun W' => ?_) ?_
    rotate_left
    · go_simp <;> with_reducible rfl
    simp only [Act.put, List.setIfInBounds_toArray, List.set_cons_zero, List.set_cons_succ])
  refine upT_pure rfl rfl (v := .slice (some ad) k c) (fun W' => exec_slice (SL W')) ?_
  simp only [Act.put, List.setIfInBounds_toArray, List.set_cons_zero, List.set_cons_succ]
  iterate 2 (
    refine upT_quiet rfl rfl (v := ?_) (fun W' hW => ?_) ?_
    rotate_left
    · obtain ⟨y1, y2, -⟩ := (T0 W' hW).out
      have u1 : W'.cell? ⟨bo, 0, none⟩ = some (.slice (some ad) (k + 2) c) := y1.cell 0
      have u2 : W'.cell? ⟨bl, 0, none⟩ = some (.pointer (some ⟨g, 0, none⟩)) := y2.cell 0
      go_simp <;> with_reducible rfl
    simp only [Act.put, List.setIfInBounds_toArray, List.set_cons_zero, List.set_cons_succ])
  iterate 2 (
    refine upT_pure rfl rfl (v := ?_) (fun W' => ?_) ?_
    rotate_left
    · go_simp <;> with_reducible rfl
    simp only [Act.put, List.setIfInBounds_toArray, List.set_cons_zero, List.set_cons_succ])
  refine upT_quiet rfl rfl (v := .agg (nums .u8 x).toArray) (fun W' hW => exec_load_at rfl (T0 W' hW).out.2.2.1 digarr rfl IX.out) ?_
  simp only [Act.put, List.setIfInBounds_toArray, List.set_cons_zero, List.set_cons_succ]
  iterate 1 (
    refine upT_quiet rfl rfl (v := ?_) (fun W' hW => ?_) ?_
    rotate_left
    · obtain ⟨y1, y2, -⟩ := (T0 W' hW).out
      have u1 : W'.cell? ⟨bo, 0, none⟩ = some (.slice (some ad) (k + 2) c) := y1.cell 0
      have u2 : W'.cell? ⟨bl, 0, none⟩ = some (.pointer (some ⟨g, 0, none⟩)) := y2.cell 0
      go_simp <;> with_reducible rfl
    simp only [Act.put, List.setIfInBounds_toArray, List.set_cons_zero, List.set_cons_succ])
  iterate 3 (
    refine upT_pure rfl rfl (v := ?_) (fun W' => ?_) ?_
    rotate_left
    · go_simp <;> with_reducible rfl
    simp only [Act.put, List.setIfInBounds_toArray, List.set_cons_zero, List.set_cons_succ])
  refine upT_quiet rfl rfl (v := .agg (nums .u8 y).toArray) (fun W' hW => exec_load_at rfl (T0 W' hW).out.2.2.2 digarr rfl IY.out) ?_
  simp only [Act.put, List.setIfInBounds_toArray, List.set_cons_zero, List.set_cons_succ]
  refine upT_call rfl rfl (fun K hK => ?_)
  go_simp
  refine Calls.mono (show Calls _ _ #[.pointer (some ⟨g, 0, none⟩), .agg (nums .u8 x).toArray, .agg (nums .u8 y).toArray] _ _ from NT.out) ?_
  rintro e w1 ⟨rfl, d1, k1⟩
  refine hK _ _ (.inr (.inr k1)) ?_
  clear hK NT
  obtain ⟨V1, v1, l1, a1, t1, hb1, B1, o1⟩ := d1
  obtain rfl : v1 = .slice (some ad) (k + 2) c := by
    have := (k1.2 _ _ _ (by decide) (by decide) (Bb.out.drew)).symm.trans B1
    rw [← HNP.out] at this
    simpa using this.symm
  have hds : Digs [d] := fun x hx => by obtain rfl := List.mem_singleton.1 hx; exact hz
  refine upT_call rfl rfl (fun K hK => ?_)
  refine wp_digs 1 _ rfl [d] hds rfl (by omega) (by omega) (by rw [List.map_cons, List.map_nil, Array.toList_map]; rfl) ?_
  refine hK _ _ (.inr (.inr (KeepC.new (new_alloc2 _ _)))) ?_
  clear hK
  have lvn := (leafIn_new (w := w1) hds (T := []) (by simp)).row
  have n2 := new_alloc2 w1 (.cells (recs digC [d]).toArray 32)
  have K2 := KeepX.trans (B := B) (bo := bo) (KeepX.new (New.drew W)) (KeepX.trans k1.l.x (KeepX.new n2))
  have l2 := l1.new n2
  have t2 := t1.trans (Turns.of_new (T := g :: rowT V0) n2)
  have B2 := B1.below n2 B1.lt
  have o2 := row_later o1 n2
  rw [← HNP.out] at o2
  have o2k := row_take o2 (k := k) (by omega)
  rw [recs_take (sz := 32) digC_len P k (by rw [← HNP.out]; omega)] at o2k
  obtain ⟨w2, hw2⟩ : ∃ W, W = w1.alloc (.cells (recs digC [d]).toArray 32) := ⟨_, rfl⟩
  obtain ⟨q, hq⟩ : ∃ q, q = w1.heap.size := ⟨_, rfl⟩
  rw [← hw2, ← hq] at lvn
  rw [← hw2] at K2 l2 t2 B2 o2 o2k
  rw [← hw2, ← hq]
  have lk : (P.take k).length = k := by rw [List.length_take, ← HNP.out]; omega
  clear hw2 hq n2 l1 t1 B1 o1 k1 T0 SL
  refine upT_call rfl rfl (fun K hK => ?_)
  refine wp_appR elD (.tmp 8) (.tmp 20) rfl (W := w2) (B := 0) o2k lvn rfl rfl (Below.refl _ _) (Nat.zero_le _) (Nat.le_trans hb1.2 (Nat.le_of_lt B2.lt)) (digC_one _) (by simp; omega) (by simp only [maxLen, List.length_cons, List.length_nil]; omega) ?_
  intro A3 c3 w3 _ _ o3 g3 _
  rw [← recs_append] at o3
  have ST := dr_store l2 a1 t2 hb1 B2 o2 o3 (by rw [List.length_append, lk]) g3
  have B3 := (KeepL.row o2 g3).2 _ _ _ (by decide) (by decide) (.inl (by decide)) B2
  refine hK _ _ (.inr (.inl rfl)) ?_
  clear hK o3 g3 lvn
  have c3 : w3.cell? ⟨bo, 0, none⟩ = some (.slice (some ad) (k + 2) c) := B3.cell 0
  have f3 : w3.frozen? ⟨bo, 0, none⟩ = false := B3.frozen 0
  have ST := Lib.hid ST
  have K2 := Lib.hid K2
  clear B2 o2 o2k l2 t2 B3 lk
  refine upT_call rfl rfl (fun K hK => ?_)
  go_simp
  refine hK _ _ (.inl rfl) ?_
  clear hK
  refine upT_nil ?_
  go_end0
  exact ⟨rfl, ST.out.1, K2.out.trans ST.out.2⟩

end Go.Proofs.YtgfemjpeegbhhaaDoor
