/- Texts merged, for a claim has at most 60 files: OpenFo, FooQ, FooC, LayM, Lay, FooJ, FooK, PicM, PicR, PicB, PicN, PicO, PicC, StaR. -/
import Derived.Deep.LoopGhost
import Derived.ScopeJumps
import Derived.Test.YthmjbdpkdomofaaBun1
import Derived.Test.YthmjbdpkdomofaaBun2
import Derived.Test.YthmjbdpkdomofaaBun3
import Derived.WalkMore
/- Footers opened. -/
set_option maxRecDepth 100000

namespace Go.Hm
open Go Go.RowKit
/-- A footer lies in the world. -/
structure FootIn (w : World) (Ac : Option Addr) (cc : Nat) (L : List ColS) (Ag : Option Addr) (G : List GrD) : Prop where
  cols : Reads w w.heap.size 3 Ac L.length (recs colV L)
  fine : ∀ x ∈ L, (∀ z ∈ x.1, z < 256) ∧ x.1.length ≤ 140737488351232
  cap : L.length ≤ cc
  few : L.length ≤ 4611686018427387903
  groups : Reads w w.heap.size 2 Ag G.length (recs grV G)
  few2 : G.length ≤ 4611686018427387903
  chunks : ∀ g ∈ G, Reads w w.heap.size 1 g.2.1 g.2.2.2.length (recs chV g.2.2.2) ∧ g.2.2.2.length ≤ 4611686018427387903
  pages : ∀ g ∈ G, ∀ x ∈ g.2.2.2, Reads w w.heap.size 14 x.1 x.2.2.length (recs pageV x.2.2) ∧ x.2.2.length ≤ 4611686018427387903
theorem FootIn.later {w w' : World} {Ac : Option Addr} {cc : Nat} {L : List ColS} {Ag : Option Addr} {G : List GrD} (h : FootIn w Ac cc L Ag G) (hb : New w w') : FootIn w' Ac cc L Ag G :=
  ⟨Reads.later h.cols hb, h.fine, h.cap, h.few, Reads.later h.groups hb, h.few2, fun g hg => ⟨Reads.later (h.chunks g hg).1 hb, (h.chunks g hg).2⟩, fun g hg x hx => ⟨Reads.later (h.pages g hg x hx).1 hb, (h.pages g hg x hx).2⟩⟩
/-- The footer's value. -/
def footA (Ac : Option Addr) (cc : Nat) (L : List ColS) (rows : Int) (Ag : Option Addr) (cg : Nat) (G : List GrD) : Value := .agg #[.slice Ac L.length cc, .int .i64 rows, .slice Ag G.length cg]
/-- The footer, plain. -/
def footP (L : List ColS) (rows : Int) (G : List GrD) : FootS := ⟨L, rows, G.map grP⟩

end Go.Hm

namespace Go.Proofs.Ythmjbdpkdomofaa
open Go.RowKit Go.Hm Go.WideShapes Go.ChangeShapes

section
variable {H : Type} {enc : TypeId × Value → H} {W : World} {base : Nat} {v : Value} {d : DataW H} {ps : List MemPlace}
theorem held_page {cs : List Value} (h : Held enc Try.prog W 57 cs) : ∃ p : PageS, cs = pageV p ∧ PageFine p := by
  have ht : Try.prog.underlying 57 = some (.struct (fieldsOf Try.prog 57)) := by kernel_rfl
  have hl := h.partLen ht (n := 14) (by kernel_rfl)
  have p0 := h.part ht 0 0 1 (ft := 3) (by kernel_rfl) (by kernel_rfl)
  have p1 := h.part ht 1 1 1 (ft := 3) (by kernel_rfl) (by kernel_rfl)
  have p2 := h.part ht 2 2 12 (ft := 55) (by kernel_rfl) (by kernel_rfl)
  obtain ⟨n, e0, n1, n2⟩ := p0.i64 (by kernel_rfl)
  obtain ⟨m, e1, m1, m2⟩ := p1.i64 (by kernel_rfl)
  obtain ⟨s, e2, hs⟩ := held_stat p2
  clear p0 p1 p2 h
  match cs, hl with
  | [a0, a1, a2, a3, a4, a5, a6, a7, a8, a9, a10, a11, a12, a13], _ =>
    refine ⟨(n, m, s), ?_, hs, ⟨n1, n2⟩, m1, m2⟩
    simp only [List.drop_succ_cons, List.drop_zero, List.take_succ_cons, List.take_zero, List.cons.injEq, and_true] at e0 e1 e2
    show _ = Value.int .i64 n :: .int .i64 m :: statV s
    rw [← e2, e0, e1]
abbrev ChFine (W : World) (x : ChD) : Prop := ((Reads W W.heap.size 14 x.1 x.2.2.length (recs pageV x.2.2) ∧ x.2.2.length ≤ 4611686018427387903) ∧ ∀ p ∈ x.2.2, PageFine p) ∧ x.2.2.length ≤ x.2.1
theorem held_pages {cs : List Value} (h : Held enc Try.prog W 46 cs) : ∃ x : ChD, cs = chV x ∧ ChFine W x := by
  have ht : Try.prog.underlying 46 = some (.slice 57) := by kernel_rfl
  obtain ⟨A, c, l, h1, h2, _, h4, h5, h6⟩ := h.recs (f := pageV) (sz := 14) (by_ := 128) (Q := PageFine) (0, 0, 0, false, (false, 0, [], 0, 0), (false, 0, [], 0, 0)) ht (by kernel_rfl) (by kernel_rfl) (fun _ => rfl) (by omega) (fun cs hh => held_page hh)
  subst h1
  exact ⟨(A, c, l), rfl, ⟨⟨h5, by unfold reachBytes at h4; dsimp only; omega⟩, h6⟩, h2⟩
abbrev GrFine (W : World) (g : GrD) : Prop := (Reads W W.heap.size 1 g.2.1 g.2.2.2.length (recs chV g.2.2.2) ∧ g.2.2.2.length ≤ 4611686018427387903) ∧ (∀ x ∈ g.2.2.2, ChFine W x) ∧ (-9223372036854775808 ≤ g.1 ∧ g.1 ≤ 9223372036854775807) ∧ g.2.2.2.length ≤ g.2.2.1
theorem held_group {cs : List Value} (h : Held enc Try.prog W 49 cs) : ∃ g : GrD, cs = grV g ∧ GrFine W g := by
  have ht : Try.prog.underlying 49 = some (.struct (fieldsOf Try.prog 49)) := by kernel_rfl
  have hl := h.partLen ht (n := 2) (by kernel_rfl)
  have p0 := h.part ht 0 0 1 (ft := 3) (by kernel_rfl) (by kernel_rfl)
  have p1 := h.part ht 1 1 1 (ft := 47) (by kernel_rfl) (by kernel_rfl)
  obtain ⟨n, e0, n1, n2⟩ := p0.i64 (by kernel_rfl)
  have hs : Try.prog.underlying 47 = some (.slice 46) := by kernel_rfl
  obtain ⟨A, c, l, h1, h2, _, h4, h5, h6⟩ := p1.recs (f := chV) (sz := 1) (by_ := 24) (Q := ChFine W) (none, 0, []) hs (by kernel_rfl) (by kernel_rfl) (fun _ => rfl) (by omega) (fun cs hh => held_pages hh)
  clear p0 p1 h
  match cs, hl with
  | [a0, a1], _ =>
    refine ⟨(n, A, c, l), ?_, ⟨h5, by unfold reachBytes at h4; dsimp only; omega⟩, h6, ⟨n1, n2⟩, h2⟩
    simp only [List.drop_succ_cons, List.drop_zero, List.take_succ_cons, List.take_zero, List.cons.injEq, and_true] at e0 h1
    rw [e0, h1]
    rfl
theorem open_Fo2 (hval : Value.okWide Try.prog W .any base 25 v) (h : DataW.Trod enc Try.prog W 0 (fun _ => true) true 25 v d ps) (hlt : ∀ p ∈ ps, p.block < W.heap.size) (hw : ∀ n ∈ d.weights Try.prog 25, n ≤ reachBytes) :
    ∃ (Ac : Option Addr) (cc : Nat) (L : List ColS) (r : Int) (Ag : Option Addr) (cg : Nat) (G : List GrD), v = footA Ac cc L r Ag cg G ∧ FootIn W Ac cc L Ag G ∧ G.length ≤ cg ∧ (-9223372036854775808 ≤ r ∧ r ≤ 9223372036854775807) ∧ (∀ x ∈ L, -9223372036854775808 ≤ x.2.1 ∧ x.2.1 ≤ 9223372036854775807)
      ∧ (∀ g ∈ G, (-9223372036854775808 ≤ g.1 ∧ g.1 ≤ 9223372036854775807) ∧ ∀ x ∈ g.2.2.2, ∀ p ∈ x.2.2, PageFine p) ∧ G.length ≤ 4398046511104 ∧ ∀ g ∈ G, g.2.2.2.length ≤ g.2.2.1 ∧ ∀ x ∈ g.2.2.2, x.2.2.length ≤ x.2.1 := by
  have ht : Try.prog.underlying 25 = some (.struct (fieldsOf Try.prog 25)) := by kernel_rfl
  have he : Try.prog.underlying 61 = some (.struct (fieldsOf Try.prog 61)) := by kernel_rfl
  have hc : Try.prog.underlying 22 = some (.slice 61) := by kernel_rfl
  have hg : Try.prog.underlying 23 = some (.slice 49) := by kernel_rfl
  obtain ⟨⟨cs⟩, rfl, hsz⟩ := okWide_struct ht hval
  have hh := Held.of h hlt hw
  simp only [Value.cells] at hh
  obtain ⟨x0, x1, x2, rfl⟩ := list3 (hh.partLen ht (n := 3) (by kernel_rfl))
  have p0 := hh.part ht 0 0 1 (ft := 22) (by kernel_rfl) (by kernel_rfl)
  have p1 := hh.part ht 1 1 1 (ft := 3) (by kernel_rfl) (by kernel_rfl)
  have p2 := hh.part ht 2 2 1 (ft := 23) (by kernel_rfl) (by kernel_rfl)
  obtain ⟨Ac, cc, L, h1, h2, _, h4, h5, h6⟩ := p0.recs (f := colV) (sz := 3) (by_ := 32) (Q := fun x => ((∀ z ∈ x.1, z < 256) ∧ x.1.length ≤ 140737488351232) ∧ -9223372036854775808 ≤ x.2.1 ∧ x.2.1 ≤ 9223372036854775807) ([], 0, false) hc (by kernel_rfl) (by kernel_rfl) (fun _ => rfl) (by omega) (fun cs hh => by
    obtain ⟨x0, x1, x2, rfl⟩ := list3 (hh.partLen he (n := 3) (by kernel_rfl))
    have p0 := hh.part he 0 0 1 (ft := 9) (by kernel_rfl) (by kernel_rfl)
    have p1 := hh.part he 1 1 1 (ft := 3) (by kernel_rfl) (by kernel_rfl)
    have p2 := hh.part he 2 2 1 (ft := 4) (by kernel_rfl) (by kernel_rfl)
    obtain ⟨nm, e1, e2, e3⟩ := p0.string (by kernel_rfl)
    obtain ⟨ty, e4, e5, e6⟩ := p1.i64 (by kernel_rfl)
    obtain ⟨nu, e7⟩ := p2.bool (by kernel_rfl)
    simp only [List.drop_succ_cons, List.drop_zero, List.take_succ_cons, List.take_zero, List.cons.injEq, and_true] at e1 e4 e7
    subst e1 e4 e7
    exact ⟨(nm, ty, nu), rfl, ⟨e2, e3⟩, e5, e6⟩)
  obtain ⟨r, h7, h8, h9⟩ := p1.i64 (by kernel_rfl)
  obtain ⟨Ag, cg, G, g1, g2, _, g4, g5, g6⟩ := p2.recs (f := grV) (sz := 2) (by_ := 32) (Q := GrFine W) (0, none, 0, []) hg (by kernel_rfl) (by kernel_rfl) (fun _ => rfl) (by omega) (fun cs hh => held_group hh)
  simp only [List.drop_succ_cons, List.drop_zero, List.take_succ_cons, List.take_zero, List.cons.injEq, and_true] at h1 h7 g1
  subst h1 h7 g1
  refine ⟨Ac, cc, L, r, Ag, cg, G, rfl, ⟨h5, fun x hx => (h6 x hx).1, h2, by unfold reachBytes at h4; omega, g5, by unfold reachBytes at g4; omega, fun g hg => (g6 g hg).1, fun g hg x hx => ((g6 g hg).2.1 x hx).1.1⟩, g2, ⟨h8, h9⟩, fun x hx => (h6 x hx).2, fun g hg => ⟨(g6 g hg).2.2.1, fun x hx => ((g6 g hg).2.1 x hx).1.2⟩, by unfold reachBytes at g4; omega, fun g hg => ⟨(g6 g hg).2.2.2, fun x hx => ((g6 g hg).2.1 x hx).2⟩⟩
theorem open_Fo (hval : Value.okWide Try.prog W .any base 25 v) (h : DataW.Trod enc Try.prog W 0 (fun _ => true) true 25 v d ps) (hlt : ∀ p ∈ ps, p.block < W.heap.size) (hw : ∀ n ∈ d.weights Try.prog 25, n ≤ reachBytes) :
    ∃ (Ac : Option Addr) (cc : Nat) (L : List ColS) (r : Int) (Ag : Option Addr) (cg : Nat) (G : List GrD), v = footA Ac cc L r Ag cg G ∧ FootIn W Ac cc L Ag G ∧ G.length ≤ cg ∧ (-9223372036854775808 ≤ r ∧ r ≤ 9223372036854775807) ∧ (∀ x ∈ L, -9223372036854775808 ≤ x.2.1 ∧ x.2.1 ≤ 9223372036854775807)
      ∧ ∀ g ∈ G, (-9223372036854775808 ≤ g.1 ∧ g.1 ≤ 9223372036854775807) ∧ ∀ x ∈ g.2.2.2, ∀ p ∈ x.2.2, PageFine p := by
  obtain ⟨Ac, cc, L, r, Ag, cg, G, h1, h2, h3, h4, h5, h6, _⟩ := open_Fo2 hval h hlt hw
  exact ⟨Ac, cc, L, r, Ag, cg, G, h1, h2, h3, h4, h5, h6⟩
end

end Go.Proofs.Ythmjbdpkdomofaa
/- Footers: what their groups have, one by one; plain lists. -/

namespace Go.Hm
open Go Go.RowKit
theorem sum_take_succ {α : Type} (f : α → Int) (l : List α) (k : Nat) (d : α) (h : k < l.length) : ((l.take (k + 1)).map f).sum = ((l.take k).map f).sum + f (l.getD k d) := by
  rw [take_snoc l k d h, List.map_append, List.sum_append]
  simp
theorem sum_take_le {α : Type} (f : α → Int) : ∀ (l : List α) (k : Nat), (∀ x ∈ l, 0 ≤ f x) → ((l.take k).map f).sum ≤ (l.map f).sum
  | [], _, _ => by simp
  | x :: l, 0, h => by
    have h1 := h x (by simp)
    have := sum_take_le f l 0 fun y hy => h y (by simp [hy])
    simp at this ⊢
    omega
  | x :: l, k + 1, h => by
    have := sum_take_le f l k fun y hy => h y (by simp [hy])
    simp only [List.take_succ_cons, List.map_cons, List.sum_cons]
    omega
theorem sum_nonneg {α : Type} (f : α → Int) : ∀ (l : List α), (∀ x ∈ l, 0 ≤ f x) → 0 ≤ (l.map f).sum
  | [], _ => by simp
  | x :: l, h => by
    have h1 := h x (by simp)
    have := sum_nonneg f l fun y hy => h y (by simp [hy])
    simp only [List.map_cons, List.sum_cons]
    omega
abbrev groupZ : GroupS := (0, [])
abbrev colZ : ColS := ([], 0, false)
theorem chunk_nonneg {t : Int} {nu : Bool} {l : List PageS} {r : Int} (h : ChunkOk t nu l r) : 0 ≤ sizesL l ∧ 0 ≤ r := by
  have := rowsL_pos h.1
  have := h.2
  omega
theorem GroupOk.sizes {cols : List ColS} {g : GroupS} (h : GroupOk cols g) : ∀ l ∈ g.2, 0 ≤ sizesL l := fun l hl => by
  obtain ⟨i, hi, rfl⟩ := List.getElem_of_mem hl
  have := h.2.2 i (by rw [← h.2.1]; exact hi)
  rw [List.getD_eq_getElem?_getD (l := g.2), List.getElem?_eq_getElem hi] at this
  exact (chunk_nonneg this).1
theorem GroupOk.nonneg {cols : List ColS} {g : GroupS} (h : GroupOk cols g) : 0 ≤ groupSize g := sum_nonneg _ _ h.sizes
/-- What stands ahead of a group and in it is no more than may be. -/
theorem foot_rows {F : FootS} (h : FootOk F) {k : Nat} (hk : k < F.groups.length) : ((F.groups.take k).map (·.1)).sum + (F.groups.getD k groupZ).1 ≤ 65536 := by
  have h1 := sum_take_succ (fun g : GroupS => g.1) F.groups k groupZ hk
  have h2 := sum_take_le (fun g : GroupS => g.1) F.groups (k + 1) (fun g hg => by have := (h.2.1 g hg).1; omega)
  have := h.2.2.1
  have := h.2.2.2.1
  omega
theorem foot_size {F : FootS} (h : FootOk F) {k c : Nat} (hk : k < F.groups.length) : ((F.groups.take k).map groupSize).sum + (((F.groups.getD k groupZ).2.take c).map sizesL).sum ≤ 1073741824 := by
  have hg : F.groups.getD k groupZ ∈ F.groups := mem_getDF groupZ hk
  have h1 := sum_take_succ groupSize F.groups k groupZ hk
  have h2 := sum_take_le groupSize F.groups (k + 1) (fun g hg => (h.2.1 g hg).nonneg)
  have h3 := sum_take_le sizesL (F.groups.getD k groupZ).2 c (h.2.1 _ hg).sizes
  have h4 := h.2.2.2.2
  have h5 : groupSize (F.groups.getD k groupZ) = ((F.groups.getD k groupZ).2.map sizesL).sum := rfl
  omega
theorem chunkS_bound {t : Int} {nu : Bool} : ∀ (l : List PageS) (rows size : Int), 0 ≤ rows → 0 ≤ size → 0 ≤ (chunkS t nu l rows size).1 ∧ (chunkS t nu l rows size).1 ≤ size + rows * 268435456
  | [], rows, size, h1, h2 => by simp only [chunkS]; omega
  | p :: l, rows, size, h1, h2 => by
    unfold chunkS
    split
    · rename_i hp
      have h3 := (pageB_most.1 hp).1
      have := chunkS_bound (t := t) (nu := nu) l (rows - p.2.1) (size + p.1) (by omega) (by omega)
      omega
    · dsimp only; omega
/-- The state ahead of a chunk of a group, if all ahead is right. -/
structure FootTo (L : List ColS) (G : List GroupS) (k : Nat) (rows size : Int) : Prop where
  ok : ∀ g ∈ G.take k, GroupOk L g
  rows_ : rows = ((G.take k).map (·.1)).sum
  size_ : size = ((G.take k).map groupSize).sum
  most : 0 ≤ rows ∧ rows ≤ 65536
  few : 0 ≤ size ∧ size ≤ 1073741824
theorem FootTo.zero (L : List ColS) (G : List GroupS) : FootTo L G 0 0 0 := ⟨by simp, by simp, by simp, by omega, by omega⟩
/-- .. and of a chunk within. -/
structure ChunkTo (L : List ColS) (G : List GroupS) (k c : Nat) (rows size : Int) : Prop where
  ok : ∀ g ∈ G.take k, GroupOk L g
  rows_ : rows = ((G.take k).map (·.1)).sum + (G.getD k groupZ).1
  size_ : size = ((G.take k).map groupSize).sum + (((G.getD k groupZ).2.take c).map sizesL).sum
  here : 1 ≤ (G.getD k groupZ).1 ∧ (G.getD k groupZ).2.length = L.length ∧ ∀ i, i < c → ChunkOk (L.getD i colZ).2.1 (L.getD i colZ).2.2 ((G.getD k groupZ).2.getD i []) (G.getD k groupZ).1
  most : (G.getD k groupZ).1 ≤ rows ∧ rows ≤ 65536
  few : 0 ≤ size ∧ size ≤ 1073741824
theorem FootTo.enter {L : List ColS} {G : List GroupS} {k : Nat} {rows size : Int} (h : FootTo L G k rows size) (h1 : 1 ≤ (G.getD k groupZ).1) (h2 : (G.getD k groupZ).1 ≤ 65536 - rows) (h3 : (G.getD k groupZ).2.length = L.length) :
    ChunkTo L G k 0 (rows + (G.getD k groupZ).1) size := by
  have := h.most
  exact ⟨h.ok, by rw [h.rows_], by rw [h.size_]; simp, ⟨h1, h3, fun i hi => by omega⟩, by omega, h.few⟩
theorem ChunkTo.next {L : List ColS} {G : List GroupS} {k c : Nat} {rows size : Int} (h : ChunkTo L G k c rows size) (hc : c < (G.getD k groupZ).2.length) (h1 : ChunkOk (L.getD c colZ).2.1 (L.getD c colZ).2.2 ((G.getD k groupZ).2.getD c []) (G.getD k groupZ).1)
    (h2 : size + sizesL ((G.getD k groupZ).2.getD c []) ≤ 1073741824) : ChunkTo L G k (c + 1) rows (size + sizesL ((G.getD k groupZ).2.getD c [])) := by
  have h3 := (chunk_nonneg h1).1
  have h4 := h.few
  refine ⟨h.ok, h.rows_, ?_, ⟨h.here.1, h.here.2.1, fun i hi => ?_⟩, h.most, by omega⟩
  · rw [sum_take_succ sizesL _ c [] hc, h.size_]; omega
  · by_cases e : i = c
    · subst e; exact h1
    · exact h.here.2.2 i (by omega)
theorem ChunkTo.leave {L : List ColS} {G : List GroupS} {k c : Nat} {rows size : Int} (h : ChunkTo L G k c rows size) (hc : c = (G.getD k groupZ).2.length) (hk : k < G.length) : FootTo L G (k + 1) rows size := by
  subst hc
  have hm := h.most
  have h1 := h.here.1
  refine ⟨fun g hg => ?_, by rw [h.rows_, sum_take_succ (fun g : GroupS => g.1) G k groupZ hk], ?_, by omega, h.few⟩
  · rw [take_snoc G k groupZ hk] at hg
    rcases List.mem_append.1 hg with hg | hg
    · exact h.ok g hg
    · rw [List.mem_singleton.1 hg]
      exact ⟨h.here.1, h.here.2.1, fun i hi => h.here.2.2 i (by rw [h.here.2.1]; exact hi)⟩
  · rw [sum_take_succ groupSize G k groupZ hk, h.size_, List.take_length]
    rfl
theorem FootTo.no_rows {L : List ColS} {G : List GroupS} {k : Nat} {rows size r : Int} (h : FootTo L G k rows size) (hk : k < G.length) (hb : (G.getD k groupZ).1 < 1 ∨ 65536 - rows < (G.getD k groupZ).1 ∨ (G.getD k groupZ).2.length ≠ L.length) : ¬ FootOk ⟨L, r, G⟩ := fun hF => by
  have hg := hF.2.1 (G.getD k groupZ) (mem_getDF groupZ hk)
  have h1 := foot_rows hF hk
  have h2 := h.rows_
  dsimp only at h1
  rcases hb with hb | hb | hb
  · have := hg.1; omega
  · omega
  · exact hb hg.2.1
theorem ChunkTo.no_chunk {L : List ColS} {G : List GroupS} {k c : Nat} {rows size r : Int} (h : ChunkTo L G k c rows size) (hk : k < G.length) (hc : c < (G.getD k groupZ).2.length)
    (hb : ¬ ChunkOk (L.getD c colZ).2.1 (L.getD c colZ).2.2 ((G.getD k groupZ).2.getD c []) (G.getD k groupZ).1 ∨ 1073741824 < size + sizesL ((G.getD k groupZ).2.getD c [])) : ¬ FootOk ⟨L, r, G⟩ := fun hF => by
  have hg := hF.2.1 (G.getD k groupZ) (mem_getDF groupZ hk)
  rcases hb with hb | hb
  · exact hb (hg.2.2 c (by dsimp only; rw [← h.here.2.1]; exact hc))
  · have h1 := foot_size hF (k := k) (c := c + 1) hk
    dsimp only at h1
    rw [sum_take_succ sizesL _ c [] hc] at h1
    have := h.size_
    omega
theorem FootTo.yes {L : List ColS} {G : List GroupS} {rows size r : Int} (h : FootTo L G G.length rows size) (hc : ColsOk L) : FootOk ⟨L, r, G⟩ ↔ rows = r := by
  have h1 := h.rows_
  have h2 := h.size_
  rw [List.take_length] at h1 h2
  have h3 := h.most
  have h4 := h.few
  have hok := h.ok
  rw [List.take_length] at hok
  constructor
  · intro hF
    have := hF.2.2.1
    dsimp only at this
    omega
  · intro e
    exact ⟨hc, hok, by dsimp only; omega, by dsimp only; omega, by dsimp only; omega⟩
/-- A group of a row, as the walk reads it. -/
theorem Reads.gr2 {w : World} {B n i : Nat} {A : Option Addr} {l : List GrD} (h : Reads w B 2 A n (recs grV l)) (hi : i < n) :
    ∃ ad, A = some ad ∧ ad.block < B ∧ w.cell? (ad.add (i * 2)) = some (.int .i64 (l.getD i (0, none, 0, [])).1) ∧ w.cell? ⟨(ad.add (i * 2)).block, (ad.add (i * 2)).off + 1, none⟩ = some (.slice (l.getD i (0, none, 0, [])).2.1 (l.getD i (0, none, 0, [])).2.2.2.length (l.getD i (0, none, 0, [])).2.2.1) := by
  obtain ⟨ad, h1, h2, _, h3⟩ := h.rec_ (f := grV) (sz := 2) (fun _ => rfl) (0, none, 0, []) hi (by omega)
  refine ⟨ad, h1, h2, h3 0 _ rfl, ?_⟩
  have := h3 1 _ rfl
  rw [← add_of_add] at this
  exact this
theorem Reads.ch1 {w : World} {B n i : Nat} {A : Option Addr} {l : List ChD} (h : Reads w B 1 A n (recs chV l)) (hi : i < n) :
    ∃ ad, A = some ad ∧ ad.block < B ∧ w.cell? (ad.add i) = some (.slice (l.getD i (none, 0, [])).1 (l.getD i (none, 0, [])).2.2.length (l.getD i (none, 0, [])).2.1) := by
  obtain ⟨ad, h1, h2, _, h3⟩ := h.rec_ (f := chV) (sz := 1) (fun _ => rfl) (none, 0, []) hi (by omega)
  refine ⟨ad, h1, h2, ?_⟩
  have := h3 0 _ rfl
  rw [Nat.mul_one] at this
  exact this

end Go.Hm
/- The contract of footer.Right. -/

namespace Go.Hm
open Go Go.RowKit
abbrev grZ : GrD := (0, none, 0, [])
abbrev chZ : ChD := (none, 0, [])
open Classical in
noncomputable def rightF (F : FootS) : Bool := decide (FootOk F)
theorem rightF_yes {F : FootS} (h : FootOk F) : rightF F = true := by unfold rightF; simp [h]
theorem rightF_no {F : FootS} (h : ¬ FootOk F) : rightF F = false := by unfold rightF; simp [h]
theorem getD_mapX {α β : Type} (f : α → β) (l : List α) {k : Nat} (d : α) (e : β) (hk : k < l.length) : (l.map f).getD k e = f (l.getD k d) := by
  rw [List.getD_eq_getElem?_getD, List.getElem?_map, List.getElem?_eq_getElem hk, List.getD_eq_getElem?_getD, List.getElem?_eq_getElem hk]
  rfl

end Go.Hm

namespace Go.Proofs.Ythmjbdpkdomofaa
open Go.RowKit Go.Hm
set_option maxHeartbeats 4000000 in
set_option maxRecDepth 100000 in
theorem fright_any {w : World} {Ac : Option Addr} {cc : Nat} {L : List ColS} {r : Int} {Ag : Option Addr} {cg : Nat} {G : List GrD} (h : FootIn w Ac cc L Ag G) (hp : ∀ g ∈ G, ∀ x ∈ g.2.2.2, ∀ p ∈ x.2.2, statFine p.2.2) :
    Calls Try.prog 37 #[footA Ac cc L r Ag cg G] w (NewPost (.bool (rightF (footP L r G))) w) := by
  have CK := Lib.hid (fun (W : World) (hW : New w W) => cols_any (c := cc) (Reads.later h.cols hW) h.fine h.cap h.few)
  have HG := Lib.hid h.groups
  have HL := Lib.hid h.cols
  have hfew := h.few
  have hfew2 := h.few2
  have HCH := Lib.hid h.chunks
  have HPG := Lib.hid h.pages
  have HP := Lib.hid hp
  have HY := Lib.hid (fun e : FootOk (footP L r G) => rightF_yes e)
  have HN := Lib.hid (fun e : ¬ FootOk (footP L r G) => rightF_no e)
  have hz : FootTo L (G.map grP) 0 0 0 := FootTo.zero _ _
  have HZ := Lib.hid hz
  clear h hp hz
  generalize rightF (footP L r G) = M at *
  unfold footP at HY HN
  have HMap := Lib.hid (fun (k : Nat) (hk : k < G.length) => getD_mapX grP G (k := k) grZ groupZ hk)
  have HLen := Lib.hid (show (G.map grP).length = G.length from List.length_map ..)
  generalize hGP : G.map grP = GP at *
  have hck := colsCk_iff L
  clear hGP
  show Calls Try.prog 37 #[.agg #[.slice Ac L.length cc, .int .i64 r, .slice Ag G.length cg]] w (NewPost (.bool M) w)
  have B0 := Blk.new w 25 #[.slice Ac L.length cc, .int .i64 r, .slice Ag G.length cg]
  have b0 : New w (w.alloc (.cells #[.slice Ac L.length cc, .int .i64 r, .slice Ag G.length cg] 25)) := (Below.refl _ _).alloc (Nat.le_refl _) _
  obtain ⟨x0, x1, x2⟩ := ccells B0
  go_enter Try.func37, Try.ntmps37
  go_wp2_with fail
  refine (CK.out _ b0).mono ?_
  rintro e w1 ⟨rfl, b1⟩
  have B1 := B0.below b1 B0.lt
  have b01 := New.trans b0 b1
  clear CK B0 b0 b1 x0 x1 x2
  obtain ⟨x0, x1, x2⟩ := ccells B1
  by_cases hk0 : colsCk L = 0
  · have hcok := hck.1 hk0
    have HCO := Lib.hid hcok
    rw [hk0]
    clear hck hk0 hcok
    go_wp2_with fail
    clear x0 x1 x2
    go_loopw [3, 4, 18] (fun a s i wr => ∃ (k : Nat) (rows size : Int), k ≤ G.length ∧ i = .int .i64 (k : Int) ∧ a = .int .i64 rows ∧ s = .int .i64 size ∧ Hid (FootTo L GP k rows size) ∧ (0 ≤ rows ∧ rows ≤ 65536) ∧ (0 ≤ size ∧ size ≤ 1073741824)
      ∧ Blk wr w.heap.size 25 #[.slice Ac L.length cc, .int .i64 r, .slice Ag G.length cg] ∧ New w wr) (fun _ _ i _ => G.length - (intOf i).toNat)
    case atStart => exact ⟨0, 0, 0, Nat.zero_le _, rfl, rfl, rfl, HZ, by omega, by omega, B1, b01⟩
    case round =>
      obtain ⟨k, rows, size, hk, rfl, rfl, rfl, H, hrw, hsz, B, b⟩ := hrel
      clear HZ B1 b01
      by_cases hlt : k < G.length
      · obtain ⟨ad, rfl, hb, d0, d1⟩ := (Reads.later HG.out b).gr2 hlt
        have hgm := mem_getDF grZ hlt
        have hch := HCH.out _ hgm
        have hpg := HPG.out _ hgm
        have hpp := HP.out _ hgm
        have hmap := HMap.out k hlt
        have hltP : k < GP.length := by rw [HLen.out]; exact hlt
        generalize G.getD k grZ = g at *
        obtain ⟨gr, Ach, cch, D⟩ := g
        dsimp only at d0 d1 hch hpg hpp
        unfold grP at hmap
        dsimp only at hmap
        have hl2 : (GP.getD k groupZ).2.length = D.length := by rw [hmap]; exact List.length_map ..
        have hg1 : (GP.getD k groupZ).1 = gr := by rw [hmap]
        have HM2 := Lib.hid (fun (c : Nat) (hc : c < D.length) => show (GP.getD k groupZ).2.getD c [] = (D.getD c chZ).2.2 by rw [hmap]; exact getD_mapX (fun x : ChD => x.2.2) D chZ [] hc)
        have NR := Lib.hid (fun hb => HN.out (H.out.no_rows (r := r) hltP hb))
        have EN := Lib.hid (fun h1 h2 h3 => H.out.enter h1 h2 h3)
        rw [hl2, hg1] at NR EN
        have HL2 := Lib.hid hl2
        have HG1 := Lib.hid hg1
        have HCHk := Lib.hid hch.1
        have hchl := hch.2
        have HPGk := Lib.hid hpg
        have HPPk := Lib.hid hpp
        have HLTP := Lib.hid hltP
        clear hmap hl2 hg1 hch hpg hpp hgm hb H hltP
        have ha : New wr (wr.alloc (.cells #[.int .i64 gr, .slice Ach D.length cch] 49)) := (Below.refl _ _).alloc (Nat.le_refl _) _
        have BG := Blk.new wr 49 #[.int .i64 gr, .slice Ach D.length cch]
        have B2 := B.below ha B.lt
        have b2 := New.trans b ha
        obtain ⟨y0, y1, y2⟩ := ccells B2
        obtain ⟨z0, z1⟩ := cells2 BG
        clear B b ha
        by_cases h1 : gr < 1
        · have hM := Lib.hid (NR.out (.inl h1))
          clear NR EN
          go_wp2
          go_ret
          exact ⟨by rw [hM.out]; rfl, b2⟩
        by_cases h2 : 65536 - rows < gr
        · have hM := Lib.hid (NR.out (.inr (.inl h2)))
          clear NR EN
          go_wp2
          go_ret
          exact ⟨by rw [hM.out]; rfl, b2⟩
        by_cases h3 : D.length = L.length
        · have t3 : ((D.length : Int) != (L.length : Int)) = false := by simp; omega
          have hE := EN.out (by omega) (by omega) h3
          have HE := Lib.hid hE
          have hDL : D.length ≤ L.length := by omega
          have H3 := Lib.hid h3
          clear NR EN hE h3
          go_wp2_with fail
          clear y0 y1 y2 z0 z1 d0 d1 t3
          generalize wr.heap.size = gB at *
          go_loopw [4, 48] (fun s i wr => ∃ (c : Nat) (sz : Int), c ≤ D.length ∧ i = .int .i64 (c : Int) ∧ s = .int .i64 sz ∧ Hid (ChunkTo L GP k c (rows + gr) sz) ∧ (0 ≤ sz ∧ sz ≤ 1073741824)
            ∧ Blk wr w.heap.size 25 #[.slice Ac L.length cc, .int .i64 r, .slice (some ad) G.length cg] ∧ Blk wr gB 49 #[.int .i64 gr, .slice Ach D.length cch] ∧ New w wr) (fun _ i _ => D.length - (intOf i).toNat)
          case atStart => exact ⟨0, size, Nat.zero_le _, rfl, rfl, HE, hsz, B2, BG, b2⟩
          case round =>
            obtain ⟨c, sz, hc, rfl, rfl, H, hsz2, B, BGq, bq⟩ := hrel
            clear HE B2 BG b2
            by_cases hlc : c < D.length
            · have hcL : c < L.length := by omega
              obtain ⟨ac, rfl, hbc, e0⟩ := (Reads.later HCHk.out bq).ch1 hlc
              obtain ⟨al, rfl, hbl, -⟩ := (Reads.later HL.out bq).colT hcL
              have hxm := mem_getDF chZ hlc
              have hpx := HPGk.out _ hxm
              have hsx := HPPk.out _ hxm
              have hm2 := HM2.out c hlc
              have NC := Lib.hid (fun hb => HN.out (H.out.no_chunk (r := r) HLTP.out (by rw [HL2.out]; exact hlc) hb))
              have NX := Lib.hid (fun h1 h2 => H.out.next (by rw [HL2.out]; exact hlc) h1 h2)
              rw [hm2, HG1.out] at NC NX
              have FC := Lib.hid (fun (W : World) (hW : New w W) => show (W.cell? (al.add (c * 3)) = some (.string (bstr (L.getD c colZ).1)) ∧ W.cell? ⟨(al.add (c * 3)).block, (al.add (c * 3)).off + 1, none⟩ = some (.int .i64 (L.getD c colZ).2.1) ∧ W.cell? ⟨(al.add (c * 3)).block, (al.add (c * 3)).off + 2, none⟩ = some (.bool (L.getD c colZ).2.2)) from by
                obtain ⟨al', e, _, f⟩ := (Reads.later HL.out hW).colT hcL
                injection e with e
                subst e
                exact f)
              generalize D.getD c chZ = x at *
              obtain ⟨Ax, cx, pl⟩ := x
              dsimp only at e0 hpx hsx NC NX
              have CSZ := fun (W : World) (hW : New w W) => chunkSize_any (c := L.getD c colZ) (cap := cx) (rows := gr) (Reads.later hpx.1 hW) hsx hpx.2 (by omega)
              have hiff := chunkS_iff (t := (L.getD c colZ).2.1) (nu := (L.getD c colZ).2.2) pl gr 0 (by omega)
              have hbd := chunkS_bound (t := (L.getD c colZ).2.1) (nu := (L.getD c colZ).2.2) pl gr 0 (by omega) (by omega)
              generalize L.getD c colZ = col at *
              obtain ⟨nm, t, nu⟩ := col
              dsimp only at hiff hbd NC NX CSZ
              unfold SizePost at CSZ
              generalize chunkS t nu pl gr 0 = S at *
              obtain ⟨sn, so⟩ := S
              dsimp only at hiff hbd CSZ
              have CSZ : Hid (∀ W, New w W → Calls Try.prog 52 #[.agg #[.string (bstr nm), .int .i64 t, .bool nu], .slice Ax pl.length cx, .int .i64 gr] W (fun e w' => e = .returned (.tuple #[.int .i64 sn, .bool so]) ∧ New W w')) := Lib.hid CSZ
              have HIF := Lib.hid hiff
              clear hiff hpx hsx hm2 hxm hbc hbl H
              obtain ⟨y0, y1, y2⟩ := ccells B
              obtain ⟨z0, z1⟩ := cells2 BGq
              dsimp only at FC
              go_wp2_with fail
              refine wp_region_up New [(true, 0), (true, 1), (true, 2), (true, 3), (true, 4), (true, 5), (true, 6), (true, 7), (false, 8), (true, 9), (true, 10), (true, 11), (true, 12), (true, 13)]
                New.refl New.trans (by kernel_rfl) (by kernel_rfl) (by kernel_rfl) (by kernel_rfl) ?_
              have F := Lib.hid (fun (W : World) (hW : New wr W) => And.intro (B.below hW B.lt) (BGq.below hW BGq.lt))
              have hU := New.drew wr
              clear y0 y1 y2 z0 z1 e0
              repeat (first
                | (refine up_quiet rfl rfl (v := ?_) (fun W hQ => ?_) ?_; rotate_left; (obtain ⟨f0, f1, f2⟩ := FC.out W (New.trans bq (New.trans hU hQ)); obtain ⟨F1, F2⟩ := F.out W (New.trans hU hQ); obtain ⟨y0, y1, y2⟩ := ccells F1; obtain ⟨z0, z1⟩ := cells2 F2; clear F1 F2; go_simp <;> with_reducible rfl); simp only [Act.put, List.setIfInBounds_toArray, List.set_cons_zero, List.set_cons_succ]))
              refine up_call rfl rfl (fun K0 hK0 => ?_)
              go_simp
              (with_reducible refine (CSZ.out _ (New.trans bq hU)).mono ?_)
              rintro e u ⟨rfl, bu⟩
              refine hK0 _ _ bu ?_
              replace hU := New.trans hU bu
              clear hK0 bu
              repeat (first
                | (refine up_quiet rfl rfl (v := ?_) (fun W hQ => ?_) ?_; rotate_left; (go_simp <;> with_reducible rfl); simp only [Act.put, List.setIfInBounds_toArray, List.set_cons_zero, List.set_cons_succ]))
              refine up_nil ?_
              obtain ⟨B3, BG3⟩ := F.out _ hU
              have b3 := New.trans bq hU
              clear F FC CSZ hU B BGq bq
              cases so with
              | false =>
                have hM := Lib.hid (NC.out (.inl (fun hh => by have := HIF.out.1.2 hh; simp at this)))
                clear NC NX HIF
                go_wp2
                go_ret
                exact ⟨by rw [hM.out]; rfl, b3⟩
              | true =>
                have hco := HIF.out.1.1 (by trivial)
                have hsn := HIF.out.2 hco
                rw [Int.zero_add] at hsn
                by_cases hbig : 1073741824 < sz + sn
                · have hM := Lib.hid (NC.out (.inr (by rw [← hsn]; exact hbig)))
                  clear NC NX HIF hco hsn
                  go_wp2
                  go_ret
                  exact ⟨by rw [hM.out]; rfl, b3⟩
                · have hN := Lib.hid (NX.out hco (by rw [← hsn]; omega))
                  rw [← hsn] at hN
                  clear NC NX HIF hco hsn
                  go_wp2
                  go_roundw
                  case rel => exact ⟨c + 1, sz + sn, by omega, by go_num, rfl, hN, by omega, B3, BG3, b3⟩
                  case measure => simp [intOf]; omega
            · obtain rfl : c = D.length := by omega
              have hLv := Lib.hid (H.out.leave (by rw [HL2.out]) HLTP.out)
              have hrr := H.out.most
              rw [HG1.out] at hrr
              clear H
              go_wp2
              go_roundw
              case rel => exact ⟨k + 1, rows + gr, sz, by omega, by go_num, rfl, rfl, hLv, by omega, hsz2, B, bq⟩
              case measure => simp [intOf]; omega
        · have t3 : ((D.length : Int) != (L.length : Int)) = true := by simp; omega
          have hM := Lib.hid (NR.out (.inr (.inr h3)))
          clear NR EN h3
          go_wp2
          go_ret
          exact ⟨by rw [hM.out]; rfl, b2⟩
      · obtain rfl : k = G.length := by omega
        have hY := H.out
        rw [← HLen.out] at hY
        have hY := hY.yes (r := r) HCO.out
        obtain ⟨x0, x1, x2⟩ := ccells B
        by_cases he : rows = r
        · have hM := Lib.hid (HY.out (hY.2 he))
          have t1 : (rows == r) = true := by simpa using he
          clear hY HY HN H he
          go_wp2
          go_ret
          exact ⟨by rw [hM.out]; rfl, b⟩
        · have hM := Lib.hid (HN.out (fun hF => he (hY.1 hF)))
          have t1 : (rows == r) = false := by simpa using he
          clear hY HY HN H he
          go_wp2
          go_ret
          exact ⟨by rw [hM.out]; rfl, b⟩
  · have hM := Lib.hid (HN.out (fun hF => hk0 (hck.2 hF.1)))
    have t1 : (colsCk L != 0) = true := by simpa using hk0
    clear HY HN hck hk0
    generalize colsCk L = ck at *
    go_wp2
    go_ret
    exact ⟨by rw [hM.out]; rfl, b01⟩

end Go.Proofs.Ythmjbdpkdomofaa
/- Spans of rows, as plain lists, and what is over rows. No program is named here. -/

namespace Go.Hm

def spanN (f t s : Nat) : Nat := (t - f + s - 1) / s
def spanAt (f t s i : Nat) : Int × Int := (((f + i * s : Nat) : Int), ((min (f + (i + 1) * s) t : Nat) : Int))
def spansN (f t s : Nat) : List (Int × Int) := (List.range (spanN f t s)).map (spanAt f t s)
theorem spanN_lt {f t s : Nat} (hs : 0 < s) (k : Nat) : k < spanN f t s ↔ f + k * s < t := by
  unfold spanN
  rw [← Nat.succ_le_iff, Nat.le_div_iff_mul_le hs, Nat.succ_mul]
  omega
theorem spanN_le {f t s : Nat} (hs : 0 < s) : spanN f t s ≤ t - f := by
  rcases Nat.eq_zero_or_pos (spanN f t s) with h | h
  · omega
  · have := (spanN_lt (f := f) (t := t) hs (spanN f t s - 1)).1 (by omega)
    have : spanN f t s - 1 ≤ (spanN f t s - 1) * s := Nat.le_mul_of_pos_right _ hs
    omega
theorem spansN_len (f t s : Nat) : (spansN f t s).length = spanN f t s := by simp [spansN]
theorem spansN_at {f t s i : Nat} (hi : i < spanN f t s) : (spansN f t s).getD i (0, 0) = spanAt f t s i := by
  simp [spansN, List.getD_eq_getElem?_getD, List.getElem?_map, List.getElem?_range hi]
theorem spansN_take {f t s k : Nat} (hk : k < spanN f t s) : (spansN f t s).take (k + 1) = (spansN f t s).take k ++ [spanAt f t s k] := by
  rw [take_snoc _ k (0, 0) (by rw [spansN_len]; exact hk), spansN_at hk]
/-- How many rows are behind k spans. -/
def atN (f t s k : Nat) : Nat := min (f + k * s) t
theorem atN_next {f t s k : Nat} (hk : f + k * s < t) : atN f t s k = f + k * s ∧ atN f t s (k + 1) = atN f t s k + min s (t - atN f t s k) ∧ spanAt f t s k = ((atN f t s k : Int), (atN f t s (k + 1) : Int)) := by
  have h1 : atN f t s k = f + k * s := by unfold atN; omega
  refine ⟨h1, ?_, ?_⟩
  · rw [h1]; unfold atN; rw [Nat.succ_mul]; omega
  · rw [h1]; rfl

def cutS (f t s : Int) : List (Int × Int) := if f < 0 ∨ t ≤ f ∨ 65536 < t ∨ s < 1 then [] else spansN f.toNat t.toNat s.toNat
theorem cutS_none {f t s : Int} (h : f < 0 ∨ t ≤ f ∨ 65536 < t ∨ s < 1) : cutS f t s = [] := by rw [cutS, if_pos h]
theorem cutS_nat {f t s : Nat} (h1 : f < t) (h2 : t ≤ 65536) (h3 : 0 < s) : cutS f t s = spansN f t s := by
  rw [cutS, if_neg (by omega)]; simp
theorem cutS_len (f t s : Int) : (cutS f t s).length ≤ 65536 := by
  unfold cutS
  split
  · simp
  · rw [spansN_len]
    have := spanN_le (f := f.toNat) (t := t.toNat) (s := s.toNat) (by omega)
    omega

/-- A span has rows from f on, ahead of t. -/
def hasS (x : Int × Int) (f t : Int) : Prop := x.1 < t ∧ f < x.2 ∧ f < t
instance (x : Int × Int) (f t : Int) : Decidable (hasS x f t) := by unfold hasS; exact inferInstance
/-- Just the spans from a on, ahead of b, have rows of these. -/
def IsOver (l : List (Int × Int)) (f t : Int) (a b : Nat) : Prop := a ≤ b ∧ b ≤ l.length ∧ (a < b ∨ a = 0 ∧ b = 0) ∧ ∀ i, i < l.length → ((a ≤ i ∧ i < b) ↔ hasS (l.getD i (0, 0)) f t)
theorem IsOver.one {l : List (Int × Int)} {f t : Int} {a b c d : Nat} (h : IsOver l f t a b) (k : IsOver l f t c d) : a = c ∧ b = d := by
  obtain ⟨h1, h2, h3, h4⟩ := h
  obtain ⟨k1, k2, k3, k4⟩ := k
  have key : ∀ i, i < l.length → ((a ≤ i ∧ i < b) ↔ (c ≤ i ∧ i < d)) := fun i hi => (h4 i hi).trans (k4 i hi).symm
  rcases h3 with h3 | ⟨rfl, rfl⟩
  · have := (key a (by omega)).1 ⟨Nat.le_refl _, h3⟩
    have := (key (b - 1) (by omega)).1 (by omega)
    have := (key c (by omega)).2 (by omega)
    have := (key (d - 1) (by omega)).2 (by omega)
    omega
  · rcases k3 with k3 | ⟨rfl, rfl⟩
    · have := (key c (by omega)).2 (by omega)
      omega
    · exact ⟨rfl, rfl⟩
/-- Both ends of the spans go up, and no span is empty. -/
def UpS (l : List (Int × Int)) : Prop := (∀ i j, i ≤ j → j < l.length → (l.getD i (0, 0)).1 ≤ (l.getD j (0, 0)).1 ∧ (l.getD i (0, 0)).2 ≤ (l.getD j (0, 0)).2) ∧ ∀ i, i < l.length → (l.getD i (0, 0)).1 < (l.getD i (0, 0)).2
theorem spansN_up {f t s : Nat} (hs : 0 < s) : UpS (spansN f t s) := by
  refine ⟨fun i j hij hj => ?_, fun i hi => ?_⟩
  · rw [spansN_len] at hj
    rw [spansN_at hj, spansN_at (by omega)]
    have h1 : i * s ≤ j * s := Nat.mul_le_mul_right _ hij
    have h2 : (i + 1) * s ≤ (j + 1) * s := Nat.mul_le_mul_right _ (by omega)
    unfold spanAt
    simp only
    omega
  · rw [spansN_len] at hi
    rw [spansN_at hi]
    have := (spanN_lt hs i).1 hi
    unfold spanAt
    simp only
    rw [Nat.succ_mul]
    omega
theorem cutS_up (f t s : Int) : UpS (cutS f t s) := by
  unfold cutS
  split
  · exact ⟨fun i j _ h => by simp at h, fun i h => by simp at h⟩
  · exact spansN_up (by omega)
theorem over_of {l : List (Int × Int)} {f t : Int} {x y : Nat} (hft : f < t) (hy : y ≤ l.length) (hxy : x < y)
    (h1 : ∀ i, i < x → (l.getD i (0, 0)).2 ≤ f) (h2 : ∀ i, x ≤ i → i < l.length → f < (l.getD i (0, 0)).2) (h3 : ∀ i, i < y → (l.getD i (0, 0)).1 < t) (h4 : ∀ i, y ≤ i → i < l.length → t ≤ (l.getD i (0, 0)).1) : IsOver l f t x y := by
  refine ⟨by omega, hy, .inl hxy, fun i hi => ?_⟩
  unfold hasS
  have a1 := h1 i
  have a2 := h2 i
  have a3 := h3 i
  have a4 := h4 i
  constructor
  · rintro ⟨b1, b2⟩
    exact ⟨a3 b2, a2 b1 hi, hft⟩
  · rintro ⟨b1, b2, _⟩
    refine ⟨?_, ?_⟩
    · rcases Nat.lt_or_ge i x with h | h
      · have := a1 h; omega
      · exact h
    · rcases Nat.lt_or_ge i y with h | h
      · exact h
      · have := a4 h hi; omega
theorem over_none {l : List (Int × Int)} {f t : Int} (h : ∀ i, i < l.length → ¬ hasS (l.getD i (0, 0)) f t) : IsOver l f t 0 0 :=
  ⟨Nat.le_refl _, by omega, .inr ⟨rfl, rfl⟩, fun i hi => ⟨fun h' => by omega, fun h' => absurd h' (h i hi)⟩⟩
theorem over_far {l : List (Int × Int)} {f t : Int} {x y : Nat} (hxy : y ≤ x) (h1 : ∀ i, i < x → (l.getD i (0, 0)).2 ≤ f) (h4 : ∀ i, y ≤ i → i < l.length → t ≤ (l.getD i (0, 0)).1) : IsOver l f t 0 0 := by
  refine over_none fun i hi hh => ?_
  obtain ⟨b1, b2, _⟩ := hh
  rcases Nat.lt_or_ge i x with h | h
  · have := h1 i h; omega
  · have := h4 i (by omega) hi; omega
/-- What has rows lies side by side. -/
theorem has_between {l : List (Int × Int)} (hu : UpS l) {f t : Int} {i j k : Nat} (hij : i ≤ j) (hjk : j ≤ k) (hk : k < l.length) (hi : hasS (l.getD i (0, 0)) f t) (h : hasS (l.getD k (0, 0)) f t) : hasS (l.getD j (0, 0)) f t := by
  have h1 := hu.1 j k hjk hk
  have h2 := hu.1 i j hij (by omega)
  unfold hasS at *
  omega

end Go.Hm
/- Contracts of package layout's Cut, and of its answer. -/

namespace Go.Proofs.Ythmjbdpkdomofaa
open Go.RowKit Go.Hm
theorem elP : ElT Try.prog 41 44 (.agg #[.int .i64 0, .int .i64 0]) 2 16 := ⟨by kernel_rfl, by kernel_rfl, rfl, by omega⟩
/-- Spans, a row of the call's own. -/
def SpansPost (l : List (Int × Int)) (w : World) (e : Ending) (w' : World) : Prop := ∃ A n c, e = .returned (.slice A n c) ∧ w'.ownsRow w.heap.size 44 2 (.slice A n c) n (pairs l) ∧ New w w'
theorem pairs_snoc (l : List (Int × Int)) (p : Int × Int) : pairs (l ++ [p]) = pairs l ++ [.int .i64 p.1, .int .i64 p.2] := by simp [pairs]



end Go.Proofs.Ythmjbdpkdomofaa
/- footer.hasChunk and footer.Spans: contracts. -/

namespace Go.Hm
open Go Go.RowKit
/-- Whether a footer of so many columns and groups has chunk c of group g. -/
def inB (nl ng : Nat) (g c : Int) : Bool := decide (0 ≤ g ∧ g < (ng : Int) ∧ 0 ≤ c ∧ c < (nl : Int))
/-- The spans of a chunk's pages, from a row on. -/
def spansL (a : Int) : List PageS → List (Int × Int)
  | [] => []
  | p :: l => (a, a + p.2.1) :: spansL (a + p.2.1) l
theorem spansL_snoc (a : Int) : ∀ (l : List PageS) (p : PageS), spansL a (l ++ [p]) = spansL a l ++ [(a + rowsL l, a + rowsL l + p.2.1)]
  | [], p => by simp [spansL, rowsL]
  | q :: l, p => by
    have e : a + q.2.1 + rowsL l = a + rowsL (q :: l) := by rw [rowsL_cons]; omega
    simp only [List.cons_append, spansL, spansL_snoc (a + q.2.1) l p, e]
theorem spansL_len (a : Int) : ∀ l : List PageS, (spansL a l).length = l.length
  | [] => rfl
  | p :: l => by simp [spansL, spansL_len _ l]
theorem rowsL_snoc (l : List PageS) (p : PageS) : rowsL (l ++ [p]) = rowsL l + p.2.1 := by simp [rowsL]
/-- Rows of the groups ahead of group k. -/
def aheadR (G : List GroupS) (k : Nat) : Int := ((G.take k).map (·.1)).sum
/-- The pages of chunk c of group g. -/
def pagesAt (G : List GroupS) (g c : Nat) : List PageS := (G.getD g groupZ).2.getD c []
noncomputable def spansF (F : FootS) (g c : Int) : List (Int × Int) :=
  if rightF F && inB F.cols.length F.groups.length g c then spansL (aheadR F.groups g.toNat) (pagesAt F.groups g.toNat c.toNat) else []
theorem foot_group {F : FootS} (h : FootOk F) {k : Nat} (hk : k < F.groups.length) : GroupOk F.cols (F.groups.getD k groupZ) := h.2.1 _ (mem_getDF groupZ hk)

end Go.Hm

namespace Go.Proofs.Ythmjbdpkdomofaa
open Go.RowKit Go.Hm
set_option maxHeartbeats 2000000 in
set_option maxRecDepth 100000 in
theorem hasChunk_any {w : World} {Ac Ag : Option Addr} {nl cc ng cg : Nat} {r g c : Int} :
    Calls Try.prog 38 #[.agg #[.slice Ac nl cc, .int .i64 r, .slice Ag ng cg], .int .i64 g, .int .i64 c] w (NewPost (.bool (inB nl ng g c)) w) := by
  have B0 := Blk.new w 25 #[.slice Ac nl cc, .int .i64 r, .slice Ag ng cg]
  have b0 : New w (w.alloc (.cells #[.slice Ac nl cc, .int .i64 r, .slice Ag ng cg] 25)) := (Below.refl _ _).alloc (Nat.le_refl _) _
  obtain ⟨x0, x1, x2⟩ := ccells B0
  obtain ⟨R, hR⟩ : ∃ R, R = inB nl ng g c := ⟨_, rfl⟩
  rw [← hR]
  unfold inB at hR
  by_cases h1 : 0 ≤ g <;> by_cases h2 : g < (ng : Int) <;> by_cases h3 : 0 ≤ c <;> by_cases h4 : c < (nl : Int)
  all_goals
    first
      | (have e : R = true := by rw [hR]; simp; omega)
      | (have e : R = false := by rw [hR]; simp; omega)
    subst e
    clear hR
    go_enter Try.func38, Try.ntmps38
    go_wp2
    all_goals
      first
        | (exfalso; omega)
        | (go_ret; exact ⟨rfl, b0⟩)
theorem inB_yes {nl ng : Nat} {g c : Int} (h : inB nl ng g c = true) : ∃ gk ck : Nat, g = (gk : Int) ∧ c = (ck : Int) ∧ gk < ng ∧ ck < nl := by
  unfold inB at h
  simp only [decide_eq_true_eq] at h
  exact ⟨g.toNat, c.toNat, by omega, by omega, by omega, by omega⟩
/-- What a right footer's rows are. -/
theorem foot_ahead {F : FootS} (h : FootOk F) {k : Nat} (hk : k < F.groups.length) : 0 ≤ aheadR F.groups k ∧ aheadR F.groups (k + 1) = aheadR F.groups k + (F.groups.getD k groupZ).1 ∧ aheadR F.groups (k + 1) ≤ 65536 ∧ 1 ≤ (F.groups.getD k groupZ).1 := by
  have h1 := sum_take_succ (fun g : GroupS => g.1) F.groups k groupZ hk
  have h2 := foot_rows h hk
  have h3 := sum_nonneg (fun g : GroupS => g.1) (F.groups.take k) (fun g hg => by have := (h.2.1 g (List.mem_of_mem_take hg)).1; omega)
  unfold aheadR
  exact ⟨h3, h1, by omega, (foot_group h hk).1⟩
theorem foot_chunk {F : FootS} (h : FootOk F) {k c : Nat} (hk : k < F.groups.length) (hc : c < F.cols.length) : ChunkOk (F.cols.getD c colZ).2.1 (F.cols.getD c colZ).2.2 (pagesAt F.groups k c) (F.groups.getD k groupZ).1 ∧ (F.groups.getD k groupZ).2.length = F.cols.length := by
  have := foot_group h hk
  exact ⟨this.2.2 c hc, this.2.1⟩
theorem rowsL_take {t : Int} {nu : Bool} {l : List PageS} {r : Int} (h : ChunkOk t nu l r) {k : Nat} (hk : k < l.length) :
    0 ≤ rowsL (l.take k) ∧ rowsL (l.take (k + 1)) = rowsL (l.take k) + (l.getD k pageZ).2.1 ∧ rowsL (l.take (k + 1)) ≤ r := by
  have h1 := sum_take_succ (fun p : PageS => p.2.1) l k pageZ hk
  have h2 := sum_take_le (fun p : PageS => p.2.1) l (k + 1) (fun p hp => by have := (pageB_most.1 (h.1 p hp)).1; omega)
  have h3 := sum_nonneg (fun p : PageS => p.2.1) (l.take k) (fun p hp => by have := (pageB_most.1 (h.1 p (List.mem_of_mem_take hp))).1; omega)
  have h4 := h.2
  unfold rowsL at *
  exact ⟨h3, h1, by omega⟩
set_option maxHeartbeats 4000000 in
set_option maxRecDepth 100000 in
theorem fspans_any {w : World} {Ac : Option Addr} {cc : Nat} {L : List ColS} {r : Int} {Ag : Option Addr} {cg : Nat} {G : List GrD} (h : FootIn w Ac cc L Ag G) (hp : ∀ g ∈ G, ∀ x ∈ g.2.2.2, ∀ p ∈ x.2.2, statFine p.2.2) (hcg : G.length ≤ cg) {g c : Int} :
    Calls Try.prog 22 #[footA Ac cc L r Ag cg G, .int .i64 g, .int .i64 c] w (SpansPost (spansF (footP L r G) g c) w) := by
  have HR := fun (W : World) (hW : New w W) => fright_any (r := r) (cc := cc) (cg := cg) (h.later hW) hp
  have HH := Lib.hid (fun (W : World) => hasChunk_any (w := W) (Ac := Ac) (Ag := Ag) (nl := L.length) (cc := cc) (ng := G.length) (cg := cg) (r := r) (g := g) (c := c))
  have hX : spansF (footP L r G) g c = if rightF (footP L r G) && inB L.length G.length g c then spansL (aheadR (G.map grP) g.toNat) (pagesAt (G.map grP) g.toNat c.toNat) else [] := by
    unfold spansF footP
    simp only [List.length_map]
  have hF : rightF (footP L r G) = true → FootOk (footP L r G) := fun e => by unfold rightF at e; simpa using e
  have B0 := Blk.new w 25 #[.slice Ac L.length cc, .int .i64 r, .slice Ag G.length cg]
  have b0 : New w (w.alloc (.cells #[.slice Ac L.length cc, .int .i64 r, .slice Ag G.length cg] 25)) := (Below.refl _ _).alloc (Nat.le_refl _) _
  obtain ⟨x0, x1, x2⟩ := ccells B0
  have HG := Lib.hid h.groups
  have HCH := Lib.hid h.chunks
  have HPG := Lib.hid h.pages
  have hfew2 := h.few2
  have hB := @inB_yes L.length G.length g c
  clear h hp
  generalize inB L.length G.length g c = I at *
  show Calls Try.prog 22 #[.agg #[.slice Ac L.length cc, .int .i64 r, .slice Ag G.length cg], .int .i64 g, .int .i64 c] w (SpansPost (spansF (footP L r G) g c) w)
  generalize spansF (footP L r G) g c = X at *
  generalize rightF (footP L r G) = M at *
  have HR : Hid (∀ W, New w W → Calls Try.prog 37 #[.agg #[.slice Ac L.length cc, .int .i64 r, .slice Ag G.length cg]] W (NewPost (.bool M) W)) := Lib.hid HR
  cases M with
  | false =>
    obtain rfl : X = [] := by rw [hX]; rfl
    clear hX hF hB
    go_enter Try.func22, Try.ntmps22
    go_wp2_with fail
    refine (HR.out _ b0).mono ?_
    rintro e w1 ⟨rfl, b1⟩
    have b01 := New.trans b0 b1
    clear b0 b1
    go_wp2
    go_ret
    exact ⟨none, 0, 0, rfl, row_nil, b01⟩
  | true =>
    have hok := hF rfl
    clear hF
    cases I with
    | false =>
      obtain rfl : X = [] := by rw [hX]; rfl
      clear hX hB
      go_enter Try.func22, Try.ntmps22
      go_wp2_with fail
      refine (HR.out _ b0).mono ?_
      rintro e w1 ⟨rfl, b1⟩
      have B1 := B0.below b1 B0.lt
      have b01 := New.trans b0 b1
      clear b0 b1 B0 x0 x1 x2
      obtain ⟨x0, x1, x2⟩ := ccells B1
      go_wp2_with fail
      refine (HH.out _).mono ?_
      rintro e w2 ⟨rfl, b2⟩
      have b02 := New.trans b01 b2
      clear b01 b2
      go_wp2
      go_ret
      exact ⟨none, 0, 0, rfl, row_nil, b02⟩
    | true =>
      obtain ⟨gk, ck, rfl, rfl, hgk, hck⟩ := hB rfl
      clear hB
      replace hX : X = spansL (aheadR (G.map grP) gk) (pagesAt (G.map grP) gk ck) := hX
      have hAH := fun (k : Nat) (hk : k < G.length) => foot_ahead hok (k := k) (by unfold footP; simpa using hk)
      have hCK := foot_chunk hok (k := gk) (c := ck) (by unfold footP; simpa using hgk) hck
      unfold footP at hAH hCK
      dsimp only at hAH hCK
      have hMap := fun (k : Nat) (hk : k < G.length) => getD_mapX grP G (k := k) grZ groupZ hk
      have HAH := Lib.hid (fun (k : Nat) (hk : k < G.length) => show 0 ≤ aheadR (G.map grP) k ∧ aheadR (G.map grP) (k + 1) = aheadR (G.map grP) k + (G.getD k grZ).1 ∧ aheadR (G.map grP) (k + 1) ≤ 65536 ∧ 1 ≤ (G.getD k grZ).1 by
        have := hAH k hk
        rw [hMap k hk] at this
        exact this)
      have h65 := hAH gk hgk
      rw [hMap gk hgk] at h65
      have hMG := hMap gk hgk
      unfold pagesAt at hX hCK
      rw [hMG] at hX hCK
      have ha0 : aheadR (G.map grP) 0 = 0 := rfl
      have HA0 := Lib.hid ha0
      generalize hAR : aheadR (G.map grP) = AR at *
      clear hAR hAH hMap hMG ha0
      go_enter Try.func22, Try.ntmps22
      go_wp2_with fail
      refine (HR.out _ b0).mono ?_
      rintro e w1 ⟨rfl, b1⟩
      have B1 := B0.below b1 B0.lt
      have b01 := New.trans b0 b1
      clear b0 b1 B0 x0 x1 x2
      obtain ⟨x0, x1, x2⟩ := ccells B1
      go_wp2_with fail
      refine (HH.out _).mono ?_
      rintro e w2 ⟨rfl, b2⟩
      have B2 := B1.below b2 B1.lt
      have b02 := New.trans b01 b2
      clear b01 b2 B1 x0 x1 x2 HR HH
      obtain ⟨x0, x1, x2⟩ := ccells B2
      have hcg2 : (gk : Int) ≤ (cg : Int) := by omega
      go_wp2_with fail
      clear x0 x1 x2
      go_loopw [7, 28] (fun a i wr => ∃ k : Nat, k ≤ gk ∧ i = .int .i64 (k : Int) ∧ a = .int .i64 (AR k) ∧ Blk wr w.heap.size 25 #[.slice Ac L.length cc, .int .i64 r, .slice Ag G.length cg] ∧ New w wr) (fun _ i _ => gk - (intOf i).toNat)
      case atStart => exact ⟨0, Nat.zero_le _, rfl, by rw [HA0.out], B2, b02⟩
      case round =>
        obtain ⟨k, hk, rfl, rfl, B, b⟩ := hrel
        clear B2 b02
        by_cases hlt : k < gk
        · obtain ⟨ad, rfl, hb, d0, d1⟩ := (Reads.later HG.out b).gr2 (i := k) (by omega)
          obtain ⟨a1, a2, a3, a4⟩ := HAH.out k (by omega)
          have HA2 := Lib.hid a2
          have hq : AR k + (G.getD k grZ).1 ≤ 65536 := by omega
          have hq0 : 0 ≤ AR k + (G.getD k grZ).1 := by omega
          clear a2 a3 a4 hX h65 hCK
          generalize AR k = ak at *
          generalize G.getD k grZ = gg at *
          obtain ⟨gr, Ach, cch, D⟩ := gg
          dsimp only at d0 d1 HA2 hq hq0
          have ha : New wr (wr.alloc (.cells #[.int .i64 gr, .slice Ach D.length cch] 49)) := (Below.refl _ _).alloc (Nat.le_refl _) _
          have BG := Blk.new wr 49 #[.int .i64 gr, .slice Ach D.length cch]
          have B3 := B.below ha B.lt
          have b3 := New.trans b ha
          obtain ⟨z0, z1⟩ := cells2 BG
          clear B b ha BG
          go_wp2_with fail
          go_roundw
          case rel => exact ⟨k + 1, by omega, by go_num, by rw [HA2.out], B3, b3⟩
          case measure => simp [intOf]; omega
        · obtain rfl : k = gk := by omega
          obtain ⟨x0, x1, x2⟩ := ccells B
          obtain ⟨ad, rfl, hb, d0, d1⟩ := (Reads.later HG.out b).gr2 hgk
          have hgm := mem_getDF grZ hgk
          have hch := HCH.out _ hgm
          have hpg := HPG.out _ hgm
          clear hlt HAH hk hb hgm
          generalize G.getD k grZ = gg at *
          obtain ⟨gr, Ach, cch, D⟩ := gg
          unfold grP at hCK hX h65
          dsimp only at d0 d1 hCK hX h65 hch hpg
          have hD : D.length = L.length := by have := hCK.2; simpa using this
          have hckD : ck < D.length := by omega
          rw [getD_mapX (fun x : ChD => x.2.2) D chZ [] hckD] at hCK hX
          obtain ⟨ac, rfl, hbc, e0⟩ := (Reads.later hch.1 b).ch1 hckD
          have hxm := mem_getDF chZ hckD
          have hpx := hpg _ hxm
          clear hpg hch hxm hbc
          have hCK := hCK.1
          generalize D.getD ck chZ = x at *
          obtain ⟨Ax, cx, pl⟩ := x
          dsimp only at e0 hpx hCK hX
          have HPL := Lib.hid hpx.1
          have hpn := hpx.2
          have RT := Lib.hid (fun (q : Nat) (hq : q < pl.length) => rowsL_take hCK hq)
          have h65a : 0 ≤ AR k := h65.1
          have h65b : AR k + gr ≤ 65536 := by omega
          have hplr := (rowsL_pos hCK.1).2
          have hgr := hCK.2
          have HX := Lib.hid hX
          generalize AR k = a0 at *
          have HCK := Lib.hid hCK
          clear hpx h65 hok hCK hX
          have hDi : (ck : Int) < (D.length : Int) := by omega
          go_wp2_with fail
          clear x0 x1 x2 d0 d1 e0
          go_loopw [10, 7, 47] (fun v a i wr => ∃ (q : Nat) (A : Option Addr) (d : Nat), q ≤ pl.length ∧ i = .int .i64 (q : Int) ∧ v = .slice A q d ∧ a = .int .i64 (a0 + rowsL (pl.take q)) ∧ wr.ownsRow w.heap.size 44 2 (.slice A q d) q (pairs (spansL a0 (pl.take q))) ∧ New w wr) (fun _ _ i _ => pl.length - (intOf i).toNat)
          case atStart => exact ⟨0, none, 0, Nat.zero_le _, rfl, rfl, by simp [rowsL], row_nil, b⟩
          case round =>
            obtain ⟨q, A, d, hq, rfl, rfl, rfl, o, b⟩ := hrel
            by_cases hlq : q < pl.length
            · obtain ⟨ap, rfl, hbp, d0, d1, d2, d3, d4, d5, d6, d7, d8, d9, d10, d11, d12, d13⟩ := (Reads.later HPL.out b).page14 hlq
              obtain ⟨r1, r2, r3⟩ := RT.out q hlq
              have htk := take_snoc pl q pageZ hlq
              have hsn := spansL_snoc a0 (pl.take q) (pl.getD q pageZ)
              rw [← htk] at hsn
              have HS := Lib.hid hsn
              have H2 := Lib.hid r2
              have b65 : a0 + (rowsL (pl.take q) + (pl.getD q pageZ).2.1) ≤ 65536 := by omega
              have b0 : 0 ≤ a0 + (rowsL (pl.take q) + (pl.getD q pageZ).2.1) := by have := ((pageB_most.1 (HCK.out.1 _ (mem_getDF pageZ hlq))).1); omega
              clear r2 r3 htk hsn hbp
              generalize rowsL (pl.take q) = rq at *
              generalize pl.getD q pageZ = p at *
              obtain ⟨sz, rw, nn, bb, ⟨p1, p2, p3, p4, p5⟩, ⟨q1, q2, q3, q4, q5⟩⟩ := p
              dsimp only at d0 d1 d2 d3 d4 d5 d6 d7 d8 d9 d10 d11 d12 d13 HS H2 b65 b0
              have ha : New wr (wr.alloc (.cells #[.int .i64 sz, .int .i64 rw, .int .i64 nn, .bool bb, .bool p1, .int .i64 p2, .string (bstr p3), .int .i64 p4, .int .i64 p5, .bool q1, .int .i64 q2, .string (bstr q3), .int .i64 q4, .int .i64 q5] 57)) := (Below.refl _ _).alloc (Nat.le_refl _) _
              have BP := Blk.new wr 57 #[.int .i64 sz, .int .i64 rw, .int .i64 nn, .bool bb, .bool p1, .int .i64 p2, .string (bstr p3), .int .i64 p4, .int .i64 p5, .bool q1, .int .i64 q2, .string (bstr q3), .int .i64 q4, .int .i64 q5]
              have o2 := row_later o ha
              have b2 := New.trans b ha
              have z0 := b2.size
              obtain ⟨e0, e1, e2, e3, e4, e5, e6, e7, e8, e9, e10, e11, e12, e13⟩ := cells14 BP
              have hq6 : q ≤ 65536 := by omega
              clear o b ha
              go_wp2_with (refine wpList_pushR elP rfl (.tmp 51) (.tmp 58) rfl (W := w) (B := w.heap.size) (base := w.heap.size) (n := q) o2 rfl (by simp only [World.size_alloc]; rfl) b2 (Nat.le_refl _) z0 rfl (by simp [Value.oneCell']) (by omega) (by simp only [maxLen]; omega) ?_
                           intro A' c' w' _ _ o' g' b' _ _
                           have BP2 := BP.grown g' (fun e => row_blk_ne o2 BP (by decide) e.symm)
                           obtain ⟨f0, f1, f2, f3, f4, f5, f6, f7, f8, f9, f10, f11, f12, f13⟩ := cells14 BP2)
              go_roundw
              case rel => exact ⟨q + 1, A', c', by omega, by go_num, rfl, by rw [H2.out]; congr 1; omega, by rw [HS.out, pairs_snoc]; exact o', b'⟩
              case measure => simp [intOf]; omega
            · obtain rfl : q = pl.length := by omega
              rw [List.take_length] at o
              have O := Lib.hid o
              clear o
              go_wp2
              go_ret
              exact ⟨A, pl.length, d, rfl, by rw [HX.out]; exact O.out, b⟩

end Go.Proofs.Ythmjbdpkdomofaa
/- footer.Place: its contract. -/

namespace Go.Proofs.Ythmjbdpkdomofaa
open Go Go.RowKit Go.Hm
def placeG (G : List GroupS) (k : Nat) : Int := ((G.take k).map groupSize).sum
def placeC (g : GroupS) (j : Nat) : Int := ((g.2.take j).map sizesL).sum
/-- Where page q of chunk j of group k begins. -/
def placeV (G : List GroupS) (k j q : Nat) : Int := placeG G k + placeC (G.getD k groupZ) j + sizesL ((pagesAt G k j).take q)
def endB (ng : Nat) (g c p : Int) : Bool := decide (g = (ng : Int) ∧ c = 0 ∧ p = 0)
def pgB (n : Nat) (p : Int) : Bool := decide (0 ≤ p ∧ p < (n : Int))
noncomputable def placeF (F : FootS) (g c p : Int) : Int :=
  if rightF F && (endB F.groups.length g c p || (inB F.cols.length F.groups.length g c && pgB (pagesAt F.groups g.toNat c.toNat).length p)) then placeV F.groups g.toNat c.toNat p.toNat else -1
theorem placeV_zero (G : List GroupS) : placeV G 0 0 0 = 0 := rfl
theorem placeV_page {F : FootS} (h : FootOk F) {k j q : Nat} (hk : k < F.groups.length) (hj : j < F.cols.length) (hq : q < (pagesAt F.groups k j).length) :
    0 ≤ placeV F.groups k j q ∧ placeV F.groups k j (q + 1) = placeV F.groups k j q + ((pagesAt F.groups k j).getD q pageZ).1 ∧ placeV F.groups k j (q + 1) ≤ 1073741824 ∧ 1 ≤ ((pagesAt F.groups k j).getD q pageZ).1 := by
  obtain ⟨hc, hl⟩ := foot_chunk h hk hj
  have hpos := fun p (hp : p ∈ pagesAt F.groups k j) => (pageB_most.1 (hc.1 p hp)).1.2.2.1
  have h1 := sum_take_succ (fun p : PageS => p.1) (pagesAt F.groups k j) q pageZ hq
  have h2 := sum_take_le (fun p : PageS => p.1) (pagesAt F.groups k j) (q + 1) (fun p hp => by have := hpos p hp; omega)
  have h3 := sum_nonneg (fun p : PageS => p.1) ((pagesAt F.groups k j).take q) (fun p hp => by have := hpos p (List.mem_of_mem_take hp); omega)
  have h4 := foot_size h (c := j + 1) hk
  have h5 := sum_take_succ sizesL (F.groups.getD k groupZ).2 j [] (by omega)
  have h6 := sum_nonneg groupSize (F.groups.take k) (fun g hg => (h.2.1 g (List.mem_of_mem_take hg)).nonneg)
  have h7 := sum_nonneg sizesL ((F.groups.getD k groupZ).2.take j) (fun l hl => (foot_group h hk).sizes l (List.mem_of_mem_take hl))
  have h8 := hpos _ (mem_getDF pageZ hq)
  unfold placeV placeG placeC
  unfold pagesAt at *
  unfold sizesL at *
  refine ⟨by omega, by omega, by omega, h8⟩
theorem placeV_chunk {F : FootS} (h : FootOk F) {k j : Nat} (hk : k < F.groups.length) (hj : j < F.cols.length) : placeV F.groups k j (pagesAt F.groups k j).length = placeV F.groups k (j + 1) 0 := by
  obtain ⟨hc, hl⟩ := foot_chunk h hk hj
  have h5 := sum_take_succ sizesL (F.groups.getD k groupZ).2 j [] (by omega)
  unfold placeV placeC
  rw [List.take_length, h5]
  unfold pagesAt
  simp only [List.take_zero]
  have : sizesL [] = 0 := rfl
  omega
theorem placeV_group {F : FootS} (h : FootOk F) {k : Nat} (hk : k < F.groups.length) : placeV F.groups k F.cols.length 0 = placeV F.groups (k + 1) 0 0 := by
  have hl := (foot_group h hk).2.1
  have h5 := sum_take_succ groupSize F.groups k groupZ hk
  unfold placeV placeG placeC
  rw [h5, ← hl, List.take_length]
  simp only [List.take_zero, List.map_nil, List.sum_nil]
  have : sizesL [] = 0 := rfl
  unfold groupSize
  omega

end Go.Proofs.Ythmjbdpkdomofaa
/- What a query needs of a file, plain: spans of groups and pages, and which of them are over its rows. -/

namespace Go.Proofs.Ythmjbdpkdomofaa
open Go Go.RowKit Go.Hm
/-- Spans of so many rows each, one behind the other, from a row on. -/
def stepsI (a : Int) : List Int → List (Int × Int)
  | [] => []
  | n :: l => (a, a + n) :: stepsI (a + n) l
theorem stepsI_len : ∀ (l : List Int) (a : Int), (stepsI a l).length = l.length
  | [], _ => rfl
  | n :: l, a => by simp [stepsI, stepsI_len l]
theorem spansL_steps : ∀ (l : List PageS) (a : Int), spansL a l = stepsI a (l.map (·.2.1))
  | [], _ => rfl
  | p :: l, a => by simp [spansL, stepsI, spansL_steps l]
theorem stepsI_at : ∀ (l : List Int) (a : Int) (i : Nat), i < l.length → (stepsI a l).getD i (0, 0) = (a + (l.take i).sum, a + (l.take (i + 1)).sum)
  | [], _, _, h => by simp at h
  | n :: l, a, 0, _ => by simp [stepsI]
  | n :: l, a, i + 1, h => by
    have := stepsI_at l (a + n) i (by simpa using h)
    simp only [stepsI, List.getD_cons_succ, List.take_succ_cons, List.sum_cons] at this ⊢
    rw [this]
    congr 1 <;> omega
theorem stepsI_snoc : ∀ (l : List Int) (a n : Int), stepsI a (l ++ [n]) = stepsI a l ++ [(a + l.sum, a + l.sum + n)]
  | [], a, n => by simp [stepsI]
  | m :: l, a, n => by
    simp only [List.cons_append, stepsI, stepsI_snoc l (a + m) n, List.sum_cons]
    rw [Int.add_assoc a m l.sum]
theorem sum_take_mono {l : List Int} (h : ∀ n ∈ l, 1 ≤ n) : ∀ (i j : Nat), i ≤ j → (l.take i).sum ≤ (l.take j).sum := by
  induction l with
  | nil => intro i j _; simp
  | cons n l ih =>
    intro i j hij
    have hn := h n (by simp)
    cases i with
    | zero =>
      cases j with
      | zero => simp
      | succ j =>
        have := ih (fun m hm => h m (by simp [hm])) 0 j (Nat.zero_le _)
        simp at this ⊢
        omega
    | succ i =>
      cases j with
      | zero => omega
      | succ j =>
        have := ih (fun m hm => h m (by simp [hm])) i j (by omega)
        simp only [List.take_succ_cons, List.sum_cons]
        omega
theorem sum_take_step {l : List Int} (h : ∀ n ∈ l, 1 ≤ n) {i : Nat} (hi : i < l.length) : (l.take i).sum < (l.take (i + 1)).sum := by
  have e : l.take (i + 1) = l.take i ++ [l.getD i 0] := take_snoc l i 0 hi
  have := h _ (mem_getDF 0 hi)
  rw [e, List.sum_append]
  simp only [List.sum_cons, List.sum_nil]
  omega
theorem stepsI_up {l : List Int} (h : ∀ n ∈ l, 1 ≤ n) (a : Int) : UpS (stepsI a l) := by
  constructor
  · intro i j hij hj
    rw [stepsI_len] at hj
    rw [stepsI_at l a i (by omega), stepsI_at l a j hj]
    have h1 := sum_take_mono h i j hij
    have h2 := sum_take_mono h (i + 1) (j + 1) (by omega)
    dsimp only
    omega
  · intro i hi
    rw [stepsI_len] at hi
    rw [stepsI_at l a i hi]
    have := sum_take_step h hi
    dsimp only
    omega
/-- Spans of a group's pages, from its first row on, are over what they are over from the file's. -/
theorem over_shift {l : List Int} {a f t : Int} {x y : Nat} (h : IsOver (stepsI 0 l) (f - a) (t - a) x y) : IsOver (stepsI a l) f t x y := by
  obtain ⟨h1, h2, h3, h4⟩ := h
  rw [stepsI_len] at h2 h4
  refine ⟨h1, by rw [stepsI_len]; exact h2, h3, fun i hi => ?_⟩
  rw [stepsI_len] at hi
  have := h4 i hi
  rw [this, stepsI_at l 0 i hi, stepsI_at l a i hi]
  unfold hasS
  dsimp only
  constructor <;> rintro ⟨p, q, r⟩ <;> exact ⟨by omega, by omega, by omega⟩
open Classical in
/-- Which of spans are over rows. -/
noncomputable def ovr (l : List (Int × Int)) (f t : Int) : Nat × Nat := if h : ∃ p : Nat × Nat, IsOver l f t p.1 p.2 then Classical.choose h else (0, 0)
theorem ovr_is {l : List (Int × Int)} {f t : Int} {a b : Nat} (h : IsOver l f t a b) : ovr l f t = (a, b) := by
  have hx : ∃ p : Nat × Nat, IsOver l f t p.1 p.2 := ⟨(a, b), h⟩
  unfold ovr
  rw [dif_pos hx]
  obtain ⟨e1, e2⟩ := (Classical.choose_spec hx).one h
  exact Prod.ext e1 e2
/-- How many rows each group has. -/
def rowsG (G : List GroupS) : List Int := G.map (·.1)
def gSpans (F : FootS) : List (Int × Int) := stepsI 0 (rowsG F.groups)
theorem rowsG_pos {F : FootS} (h : FootOk F) : ∀ n ∈ rowsG F.groups, 1 ≤ n := fun n hn => by
  obtain ⟨g, hg, rfl⟩ := List.mem_map.1 hn
  exact (h.2.1 g hg).1
theorem rowsG_take (G : List GroupS) (k : Nat) : ((rowsG G).take k).sum = aheadR G k := by
  unfold rowsG aheadR
  rw [List.map_take]
theorem gSpans_at {F : FootS} {k : Nat} (hk : k < F.groups.length) : (gSpans F).getD k (0, 0) = (aheadR F.groups k, aheadR F.groups (k + 1)) := by
  unfold gSpans
  rw [stepsI_at _ _ _ (by unfold rowsG; simpa using hk), rowsG_take, rowsG_take]
  simp
theorem gSpans_len (F : FootS) : (gSpans F).length = F.groups.length := by
  unfold gSpans rowsG
  rw [stepsI_len, List.length_map]
theorem gSpans_up {F : FootS} (h : FootOk F) : UpS (gSpans F) := stepsI_up (rowsG_pos h) 0
theorem pages_pos {t : Int} {nu : Bool} {l : List PageS} {r : Int} (h : ChunkOk t nu l r) : ∀ n ∈ l.map (·.2.1), 1 ≤ n := fun n hn => by
  obtain ⟨p, hp, rfl⟩ := List.mem_map.1 hn
  exact (pageB_most.1 (h.1 p hp)).1.1
theorem spansL_up {t : Int} {nu : Bool} {l : List PageS} {r : Int} (h : ChunkOk t nu l r) (a : Int) : UpS (spansL a l) := by
  rw [spansL_steps]
  exact stepsI_up (pages_pos h) a
/-- A part of a column in a group: which of its pages have rows from f on, ahead of t. -/
abbrev PartS := Int × Int × Int × Int
def partV (p : PartS) : List Value := [.int .i64 p.1, .int .i64 p.2.1, .int .i64 p.2.2.1, .int .i64 p.2.2.2]
/-- The groups that are needed, of a footer and a query that fit. -/
noncomputable def groupsQ (ok : Bool) (F : FootS) (f t : Int) : Nat × Nat := if ok then ovr (gSpans F) f t else (0, 0)
noncomputable def partG (F : FootS) (f t : Int) (g : Nat) (c : Int) : PartS :=
  ((g : Int), c, ((ovr (spansF F (g : Int) c) f t).1 : Int), ((ovr (spansF F (g : Int) c) f t).2 : Int))
noncomputable def partsTo (F : FootS) (cols : List Int) (f t : Int) (a n : Nat) : List PartS := (List.range' a n).flatMap fun g => cols.map (partG F f t g)
noncomputable def partsQ (ok : Bool) (F : FootS) (cols : List Int) (f t : Int) : List PartS := partsTo F cols f t (groupsQ ok F f t).1 ((groupsQ ok F f t).2 - (groupsQ ok F f t).1)
theorem partsTo_snoc (F : FootS) (cols : List Int) (f t : Int) (a n : Nat) : partsTo F cols f t a (n + 1) = partsTo F cols f t a n ++ cols.map (partG F f t (a + n)) := by
  unfold partsTo
  rw [List.range'_concat, List.flatMap_append]
  simp
theorem partsTo_len (F : FootS) (cols : List Int) (f t : Int) (a : Nat) : ∀ n, (partsTo F cols f t a n).length = n * cols.length
  | 0 => by simp [partsTo]
  | n + 1 => by rw [partsTo_snoc, List.length_append, partsTo_len F cols f t a n, List.length_map, Nat.succ_mul]

end Go.Proofs.Ythmjbdpkdomofaa
/- Rows of pairs: made at once, and one stored. -/

namespace Go.Hm
open Go Go.RowKit
theorem madeCells2 (a b : Value) (n : Nat) : (madeCells #[a, b] (n * 2)).toList = (List.replicate n [a, b]).flatten := by
  induction n with
  | zero => simp [madeCells]
  | succ n ih =>
    rw [List.replicate_succ', List.flatten_append, ← ih]
    have e : ∀ m, m % 2 = 0 → (madeCells #[a, b] (m + 2)).toList = (madeCells #[a, b] m).toList ++ [a, b] := by
      intro m hm
      simp only [madeCells, Array.toList_map, Array.toList_range, List.range_succ, List.map_append, List.map_cons, List.map_nil, List.append_assoc, List.cons_append, List.nil_append, List.size_toArray, List.length_cons, List.length_nil]
      rw [hm, show (m + 1) % 2 = 1 by omega]
      rfl
    rw [Nat.succ_mul, e (n * 2) (by omega)]
    simp
theorem pairs_rep0 (n : Nat) : (List.replicate n [Value.int .i64 0, .int .i64 0]).flatten = pairs (List.replicate n (0, 0)) := by
  induction n with
  | zero => rfl
  | succ n ih =>
    rw [List.replicate_succ, List.flatten_cons, ih, List.replicate_succ]
    rfl
theorem pairs_app (l m : List (Int × Int)) : pairs (l ++ m) = pairs l ++ pairs m := by simp [pairs]

section
variable {P : Program} {ops : Array Oper} {rest : List Oper} {o : Oper} {a : Act} {Q : Exit → Act → World → Prop}
/-- make of a row of records of two cells. -/
theorem wpList_mkR2 {w : World} {t e : TypeId} {x y : Value} {bytes : Nat} (E : ElT P t e (.agg #[x, y]) 2 bytes) (hgd : o.guard = none) (lo co : Operand) (ho : o.op = Op.makeSlice t lo co)
    {W : World} {B : Nat} {kl kc : IntKind} {L C : Int} (n : Nat) (hl : a.eval lo = .int kl L) (hc : a.eval co = .int kc C) (hL : L = (n : Int)) (hC : C = (n : Int)) (hb : Below B W w) (hbase : B ≤ w.heap.size)
    (hn : n * bytes ≤ 140737488355328) (hm : n ≤ maxLen)
    (h : ∀ w', w'.ownsRow w.heap.size e 2 (.slice (some ⟨w.heap.size, 0, none⟩) n n) n (List.replicate n [x, y]).flatten → w.grownBy w' none → Below B W w' → w'.heap.size = w.heap.size + 1 → wpList P ops Q rest (a.put o.dst (.slice (some ⟨w.heap.size, 0, none⟩) n n)) w') :
    wpList P ops Q (o :: rest) a w := by
  obtain ⟨i, hi, hz0, hs1, hb1⟩ := info_parts E.hi
  subst hL hC
  have hmC : (n : Int) ≤ 9223372036854775807 := by have h := hm; simp only [maxLen] at h; omega
  have hbC : (i.bytes : Int) * (n : Int) ≤ 281474976710656 := by
    have h : ((i.bytes * n : Nat) : Int) ≤ 281474976710656 := by rw [hb1, Nat.mul_comm]; omega
    rwa [Int.natCast_mul] at h
  have hrun := run_make (P := P) w t e i (.agg #[x, y]) E.ht hi hz0 kl kc (n : Int) (n : Int) (by omega) (by omega) hbC hmC
  rw [Int.toNat_natCast, hs1] at hrun
  refine wpList_plain hgd fun K hK => ?_
  unfold Oper.wp
  simp [execOp, ho, hl, hc, hrun, Result.andThen]
  refine hK _ _ (h _ ?_ (World.grownBy_alloc _ _ _) (hb.alloc hbase _) (by simp))
  refine ⟨by simp, .inr ⟨_, n, _, rfl, Nat.le_refl _, heap_alloc_new w _, Nat.le_refl _, hm, by simp [size_madeCells], ?_⟩⟩
  rw [List.take_of_length_le (by simp [size_madeCells])]
  exact madeCells2 x y n
/-- A pair is stored into a row of pairs. -/
theorem wpList_setR2 {w : World} (hgd : o.guard = none) (ty : TypeId) (x y : Operand) (ho : o.op = .store ty x y)
    {base : Nat} {e : TypeId} {g n m : Nat} {A B : List (Int × Int)} {old new : Int × Int} (hown : w.ownsRow base e 2 (.slice (some ⟨g, 0, none⟩) n n) n (pairs (A ++ old :: B))) (hm : A.length = m) (hmn : m < n)
    (hx : a.eval x = .pointer (some ⟨g, m * 2, none⟩)) (hy : a.eval y = .agg #[.int .i64 new.1, .int .i64 new.2]) (hi : (P.info? ty).map (·.size) = some 2)
    (h : ∀ W, W.ownsRow base e 2 (.slice (some ⟨g, 0, none⟩) n n) n (pairs (A ++ new :: B)) → w.grownBy W (some g) → wpList P ops Q rest (a.put o.dst undef) W) : wpList P ops Q (o :: rest) a w := by
  obtain ⟨cs, hB⟩ := row_blk hown
  obtain ⟨ad, ea, -, c0, c1⟩ := (Reads.of_own hown).pair2 (i := m) hmn
  injection ea with ea
  subst ea
  have ead : (⟨g, 0, none⟩ : Addr).add (m * 2) = ⟨g, m * 2, none⟩ := by
    unfold Addr.add
    split <;> simp_all
  rw [ead] at c0 c1
  dsimp only at c0 c1
  have ht : w.there g (m * 2) (#[Value.int .i64 new.1, .int .i64 new.2] : Array Value).size := by
    intro j hj
    have hj : j < 2 := hj
    refine ⟨?_, hB.frozen _⟩
    have : j = 0 ∨ j = 1 := by omega
    rcases this with rfl | rfl
    · rw [Nat.add_zero, c0]; rfl
    · rw [c1]; rfl
  refine wpList_store_mid hgd ty x y ho g (m * 2) #[.int .i64 new.1, .int .i64 new.2] hx hy ht hi (by simp [Value.oneCell']) ?_
  obtain ⟨o1, g1⟩ := World.ownsRow.stored hown (m * 2) (.int .i64 new.1)
  obtain ⟨o2, g2⟩ := World.ownsRow.stored o1 (m * 2 + 1) (.int .i64 new.2)
  have hl : (pairs A).length = m * 2 := by rw [pairs_length, hm]
  have e2 : ((pairs (A ++ old :: B)).set (m * 2) (.int .i64 new.1)).set (m * 2 + 1) (.int .i64 new.2) = pairs (A ++ new :: B) := by
    rw [pairs_app, pairs_app, List.set_append_right _ _ (by omega), List.set_append_right _ _ (by omega), hl, Nat.sub_self, show m * 2 + 1 - m * 2 = 1 by omega]
    rfl
  rw [e2] at o2
  exact h _ o2 (g1.trans g2)
end

end Go.Hm
/- The contract of pick.groupSpans. -/

namespace Go.Proofs.Ythmjbdpkdomofaa
open Go Go.RowKit Go.Hm
/-- A row of spans, one for each group; they are the groups', if the footer is right. -/
def GSpPost (F : FootS) (n : Nat) (w : World) (e : Ending) (w' : World) : Prop :=
  ∃ A c, ∃ l : List (Int × Int), e = .returned (.slice A n c) ∧ l.length = n ∧ n ≤ c ∧ (FootOk F → l = gSpans F) ∧ w'.ownsRow w.heap.size 44 2 (.slice A n c) n (pairs l) ∧ New w w'
theorem gSpans_take {F : FootS} {k : Nat} (hk : k < F.groups.length) : (gSpans F).take (k + 1) = (gSpans F).take k ++ [(aheadR F.groups k, aheadR F.groups (k + 1))] := by
  rw [take_snoc (gSpans F) k (0, 0) (by rw [gSpans_len]; exact hk), gSpans_at hk]
set_option maxHeartbeats 4000000 in
set_option maxRecDepth 100000 in
theorem groupSpans_any {w : World} {Ac : Option Addr} {cc : Nat} {L : List ColS} {r : Int} {Ag : Option Addr} {cg : Nat} {G : List GrD} (h : FootIn w Ac cc L Ag G) (hG : G.length ≤ 4398046511104) :
    Calls Try.prog 26 #[.agg #[.slice Ac L.length cc, .int .i64 r, .slice Ag G.length cg]] w (GSpPost (footP L r G) G.length w) := by
  have HG := Lib.hid h.groups
  have B0 := Blk.new w 25 #[.slice Ac L.length cc, .int .i64 r, .slice Ag G.length cg]
  have b0 : New w (w.alloc (.cells #[.slice Ac L.length cc, .int .i64 r, .slice Ag G.length cg] 25)) := (Below.refl _ _).alloc (Nat.le_refl _) _
  have hGl : (footP L r G).groups.length = G.length := by unfold footP; simp
  have GM := fun (k : Nat) (hk : k < G.length) => show ((footP L r G).groups.getD k groupZ).1 = (G.getD k grZ).1 from by
    unfold footP
    rw [getD_mapX grP G grZ groupZ hk]
    rfl
  have AH := Lib.hid (fun (k : Nat) (hk : k < G.length) (e : FootOk (footP L r G)) => show 0 ≤ aheadR (footP L r G).groups k ∧ aheadR (footP L r G).groups (k + 1) = aheadR (footP L r G).groups k + (G.getD k grZ).1 ∧ aheadR (footP L r G).groups (k + 1) ≤ 65536 ∧ 1 ≤ (G.getD k grZ).1 from by
    have := foot_ahead e (k := k) (by rw [hGl]; exact hk)
    rw [GM k hk] at this
    exact ⟨this.1, this.2.1, this.2.2.1, this.2.2.2⟩)
  have GT := Lib.hid (fun (k : Nat) (hk : k < G.length) => gSpans_take (F := footP L r G) (k := k) (by rw [hGl]; exact hk))
  have GL := Lib.hid (show (gSpans (footP L r G)).length = G.length by rw [gSpans_len, hGl])
  have A0 : Hid (aheadR (footP L r G).groups 0 = 0) := Lib.hid rfl
  clear h hGl GM
  generalize hAR : aheadR (footP L r G).groups = AR at *
  generalize hGS : gSpans (footP L r G) = GS at *
  unfold GSpPost
  rw [hGS]
  generalize FootOk (footP L r G) = OK at *
  clear hAR hGS
  obtain ⟨x0, x1, x2⟩ := ccells B0
  have hz0 : w.heap.size ≤ (w.alloc (.cells #[.slice Ac L.length cc, .int .i64 r, .slice Ag G.length cg] 25)).heap.size := b0.size
  go_enter Try.func26, Try.ntmps26
  go_wp2_with (refine wpList_mkR2 elP rfl (.tmp 9) (.tmp 9) rfl (W := w) (B := w.heap.size) G.length rfl rfl rfl rfl b0 hz0 (by omega) (by simp only [maxLen]; omega) ?_
               intro w1 o1 g1 b1 hs1
               have B1 := B0.grown g1 (by simp)
               clear x0 x1 x2 B0
               obtain ⟨x0, x1, x2⟩ := ccells B1)
  rw [pairs_rep0] at o1
  try simp only [World.size_alloc] at o1
  try simp only [World.size_alloc]
  obtain ⟨gs, hgs⟩ : ∃ gs, gs = w.heap.size + 1 := ⟨_, rfl⟩
  have hgw : w.heap.size < gs := by omega
  rw [← hgs] at o1 ⊢
  clear hgs hs1 g1 b0 hz0 x0 x1 x2
  go_loopw [4, 14] (fun a i wr => ∃ (k : Nat) (l : List (Int × Int)) (x : Int), k ≤ G.length ∧ i = .int .i64 (k : Int) ∧ a = .int .i64 x ∧ Hid (l.length = k) ∧ Hid (OK → l = GS.take k ∧ x = AR k)
    ∧ wr.ownsRow gs 44 2 (.slice (some ⟨gs, 0, none⟩) G.length G.length) G.length (pairs (l ++ List.replicate (G.length - k) (0, 0))) ∧ Blk wr w.heap.size 25 #[.slice Ac L.length cc, .int .i64 r, .slice Ag G.length cg] ∧ New w wr) (fun _ i _ => G.length - (intOf i).toNat)
  case atStart => exact ⟨0, [], 0, Nat.zero_le _, rfl, rfl, Lib.hid rfl, Lib.hid (fun _ => ⟨by simp, by rw [A0.out]⟩), by simpa using o1, B1, b1⟩
  case round =>
    obtain ⟨k, l, x, hk, rfl, rfl, hl, hok, o, B, b⟩ := hrel
    clear o1 B1 b1
    by_cases hlt : k < G.length
    · obtain ⟨ad, rfl, hb, d0, d1⟩ := (Reads.later HG.out b).gr2 hlt
      have ahk := fun e => AH.out k hlt e
      have gtk := GT.out k hlt
      generalize G.getD k grZ = gg at *
      obtain ⟨gr, Ach, cch, D⟩ := gg
      dsimp only at d0 d1 ahk
      rw [show G.length - k = (G.length - (k + 1)) + 1 by omega, List.replicate_succ] at o
      have HO := Lib.hid o
      have hy2 : OK → IntKind.i64.wrap (x + gr) = AR (k + 1) ∧ x = AR k := fun e => by
        obtain ⟨h1, h2, h3, h4⟩ := ahk e
        have := (hok.out e).2
        refine ⟨?_, this⟩
        rw [this, ← h2, IntKind.wrap_i64]
        omega
      generalize hy : IntKind.i64.wrap (x + gr) = y at *
      have hok2 : Hid (OK → l ++ [(x, y)] = GS.take (k + 1) ∧ y = AR (k + 1)) := Lib.hid (fun e => ⟨by rw [gtk, (hok.out e).1, (hy2 e).1, (hy2 e).2], (hy2 e).1⟩)
      have hl2 : Hid ((l ++ [(x, y)]).length = k + 1) := Lib.hid (by rw [List.length_append, hl.out]; rfl)
      have ead : (⟨gs, 0, none⟩ : Addr).add (k * 2) = ⟨gs, k * 2, none⟩ := by
        unfold Addr.add
        split <;> simp_all
      have ha : New wr (wr.alloc (.cells #[.int .i64 gr, .slice Ach D.length cch] 49)) := (Below.refl _ _).alloc (Nat.le_refl _) _
      have BG := Blk.new wr 49 #[.int .i64 gr, .slice Ach D.length cch]
      have o2 := row_later HO.out ha
      have B2 := B.below ha B.lt
      have b2 := New.trans b ha
      have HO2 := Lib.hid o2
      have hne : wr.heap.size ≠ gs := by
        intro e
        have := (World.ownsRow.lt HO.out gs rfl).2
        omega
      obtain ⟨z0, z1⟩ := cells2 BG
      have hki : (k : Int) < (G.length : Int) := by omega
      clear o2 HO hok B b ha hb ahk gtk hy2 o
      go_wp2_with (refine wpList_setR2 rfl 44 (.tmp 27) (.tmp 26) rfl (new := (x, y)) HO2.out hl.out hlt rfl rfl (by kernel_rfl) ?_
                   intro w3 o3 g3
                   have BG3 := BG.grown g3 (by intro e; injection e with e; exact hne e)
                   clear z0 z1
                   obtain ⟨z0, z1⟩ := cells2 BG3)
      have B3 := B2.grown g3 (by intro e; injection e with e; omega)
      have b3 := Far.below b2 g3 (by omega) (Nat.le_refl _)
      have o3 : w3.ownsRow gs 44 2 (.slice (some ⟨gs, 0, none⟩) G.length G.length) G.length (pairs ((l ++ [(x, y)]) ++ List.replicate (G.length - (k + 1)) (0, 0))) := by
        rw [List.append_assoc]
        exact o3
      go_roundw
      case rel => exact ⟨k + 1, l ++ [(x, y)], y, by omega, by go_num, rfl, hl2, hok2, o3, B3, b3⟩
      case measure => simp [intOf]; omega
    · have hkk : k = G.length := by omega
      subst hkk
      rw [Nat.sub_self, List.replicate_zero, List.append_nil] at o
      have HO := Lib.hid o
      have hfin : OK → l = GS := fun e => by
        have := (hok.out e).1
        rwa [List.take_of_length_le (by rw [GL.out]; exact Nat.le_refl _)] at this
      have HF := Lib.hid hfin
      clear hfin o hok
      go_wp2_with fail
      go_ret
      exact ⟨_, _, l, rfl, hl.out, Nat.le_refl _, HF.out, row_base HO.out (by omega), b⟩

end Go.Proofs.Ythmjbdpkdomofaa
/- How many rows and bytes a query needs, plain: sums over pages, chunk by chunk. -/

namespace Go.Proofs.Ythmjbdpkdomofaa
open Go Go.RowKit Go.Hm
/-- A row, held between f and t. -/
def clampI (f t u : Int) : Int := if u < f then f else if t < u then t else u
theorem clamp_has {x : Int × Int} {f t : Int} (hx : x.1 < x.2) (hf : f ≤ t) :
    (hasS x f t → (if t < x.2 then t else x.2) - (if x.1 < f then f else x.1) = clampI f t x.2 - clampI f t x.1 ∧ 1 ≤ clampI f t x.2 - clampI f t x.1) ∧ (¬ hasS x f t → clampI f t x.2 = clampI f t x.1) := by
  unfold hasS clampI
  constructor
  · rintro ⟨a, b, c⟩
    constructor
    · repeat' split
      all_goals omega
    · repeat' split
      all_goals omega
  · intro h
    have : t ≤ x.1 ∨ x.2 ≤ f ∨ t ≤ f := by
      rcases Int.lt_or_le x.1 t with p | p
      · rcases Int.lt_or_le f x.2 with q | q
        · rcases Int.lt_or_le f t with r | r
          · exact absurd ⟨p, q, r⟩ h
          · exact .inr (.inr r)
        · exact .inr (.inl q)
      · exact .inl p
    repeat' split
    all_goals omega
/-- The place of row a + (first i steps). -/
def stepT (a : Int) (l : List Int) (i : Nat) : Int := a + (l.take i).sum
theorem stepT_zero (a : Int) (l : List Int) : stepT a l 0 = a := by simp [stepT]
theorem stepT_len (a : Int) (l : List Int) : stepT a l l.length = a + l.sum := by simp [stepT]
theorem stepsI_T {l : List Int} {a : Int} {i : Nat} (h : i < l.length) : (stepsI a l).getD i (0, 0) = (stepT a l i, stepT a l (i + 1)) := stepsI_at l a i h
theorem stepT_lt {l : List Int} (h : ∀ n ∈ l, 1 ≤ n) {a : Int} {i : Nat} (hi : i < l.length) : stepT a l i < stepT a l (i + 1) := by
  have := sum_take_step h hi
  unfold stepT
  omega
/-- Outside of what is over rows, nothing of them passes. -/
theorem clamp_flat {l : List Int} (h : ∀ n ∈ l, 1 ≤ n) {a f t : Int} (hf : f ≤ t) {x y : Nat} (ho : IsOver (stepsI a l) f t x y) :
    ∀ (i j : Nat), i ≤ j → j ≤ l.length → (j ≤ x ∨ y ≤ i) → clampI f t (stepT a l j) = clampI f t (stepT a l i) := by
  intro i j hij hj hout
  induction j with
  | zero =>
    obtain rfl : i = 0 := by omega
    rfl
  | succ j ih =>
    rcases Nat.eq_or_lt_of_le hij with e | e
    · rw [e]
    · have h1 := ih (by omega) (by omega) (by omega)
      have h2 := ho.2.2.2 j (by rw [stepsI_len]; omega)
      rw [stepsI_T (by omega)] at h2
      have h3 := (clamp_has (x := (stepT a l j, stepT a l (j + 1))) (stepT_lt h (by omega)) hf).2 (fun hh => by have := h2.2 hh; omega)
      dsimp only at h3
      rw [h3, h1]
theorem clamp_over {l : List Int} (h : ∀ n ∈ l, 1 ≤ n) {a f t : Int} (hf : f ≤ t) {x y : Nat} (ho : IsOver (stepsI a l) f t x y) :
    clampI f t (stepT a l y) - clampI f t (stepT a l x) = clampI f t (a + l.sum) - clampI f t a := by
  have hy : y ≤ l.length := by have := ho.2.1; rwa [stepsI_len] at this
  have h1 := clamp_flat h hf ho 0 x (Nat.zero_le _) (by have := ho.1; omega) (.inl (Nat.le_refl _))
  have h2 := clamp_flat h hf ho y l.length hy (Nat.le_refl _) (.inr (Nat.le_refl _))
  rw [stepT_zero] at h1
  rw [stepT_len] at h2
  omega
theorem clamp_ends {f t r : Int} (h0 : 0 ≤ f) (h1 : f ≤ t) (h2 : t ≤ r) : clampI f t r - clampI f t 0 = t - f := by
  unfold clampI
  repeat' split
  all_goals omega
open Classical in
/-- v if p is so, else nothing. -/
noncomputable def indI (p : Prop) (v : Int) : Int := if p then v else 0
theorem indI_pos {p : Prop} {v : Int} (h : p) : indI p v = v := by unfold indI; simp [h]
theorem indI_neg {p : Prop} {v : Int} (h : ¬ p) : indI p v = 0 := by unfold indI; simp [h]
/-- Bytes of the pages that have rows from f on, ahead of t. -/
noncomputable def sizeOver (a f t : Int) : List PageS → Int
  | [] => 0
  | p :: l => indI (hasS (a, a + p.2.1) f t) p.1 + sizeOver (a + p.2.1) f t l
/-- A page's bytes, if m is within. -/
def midI (f m t : Int) (x : (Int × Int) × PageS) : Int := if x.1.1 < m ∧ m < x.1.2 ∧ f < m ∧ m < t then x.2.1 else 0
theorem sizeOver_cut {f m t : Int} (h1 : f ≤ m) (h2 : m ≤ t) : ∀ (l : List PageS) (a : Int), (∀ p ∈ l, 1 ≤ p.2.1) →
    sizeOver a f m l + sizeOver a m t l = sizeOver a f t l + (((spansL a l).zip l).map (midI f m t)).sum
  | [], a, _ => by simp [sizeOver, spansL]
  | p :: l, a, hp => by
    have ih := sizeOver_cut h1 h2 l (a + p.2.1) (fun q hq => hp q (by simp [hq]))
    have hp1 := hp p (by simp)
    simp only [sizeOver, spansL, List.zip_cons_cons, List.map_cons, List.sum_cons]
    have key : indI (hasS (a, a + p.2.1) f m) p.1 + indI (hasS (a, a + p.2.1) m t) p.1 = indI (hasS (a, a + p.2.1) f t) p.1 + midI f m t ((a, a + p.2.1), p) := by
      have e1 : hasS (a, a + p.2.1) f m ↔ a < m ∧ f < a + p.2.1 ∧ f < m := Iff.rfl
      have e2 : hasS (a, a + p.2.1) m t ↔ a < t ∧ m < a + p.2.1 ∧ m < t := Iff.rfl
      have e3 : hasS (a, a + p.2.1) f t ↔ a < t ∧ f < a + p.2.1 ∧ f < t := Iff.rfl
      unfold midI
      dsimp only
      by_cases c1 : hasS (a, a + p.2.1) f m <;> by_cases c2 : hasS (a, a + p.2.1) m t <;> by_cases c3 : hasS (a, a + p.2.1) f t
      all_goals
        first | rw [indI_pos c1] | rw [indI_neg c1]
        first | rw [indI_pos c2] | rw [indI_neg c2]
        first | rw [indI_pos c3] | rw [indI_neg c3]
        rw [e1] at c1
        rw [e2] at c2
        rw [e3] at c3
        split <;> omega
    omega
theorem sizeOver_none {f : Int} : ∀ (l : List PageS) (a : Int), sizeOver a f f l = 0
  | [], _ => rfl
  | p :: l, a => by
    simp only [sizeOver, sizeOver_none l]
    rw [indI_neg (by unfold hasS; rintro ⟨_, _, h⟩; omega)]
    rfl

end Go.Proofs.Ythmjbdpkdomofaa
/- What the pages of a query have together, part by part: plain. -/

namespace Go.Proofs.Ythmjbdpkdomofaa
open Go Go.RowKit Go.Hm
theorem sizeOver_snoc {f t : Int} : ∀ (l : List PageS) (a : Int) (p : PageS), sizeOver a f t (l ++ [p]) = sizeOver a f t l + indI (hasS (a + rowsL l, a + rowsL l + p.2.1) f t) p.1
  | [], a, p => by simp [sizeOver, rowsL]
  | q :: l, a, p => by
    have ih := sizeOver_snoc (f := f) (t := t) l (a + q.2.1) p
    simp only [List.cons_append, sizeOver, ih, rowsL_cons]
    rw [Int.add_assoc a q.2.1 (rowsL l)]
    omega
theorem sizesL_take_succ {l : List PageS} {k : Nat} (h : k < l.length) : sizesL (l.take (k + 1)) = sizesL (l.take k) + (l.getD k pageZ).1 := by
  rw [take_snoc l k pageZ h]
  simp [sizesL]
theorem rowsL_take_succ {l : List PageS} {k : Nat} (h : k < l.length) : rowsL (l.take (k + 1)) = rowsL (l.take k) + (l.getD k pageZ).2.1 := by
  rw [take_snoc l k pageZ h, rowsL_snoc]
theorem spansL_atR {l : List PageS} {a : Int} {k : Nat} (h : k < l.length) : (spansL a l).getD k (0, 0) = (a + rowsL (l.take k), a + rowsL (l.take k) + (l.getD k pageZ).2.1) := by
  rw [spansL_steps, stepsI_at _ _ _ (by rw [List.length_map]; exact h), ← List.map_take, ← List.map_take]
  rw [show ((l.take k).map (fun p : PageS => p.2.1)).sum = rowsL (l.take k) from rfl, show ((l.take (k + 1)).map (fun p : PageS => p.2.1)).sum = rowsL (l.take (k + 1)) from rfl, rowsL_take_succ h]
  congr 1
  omega
/-- The pages over rows have so many bytes. -/
theorem sizeOver_part {a f t : Int} {l : List PageS} {x y : Nat} (ho : IsOver (spansL a l) f t x y) : sizesL (l.take y) - sizesL (l.take x) = sizeOver a f t l := by
  obtain ⟨h1, h2, _, h4⟩ := ho
  rw [spansL_len] at h2 h4
  have key : ∀ k, k ≤ l.length → sizeOver a f t (l.take k) = sizesL (l.take (max x (min k y))) - sizesL (l.take x) := by
    intro k
    induction k with
    | zero =>
      intro _
      rw [show max x (min 0 y) = x by omega]
      simp [sizeOver]
    | succ k ih =>
      intro hk
      have hk' : k < l.length := by omega
      have i1 := ih (by omega)
      have i2 := h4 k hk'
      rw [spansL_atR hk'] at i2
      rw [take_snoc l k pageZ hk', sizeOver_snoc, i1]
      by_cases c : x ≤ k ∧ k < y
      · rw [indI_pos (i2.1 c), show max x (min (k + 1) y) = k + 1 by omega, show max x (min k y) = k by omega, sizesL_take_succ hk']
        omega
      · rw [indI_neg (fun e => c (i2.2 e)), show max x (min (k + 1) y) = max x (min k y) by omega]
        omega
  have := key l.length (Nat.le_refl _)
  rw [List.take_length, show max x (min l.length y) = y by omega] at this
  omega
theorem sizeOver_out {f t : Int} : ∀ (l : List PageS) (a : Int), (∀ p ∈ l, 1 ≤ p.2.1) → ¬ (a < t ∧ f < a + rowsL l ∧ f < t) → sizeOver a f t l = 0
  | [], _, _, _ => rfl
  | p :: l, a, hp, h => by
    have hp1 := hp p (by simp)
    have hpos : 0 ≤ rowsL l := by
      clear h
      induction l with
      | nil => simp [rowsL]
      | cons q l ih =>
        have := hp q (by simp)
        have := ih (fun z hz => hp z (by simp at hz ⊢; rcases hz with rfl | hz; exact .inl rfl; exact .inr (.inr hz)))
        rw [rowsL_cons]
        omega
    rw [rowsL_cons] at h
    simp only [sizeOver]
    rw [indI_neg (by unfold hasS; dsimp only; rintro ⟨x, y, z⟩; exact h ⟨x, by omega, z⟩), sizeOver_out l (a + p.2.1) (fun q hq => hp q (by simp [hq])) (by rintro ⟨x, y, z⟩; exact h ⟨by omega, by omega, z⟩)]
    rfl
/-- Bytes of the pages of a column that are needed. -/
noncomputable def colBytes (F : FootS) (f t : Int) (c : Int) (g : Nat) : Int := sizeOver (aheadR F.groups g) f t (pagesAt F.groups g c.toNat)
noncomputable def grBytes (F : FootS) (cols : List Int) (f t : Int) (g : Nat) : Int := (cols.map fun c => colBytes F f t c g).sum
noncomputable def bytesI (F : FootS) (cols : List Int) (f t : Int) : Int := ((List.range F.groups.length).map (grBytes F cols f t)).sum
noncomputable def bytesQ (ok : Bool) (F : FootS) (cols : List Int) (f t : Int) : Int := if ok then bytesI F cols f t else -1
/-- How many bytes a part's pages have. -/
def partSize (F : FootS) (p : PartS) : Int := sizesL ((pagesAt F.groups p.1.toNat p.2.1.toNat).take p.2.2.2.toNat) - sizesL ((pagesAt F.groups p.1.toNat p.2.1.toNat).take p.2.2.1.toNat)
theorem spansF_in {F : FootS} (h : FootOk F) {g : Nat} (hg : g < F.groups.length) {c : Int} (h0 : 0 ≤ c) (h1 : c < (F.cols.length : Int)) : spansF F (g : Int) c = spansL (aheadR F.groups g) (pagesAt F.groups g c.toNat) := by
  unfold spansF
  obtain ⟨ck, rfl⟩ := Int.eq_ofNat_of_zero_le h0
  rw [rightF_yes h, inB_of' hg (by omega)]
  simp
where
  inB_of' {nl ng k j : Nat} (h1 : k < ng) (h2 : j < nl) : inB nl ng (k : Int) (j : Int) = true := by
    unfold inB
    simp only [decide_eq_true_eq]
    omega
theorem chunk_at {F : FootS} (h : FootOk F) {g : Nat} (hg : g < F.groups.length) {c : Int} (h0 : 0 ≤ c) (h1 : c < (F.cols.length : Int)) : ∃ t nu, ChunkOk t nu (pagesAt F.groups g c.toNat) (F.groups.getD g groupZ).1 :=
  ⟨_, _, (foot_chunk h hg (c := c.toNat) (by omega)).1⟩
/-- There are pages over rows, uniquely. -/
theorem over_ex {l : List (Int × Int)} (hu : UpS l) (f t : Int) : ∃ a b, IsOver l f t a b := by
  by_cases hft : f < t
  · -- the first with rows behind f, and the first from t on
    have e1 : ∃ x, x ≤ l.length ∧ (∀ i, i < x → (l.getD i (0, 0)).2 ≤ f) ∧ (x < l.length → f < (l.getD x (0, 0)).2) := by
      have key : ∀ n, n ≤ l.length → ∃ x, x ≤ n ∧ (∀ i, i < x → (l.getD i (0, 0)).2 ≤ f) ∧ (x < n → f < (l.getD x (0, 0)).2) := by
        intro n
        induction n with
        | zero => intro _; exact ⟨0, Nat.le_refl _, fun i hi => by omega, fun h => by omega⟩
        | succ n ih =>
          intro hn
          obtain ⟨x, x1, x2, x3⟩ := ih (by omega)
          rcases Nat.lt_or_ge x n with e | e
          · exact ⟨x, by omega, x2, fun _ => x3 e⟩
          · obtain rfl : x = n := by omega
            rcases Int.lt_or_le f (l.getD x (0, 0)).2 with c | c
            · exact ⟨x, by omega, x2, fun _ => c⟩
            · refine ⟨x + 1, Nat.le_refl _, fun i hi => ?_, fun h => by omega⟩
              rcases Nat.eq_or_lt_of_le (Nat.le_of_lt_succ hi) with rfl | hi
              · exact c
              · exact x2 i hi
      exact key l.length (Nat.le_refl _)
    have e2 : ∃ y, y ≤ l.length ∧ (∀ i, i < y → (l.getD i (0, 0)).1 < t) ∧ (y < l.length → t ≤ (l.getD y (0, 0)).1) := by
      have key : ∀ n, n ≤ l.length → ∃ y, y ≤ n ∧ (∀ i, i < y → (l.getD i (0, 0)).1 < t) ∧ (y < n → t ≤ (l.getD y (0, 0)).1) := by
        intro n
        induction n with
        | zero => intro _; exact ⟨0, Nat.le_refl _, fun i hi => by omega, fun h => by omega⟩
        | succ n ih =>
          intro hn
          obtain ⟨x, x1, x2, x3⟩ := ih (by omega)
          rcases Nat.lt_or_ge x n with e | e
          · exact ⟨x, by omega, x2, fun _ => x3 e⟩
          · obtain rfl : x = n := by omega
            rcases Int.lt_or_le (l.getD x (0, 0)).1 t with c | c
            · refine ⟨x + 1, Nat.le_refl _, fun i hi => ?_, fun h => by omega⟩
              rcases Nat.eq_or_lt_of_le (Nat.le_of_lt_succ hi) with rfl | hi
              · exact c
              · exact x2 i hi
            · exact ⟨x, by omega, x2, fun _ => c⟩
      exact key l.length (Nat.le_refl _)
    obtain ⟨x, x1, x2, x3⟩ := e1
    obtain ⟨y, y1, y2, y3⟩ := e2
    have y4 : ∀ i, y ≤ i → i < l.length → t ≤ (l.getD i (0, 0)).1 := fun i hi hl => by
      have := (hu.1 y i hi hl).1
      have := y3 (by omega)
      omega
    have x4 : ∀ i, x ≤ i → i < l.length → f < (l.getD i (0, 0)).2 := fun i hi hl => by
      have := (hu.1 x i hi hl).2
      have := x3 (by omega)
      omega
    rcases Nat.lt_or_ge x y with e | e
    · refine ⟨x, y, by omega, y1, .inl e, fun i hi => ⟨fun ⟨h1, h2⟩ => ⟨y2 i h2, x4 i h1 hi, hft⟩, fun ⟨h1, h2, _⟩ => ⟨?_, ?_⟩⟩⟩
      · rcases Nat.lt_or_ge i x with c | c
        · have := x2 i c; omega
        · exact c
      · rcases Nat.lt_or_ge i y with c | c
        · exact c
        · have := y4 i c hi; omega
    · exact ⟨0, 0, over_far e x2 y4⟩
  · exact ⟨0, 0, over_none (fun i _ h => hft h.2.2)⟩
theorem ovr_spec {l : List (Int × Int)} (hu : UpS l) (f t : Int) : IsOver l f t (ovr l f t).1 (ovr l f t).2 := by
  obtain ⟨a, b, h⟩ := over_ex hu f t
  rw [ovr_is h]
  exact h
theorem partG_size {F : FootS} (h : FootOk F) {f t : Int} {g : Nat} (hg : g < F.groups.length) {c : Int} (h0 : 0 ≤ c) (h1 : c < (F.cols.length : Int)) : partSize F (partG F f t g c) = colBytes F f t c g := by
  obtain ⟨ty, nu, hc⟩ := chunk_at h hg h0 h1
  unfold partSize partG colBytes
  simp only [Int.toNat_natCast]
  rw [spansF_in h hg h0 h1]
  exact sizeOver_part (ovr_spec (spansL_up hc _) f t)
theorem colBytes_out {F : FootS} (h : FootOk F) {f t : Int} {g : Nat} (hg : g < F.groups.length) {c : Int} (h0 : 0 ≤ c) (h1 : c < (F.cols.length : Int)) (hn : ¬ hasS ((gSpans F).getD g (0, 0)) f t) : colBytes F f t c g = 0 := by
  obtain ⟨ty, nu, hc⟩ := chunk_at h hg h0 h1
  rw [gSpans_at hg] at hn
  have ha := (foot_ahead h hg).2.1
  refine sizeOver_out _ _ (fun p hp => (pageB_most.1 (hc.1 p hp)).1.1) ?_
  rw [hc.2]
  rintro ⟨x, y, z⟩
  exact hn ⟨x, by dsimp only; omega, z⟩
theorem map_sum_zero {α : Type} (f : α → Int) (l : List α) (h : ∀ x ∈ l, f x = 0) : (l.map f).sum = 0 := by
  induction l with
  | nil => rfl
  | cons x l ih => rw [List.map_cons, List.sum_cons, h x (by simp), ih (fun y hy => h y (by simp [hy]))]; rfl
/-- The parts' bytes are those of all pages over the rows. -/
theorem parts_bytes {F : FootS} (h : FootOk F) {cols : List Int} (hc : ∀ c ∈ cols, 0 ≤ c ∧ c < (F.cols.length : Int)) (f t : Int) : ((partsQ true F cols f t).map (partSize F)).sum = bytesI F cols f t := by
  have ho := ovr_spec (gSpans_up h) f t
  unfold partsQ groupsQ
  rw [if_pos rfl]
  generalize ovr (gSpans F) f t = ab at *
  obtain ⟨a, b⟩ := ab
  dsimp only at ho ⊢
  obtain ⟨h1, h2, _, h4⟩ := ho
  rw [gSpans_len] at h2 h4
  have k1 : ∀ n, a + n ≤ F.groups.length → ((partsTo F cols f t a n).map (partSize F)).sum = ((List.range' a n).map (grBytes F cols f t)).sum := by
    intro n
    induction n with
    | zero => intro _; simp [partsTo]
    | succ n ih =>
      intro hn
      rw [partsTo_snoc, List.map_append, List.sum_append, ih (by omega), List.range'_concat, List.map_append, List.sum_append]
      congr 1
      simp only [List.map_map, List.map_cons, List.map_nil, List.sum_cons, List.sum_nil, Int.add_zero, Nat.one_mul]
      unfold grBytes
      congr 1
      refine List.map_congr_left fun c hcm => ?_
      exact partG_size h (by omega) (hc c hcm).1 (hc c hcm).2
  rw [k1 (b - a) (by omega)]
  unfold bytesI
  have hz : ∀ g, g < F.groups.length → ¬ (a ≤ g ∧ g < b) → grBytes F cols f t g = 0 := fun g hg hn => by
    unfold grBytes
    exact map_sum_zero _ _ fun c hcm => colBytes_out h hg (hc c hcm).1 (hc c hcm).2 (fun e => hn ((h4 g hg).2 e))
  have e : List.range F.groups.length = List.range' 0 a ++ (List.range' a (b - a) ++ List.range' b (F.groups.length - b)) := by
    rw [List.range_eq_range', show F.groups.length = a + ((b - a) + (F.groups.length - b)) by omega]
    rw [← List.range'_append_1, ← List.range'_append_1]
    congr 3 <;> omega
  rw [e, List.map_append, List.sum_append, List.map_append, List.sum_append]
  rw [map_sum_zero _ (List.range' 0 a) (fun g hg => hz g (by have := List.mem_range'_1.1 hg; omega) (by have := List.mem_range'_1.1 hg; omega)), map_sum_zero _ (List.range' b _) (fun g hg => hz g (by have := List.mem_range'_1.1 hg; omega) (by have := List.mem_range'_1.1 hg; omega))]
  omega
theorem rows_sum_le {F : FootS} (h : FootOk F) : F.groups.length ≤ 65536 := by
  have key : ∀ gs : List GroupS, (∀ g ∈ gs, GroupOk F.cols g) → (gs.length : Int) ≤ (gs.map (fun g : GroupS => g.1)).sum := by
    intro gs
    induction gs with
    | nil => intro _; simp
    | cons g gs ih =>
      intro hg
      have h1 := (hg g (by simp)).1
      have := ih (fun q hq => hg q (by simp [hq]))
      rw [List.map_cons, List.sum_cons, List.length_cons]
      omega
  have h1 := key F.groups h.2.1
  have h2 := h.2.2.1
  have h3 := h.2.2.2.1
  omega

end Go.Proofs.Ythmjbdpkdomofaa
/- The contract of pick.pageSpans. -/

namespace Go.Hm
open Go Go.RowKit
/-- x[k:m], of records of so many cells. -/
theorem slice_lhS {P : Program} {t : TypeId} {sz : Nat} (ht : P.underlying t = some (.slice (P.elem t))) (hs : ∀ w, (sizeOf (P.elem t)).run P w = .ok sz w) (A : Option Addr) (n c k m : Nat) (hk : k ≤ m) (hc : m ≤ c) (w : World) :
    (Instr.sliceAt t (.slice A n c) (some (.int .i64 (k : Int))) (some (.int .i64 (m : Int))) none).run P w = .ok (.slice (if c = k then A else A.map (·.add (k * sz))) (m - k) (c - k)) w := by
  rw [run_sliceAt_slice w t _ _ _ _ ht, run_slice_lh w t A n c ht .i64 .i64 (k : Int) (m : Int) (by omega) (by omega) (by omega), hs]
  simp [Result.andThen, sliced]
theorem getD_drop {α : Type} (l : List α) (k : Nat) (d : α) (h : k < l.length) : (l.drop k).take 1 = [l.getD k d] := by
  rw [drop_getD l k d h]
  rfl

end Go.Hm

namespace Go.Proofs.Ythmjbdpkdomofaa
open Go Go.RowKit Go.Hm
/-- A column and a group alone are a footer. -/
theorem sub_ok {F : FootS} (h : FootOk F) {k j : Nat} (hk : k < F.groups.length) (hj : j < F.cols.length) :
    FootOk ⟨[F.cols.getD j colZ], (F.groups.getD k groupZ).1, [((F.groups.getD k groupZ).1, [pagesAt F.groups k j])]⟩ := by
  obtain ⟨c1, c2⟩ := foot_chunk h hk hj
  have hg := foot_group h hk
  have hr := foot_rows h hk
  have ha := (foot_ahead h hk).1
  unfold aheadR at ha
  have hs1 := foot_size h (k := k) (c := j + 1) hk
  rw [sum_take_succ sizesL _ j [] (by rw [c2]; exact hj)] at hs1
  have hs2 := sum_nonneg groupSize (F.groups.take k) (fun g hg => (h.2.1 g (List.mem_of_mem_take hg)).nonneg)
  have hs3 := sum_nonneg sizesL ((F.groups.getD k groupZ).2.take j) (fun l hl => hg.sizes l (List.mem_of_mem_take hl))
  refine ⟨⟨by simp, fun x hx => ?_, by simp⟩, fun g hgm => ?_, by simp, by dsimp only; omega, ?_⟩
  · rw [List.mem_singleton.1 hx]
    exact h.1.2.1 _ (mem_getDF colZ hj)
  · rw [List.mem_singleton.1 hgm]
    refine ⟨hg.1, by simp, fun i hi => ?_⟩
    obtain rfl : i = 0 := by simpa using hi
    exact c1
  · simp only [List.map_cons, List.map_nil, List.sum_cons, List.sum_nil, groupSize]
    unfold pagesAt
    omega
theorem sub_spans {F : FootS} (h : FootOk F) {k j : Nat} (hk : k < F.groups.length) (hj : j < F.cols.length) :
    spansF ⟨[F.cols.getD j colZ], (F.groups.getD k groupZ).1, [((F.groups.getD k groupZ).1, [pagesAt F.groups k j])]⟩ 0 0 = spansL 0 (pagesAt F.groups k j) := by
  unfold spansF
  rw [rightF_yes (sub_ok h hk hj)]
  have : inB 1 1 0 0 = true := by decide
  simp only [List.length_cons, List.length_nil, Nat.zero_add, this, Bool.and_self, if_true]
  simp [aheadR, pagesAt]
theorem sCo : Try.prog.underlying 22 = some (.slice (Try.prog.elem 22)) := by kernel_rfl
theorem zCo (w : World) : (sizeOf (Try.prog.elem 22)).run Try.prog w = .ok 3 w := by kernel_rfl
theorem sCh : Try.prog.underlying 47 = some (.slice (Try.prog.elem 47)) := by kernel_rfl
theorem zCh (w : World) : (sizeOf (Try.prog.elem 47)).run Try.prog w = .ok 1 w := by kernel_rfl
set_option maxHeartbeats 4000000 in
set_option maxRecDepth 100000 in
theorem pageSpans_any {w : World} {Ac : Option Addr} {cc : Nat} {L : List ColS} {r : Int} {Ag : Option Addr} {cg : Nat} {G : List GrD} (h : FootIn w Ac cc L Ag G) (hst : ∀ g ∈ G, ∀ x ∈ g.2.2.2, ∀ p ∈ x.2.2, statFine p.2.2) (hok : FootOk (footP L r G))
    (hcap : ∀ g ∈ G, g.2.2.2.length ≤ g.2.2.1) {k j : Nat} (hk : k < G.length) (hj : j < L.length) :
    Calls Try.prog 29 #[.agg #[.slice Ac L.length cc, .int .i64 r, .slice Ag G.length cg], .int .i64 (k : Int), .int .i64 (j : Int)] w (SpansPost (spansL 0 (pagesAt (G.map grP) k j)) w) := by
  have hkF : k < (footP L r G).groups.length := by unfold footP; simpa using hk
  have hDl : (G.getD k grZ).2.2.2.length = L.length := by
    have := (foot_group hok hkF).2.1
    unfold footP at this
    dsimp only at this
    rw [getD_mapX grP G grZ groupZ hk] at this
    unfold grP at this
    simpa using this
  have hso := sub_ok hok hkF (j := j) (by unfold footP; exact hj)
  have hss := sub_spans hok hkF (j := j) (by unfold footP; exact hj)
  have hpa : pagesAt (G.map grP) k j = ((G.getD k grZ).2.2.2.getD j chZ).2.2 := by
    unfold pagesAt
    rw [getD_mapX grP G grZ groupZ hk]
    exact getD_mapX (fun x : ChD => x.2.2) (G.getD k grZ).2.2.2 chZ [] (by omega)
  unfold footP at hso hss
  dsimp only at hso hss
  rw [getD_mapX grP G grZ groupZ hk, hpa] at hso hss
  rw [hpa]
  have hgm := mem_getDF grZ hk
  have hch := h.chunks _ hgm
  have hpg := h.pages _ hgm
  have hstg := hst _ hgm
  have hcg := hcap _ hgm
  have HG := Lib.hid h.groups
  have rC := h.cols
  have hcc := h.cap
  have hfin := h.fine _ (mem_getDF colZ hj)
  have hfew := h.few
  obtain ⟨ad, rfl, hb, -⟩ := h.groups.gr2 hk
  have FG := Lib.hid (fun (W : World) (hW : New w W) => show W.cell? (ad.add (k * 2)) = some (.int .i64 (G.getD k grZ).1) ∧ W.cell? ⟨(ad.add (k * 2)).block, (ad.add (k * 2)).off + 1, none⟩ = some (.slice (G.getD k grZ).2.1 (G.getD k grZ).2.2.2.length (G.getD k grZ).2.2.1) from by
    obtain ⟨al', e, _, f⟩ := (Reads.later HG.out hW).gr2 hk
    injection e with e
    subst e
    exact f)
  clear hok hst hcap h hgm hpa
  generalize G.getD k grZ = gg at *
  obtain ⟨gr, Ach, cch, D⟩ := gg
  dsimp only at hDl hch hpg hstg hcg FG
  unfold grP at hso hss
  dsimp only at hso hss
  have hjD : j < D.length := by omega
  have hxm := mem_getDF chZ hjD
  have hpx := hpg _ hxm
  have hsx := hstg _ hxm
  have r1 := ((hch.1.cut (k := j) (cap := cch) (by omega) hcg).take (k := 1) (by omega))
  have r2 := ((rC.cut (k := j) (cap := cc) (by omega) hcc).take (k := 1) (by omega))
  rw [if_neg (by omega)] at r1 r2
  have eCh : ((recs chV D).drop (j * 1)).take (1 * 1) = recs chV [D.getD j chZ] := by
    rw [recs_drop (sz := 1) (fun _ => rfl) D j (by omega), recs_take (sz := 1) (fun _ => rfl) _ 1 (by rw [List.length_drop]; omega), getD_drop D j chZ hjD]
  have eCo : ((recs colV L).drop (j * 3)).take (1 * 3) = recs colV [L.getD j colZ] := by
    rw [recs_drop (sz := 3) (fun _ => rfl) L j (by omega), recs_take (sz := 3) (fun _ => rfl) _ 1 (by rw [List.length_drop]; omega), getD_drop L j colZ hj]
  rw [eCh] at r1
  rw [eCo] at r2
  clear eCh eCo
  dsimp only
  generalize D.getD j chZ = x at *
  generalize L.getD j colZ = col at *
  obtain ⟨X, hX⟩ : ∃ X, X = spansL 0 x.2.2 := ⟨_, rfl⟩
  rw [← hX] at hss ⊢
  clear hX
  have SL1 := fun W => slice_lhS sCh zCh Ach D.length cch j (j + 1) (by omega) (by omega) W
  have SL2 := fun W => slice_lhS sCo zCo Ac L.length cc j (j + 1) (by omega) (by omega) W
  rw [if_neg (by omega)] at SL1 SL2
  simp only [Nat.add_sub_cancel_left] at SL1 SL2
  have B0 := Blk.new w 25 #[.slice Ac L.length cc, .int .i64 r, .slice (some ad) G.length cg]
  have b0 : New w (w.alloc (.cells #[.slice Ac L.length cc, .int .i64 r, .slice (some ad) G.length cg] 25)) := (Below.refl _ _).alloc (Nat.le_refl _) _
  have b1' : New (w.alloc (.cells #[.slice Ac L.length cc, .int .i64 r, .slice (some ad) G.length cg] 25)) ((w.alloc (.cells #[.slice Ac L.length cc, .int .i64 r, .slice (some ad) G.length cg] 25)).alloc (.cells #[.int .i64 gr, .slice Ach D.length cch] 49)) := (Below.refl _ _).alloc (Nat.le_refl _) _
  have BG := Blk.new (w.alloc (.cells #[.slice Ac L.length cc, .int .i64 r, .slice (some ad) G.length cg] 25)) 49 #[.int .i64 gr, .slice Ach D.length cch]
  have B1 := B0.below b1' B0.lt
  have b01 := New.trans b0 b1'
  simp only [World.size_alloc] at BG
  obtain ⟨x0, x1, x2⟩ := ccells B0
  obtain ⟨d0, d1⟩ := FG.out _ b0
  have hki : (k : Int) < (G.length : Int) := by omega
  have wj : IntKind.i64.wrap ((j : Int) + 1) = (j : Int) + 1 := by rw [IntKind.wrap_i64]; omega
  have ej : ((j + 1 : Nat) : Int) = (j : Int) + 1 := by omega
  rw [ej] at SL1 SL2
  have HDl := Lib.hid hDl
  clear hDl
  go_enter Try.func29, Try.ntmps29
  go_wp2_with fail
  clear x0 x1 x2 d0 d1
  refine wp_region_upT (Turns ([] : List Nat)) 10 [(1, 0), (0, 1), (1, 2), (0, 3), (1, 4), (1, 5), (1, 6), (1, 7), (1, 8), (2, 9), (2, 10)]
    (Turns.refl _) Turns.trans (by kernel_rfl) (by kernel_rfl) (by kernel_rfl) (by kernel_rfl) ?_
  have F := Lib.hid (fun (W : World) (hW : Turns ([] : List Nat) ((w.alloc (.cells #[.slice Ac L.length cc, .int .i64 r, .slice (some ad) G.length cg] 25)).alloc (.cells #[.int .i64 gr, .slice Ach D.length cch] 49)).drew W) => BG.drew.touch hW (by simp))
  have b02 := New.trans b01 (New.drew _)
  have B2 := B1.drew
  have BG2 := BG.drew
  have hzs : ((w.alloc (.cells #[.slice Ac L.length cc, .int .i64 r, .slice (some ad) G.length cg] 25)).alloc (.cells #[.int .i64 gr, .slice Ach D.length cch] 49)).drew.heap.size = w.heap.size + 1 + 1 := by simp
  obtain ⟨wa, hwa⟩ : ∃ wa, wa = ((w.alloc (.cells #[.slice Ac L.length cc, .int .i64 r, .slice (some ad) G.length cg] 25)).alloc (.cells #[.int .i64 gr, .slice Ach D.length cch] 49)).drew := ⟨_, rfl⟩
  rw [← hwa] at F b02 B2 BG2 hzs ⊢
  clear hwa B0 B1 BG b0 b1' b01
  repeat (first
    | (refine upT_quiet rfl rfl (v := ?_) (fun W hW => ?_) ?_; rotate_left; (obtain ⟨z0, z1⟩ := cells2 (F.out W hW); go_simp <;> with_reducible rfl); simp only [Act.put, List.setIfInBounds_toArray, List.set_cons_zero, List.set_cons_succ])
    | (refine upT_pure rfl rfl (v := ?_) (fun W => ?_) ?_; rotate_left; (have z9 := SL1 W; go_simp <;> with_reducible rfl); simp only [Act.put, List.setIfInBounds_toArray, List.set_cons_zero, List.set_cons_succ]))
  refine upT_call rfl rfl (fun K hK => ?_)
  go_simp
  refine hK _ _ (.inr (.inr (Turns.of_new ((Below.refl _ _).alloc (Nat.le_refl _) _)))) ?_
  clear hK
  refine upT_call rfl rfl (fun K hK => ?_)
  go_simp
  refine hK _ _ (.inr (.inl rfl)) ?_
  clear hK
  refine upT_nil ?_
  have ha : New wa (wa.alloc (.cells #[.int .i64 gr, .slice (Ach.map (fun x => x.add j)) 1 (cch - j)] 49)) := (Below.refl _ _).alloc (Nat.le_refl _) _
  have BN := Blk.new wa 49 #[.int .i64 gr, .slice (Ach.map (fun x => x.add j)) 1 (cch - j)]
  rw [hzs] at BN
  have B3 := B2.below ha B2.lt
  have BG3 := BG2.below ha BG2.lt
  have b03 := New.trans b02 ha
  obtain ⟨wb, hwb⟩ : ∃ wb, wb = wa.alloc (.cells #[.int .i64 gr, .slice (Ach.map (fun x => x.add j)) 1 (cch - j)] 49) := ⟨_, rfl⟩
  rw [← hwb] at BN B3 BG3 b03 ⊢
  clear hwb B2 BG2 b02 ha F hzs
  have F3 := Lib.hid (fun (W : World) (hW : New wb W) => And.intro (B3.below hW B3.lt) (And.intro (BG3.below hW BG3.lt) (BN.below hW BN.lt)))
  clear B3 BG3 BN
  go_wp2_with fail
  refine wp_region_up New [(true, 0), (true, 1), (true, 2), (true, 3), (true, 4), (true, 5), (true, 6), (true, 7), (true, 8), (false, 9), (true, 10), (false, 11), (true, 12)]
    New.refl New.trans (by kernel_rfl) (by kernel_rfl) (by kernel_rfl) (by kernel_rfl) ?_
  have hU := New.drew wb
  repeat (first
    | (refine up_quiet rfl rfl (v := ?_) (fun W hQ => ?_) ?_; rotate_left; (obtain ⟨F1, F2, F4⟩ := F3.out W (New.trans hU hQ); obtain ⟨y0, y1, y2⟩ := ccells F1; obtain ⟨z0, z1⟩ := cells2 F2; obtain ⟨v0, v1⟩ := cells2 F4; have z9 := SL2 W; clear F1 F2 F4; go_simp <;> with_reducible rfl); simp only [Act.put, List.setIfInBounds_toArray, List.set_cons_zero, List.set_cons_succ]))
  refine up_call rfl rfl (fun K hK => ?_)
  go_simp
  have hal : New wb.drew (wb.drew.alloc (.cells #[.int .i64 gr, .slice (Ach.map (fun x => x.add j)) 1 (cch - j)] 49)) := (Below.refl _ _).alloc (Nat.le_refl _) _
  refine hK _ _ hal ?_
  clear hK
  have b04 := New.trans b03 (New.trans hU hal)
  have RL := Reads.litR wb.drew 49 #[.int .i64 gr, .slice (Ach.map (fun x => x.add j)) 1 (cch - j)] 1 2 (recs grV [(gr, Ach.map (fun x => x.add j), cch - j, [x])]) rfl rfl
  simp only [Nat.mul_one] at r1
  have FN : FootIn (wb.drew.alloc (.cells #[.int .i64 gr, .slice (Ach.map (fun x => x.add j)) 1 (cch - j)] 49)) (Ac.map (fun x => x.add (j * 3))) (cc - j) [col] (some ⟨wb.drew.heap.size, 0, none⟩) [(gr, Ach.map (fun x => x.add j), cch - j, [x])] := by
    refine ⟨Reads.later r2 b04, ?_, by simp; omega, by simp, RL, by simp, ?_, ?_⟩
    · intro y hy
      rw [List.mem_singleton.1 hy]
      exact hfin
    · intro g hg
      rw [List.mem_singleton.1 hg]
      exact ⟨Reads.later r1 b04, by simp⟩
    · intro g hg y hy
      rw [List.mem_singleton.1 hg] at hy
      rw [List.mem_singleton.1 hy]
      exact ⟨Reads.later hpx.1 b04, hpx.2⟩
  have SP := fspans_any (r := gr) (cg := 1) FN (by intro g hg y hy; rw [List.mem_singleton.1 hg] at hy; rw [List.mem_singleton.1 hy]; exact hsx) (by simp) (g := 0) (c := 0)
  rw [show footP [col] gr [(gr, Ach.map (fun x => x.add j), cch - j, [x])] = ⟨[col], gr, [(gr, [x.2.2])]⟩ from rfl, hss] at SP
  have SP := Lib.hid SP
  clear hal FN RL F3 hss hso hpx hsx
  repeat (first
    | (refine up_quiet rfl rfl (v := ?_) (fun W hQ => ?_) ?_; rotate_left; (go_simp <;> with_reducible rfl); simp only [Act.put, List.setIfInBounds_toArray, List.set_cons_zero, List.set_cons_succ]))
  refine up_call rfl rfl (fun K hK => ?_)
  go_simp
  refine SP.out.mono ?_
  rintro e w5 ⟨A5, n5, c5, rfl, o5, b5⟩
  refine hK _ _ b5 ?_
  clear hK
  have b05 := New.trans b04 b5
  have o5 := row_base o5 (show w.heap.size ≤ _ from b04.size)
  repeat (first
    | (refine up_quiet rfl rfl (v := ?_) (fun W hQ => ?_) ?_; rotate_left; (go_simp <;> with_reducible rfl); simp only [Act.put, List.setIfInBounds_toArray, List.set_cons_zero, List.set_cons_succ]))
  refine up_nil ?_
  clear SP b5 hU b04
  go_wp2
  go_ret
  exact ⟨A5, n5, c5, rfl, o5, b05⟩

end Go.Proofs.Ythmjbdpkdomofaa
/- The contract of hypostyleref15.Merge. -/

namespace Go.Proofs.Ythmjbdpkdomofaa
open Go.RowKit Go.Hm
theorem rcompareA_any {w : World} {t : Int} {a b : CellS} (ha : near a) (hb : near b) : Calls Try.prog 62 #[.int .i64 t, cellA a, cellA b] w (NewPost (.int .i64 (cmpD t a b)) w) := rcompareD_any (near_two ha hb)

end Go.Proofs.Ythmjbdpkdomofaa
