/- Texts merged, for a claim has at most 60 files: Mem, Up, Spec, More, Touch, Law, Trod, Held, Pairs, Row, ColV, CellV, Facts. -/
import Derived.Carry
import Derived.Deep.AppendLies
import Derived.Deep.Draws
import Derived.Deep.Fields
import Derived.Deep.RegionHeld3
import Derived.Deep.Slices
import Derived.IntWalk
import Derived.Laws.CopyOwn
import Derived.Lib.Hide
import Derived.Maps.AppendAt
import Derived.OpenShut
import Derived.ProofKit
import Derived.SizedLaws
import Derived.Test.YthmjbdpkdomofaaRows
import Derived.WalkKit
import Derived.WalkLawsBesides
import Derived.WalkSpells
/- Plain lemmas on memory for walks: slices that read as lists, rows of the call's own, append of one element and of a slice, make and copy. No program is named here. -/

namespace Go.Hm
open Go.RowKit

theorem block_of_add (a : Addr) (n : Nat) : (a.add n).block = a.block := by unfold Addr.add; split <;> rfl
theorem add_of_add (a : Addr) (i j : Nat) : (a.add i).add j = a.add (i + j) := by
  unfold Addr.add
  by_cases hi : i = 0 <;> by_cases hj : j = 0 <;> simp [hi, hj, Nat.add_assoc]
theorem add_zero' (a : Addr) : a.add 0 = a := by unfold Addr.add; simp

theorem below_gr {B g : Nat} {a w w' : World} (h : Below B a w) (hg : w.grownBy w' (some g)) (hB : B ≤ g) (hBw : B ≤ a.heap.size) : Below B a w' :=
  h.grown hg (Nat.le_trans hBw h.size) (fun k hk => by injection hk with hk; omega)
/-- Two steps, of which the first leaves all. -/
theorem below_then {a b c : World} {B : Nat} (h : Below B a b) (k : Below b.heap.size b c) (hB : B ≤ a.heap.size) : Below B a c := h.trans (k.mono (Nat.le_trans hB h.size))

/-- Numbers as values of one integer kind. -/
def nums (k : IntKind) (l : List Nat) : List Value := l.map fun n : Nat => Value.int k (n : Int)
theorem nums_length (k : IntKind) (l : List Nat) : (nums k l).length = l.length := by simp [nums]
theorem nums_append (k : IntKind) (l m : List Nat) : nums k (l ++ m) = nums k l ++ nums k m := by simp [nums]
theorem nums_nil (k : IntKind) : nums k [] = [] := rfl
theorem nums_cons (k : IntKind) (n : Nat) (l : List Nat) : nums k (n :: l) = .int k (n : Int) :: nums k l := rfl
theorem nums_one (k : IntKind) (n : Nat) : nums k [n] = [.int k (n : Int)] := rfl
theorem nums_drop (k : IntKind) (l : List Nat) (i : Nat) : (nums k l).drop i = nums k (l.drop i) := by simp [nums]
theorem nums_take (k : IntKind) (l : List Nat) (i : Nat) : (nums k l).take i = nums k (l.take i) := by simp [nums]
theorem nums_at (k : IntKind) (l : List Nat) (i : Nat) (h : i < l.length) : (nums k l)[i]? = some (.int k ((l.getD i 0 : Nat) : Int)) := by
  simp [nums, List.getElem?_eq_getElem h]
theorem nums_oneCell (k : IntKind) (l : List Nat) : ∀ u ∈ nums k l, u.oneCell' = true := by
  intro u hu
  simp only [nums, List.mem_map] at hu
  obtain ⟨z, _, rfl⟩ := hu
  rfl
theorem nums_inj {k : IntKind} {l m : List Nat} (h : nums k l = nums k m) : l = m := by
  unfold nums at h
  exact (List.map_inj_right (fun a b hab => by injection hab with _ h; omega)).1 h
theorem nums_replicate (k : IntKind) (n x : Nat) : nums k (List.replicate n x) = List.replicate n (.int k (x : Int)) := by simp [nums]
theorem nums_set (k : IntKind) (l : List Nat) (i x : Nat) : (nums k l).set i (.int k (x : Int)) = nums k (l.set i x) := by simp [nums]

/-- Numbers of a signed kind as values. -/
def ints (k : IntKind) (l : List Int) : List Value := l.map (Value.int k)
theorem ints_length (k : IntKind) (l : List Int) : (ints k l).length = l.length := by simp [ints]
theorem ints_at (k : IntKind) (l : List Int) (i : Nat) (h : i < l.length) : (ints k l)[i]? = some (.int k (l.getD i 0)) := by
  simp [ints, List.getElem?_eq_getElem h]

/-- A slice value's parts hold the cells xs, below block B. -/
def Reads (w : World) (B size : Nat) (A : Option Addr) (n : Nat) (xs : List Value) : Prop :=
  xs.length = n * size ∧ (0 < n → ∃ ad, A = some ad ∧ ad.block < B ∧ ∀ j u, xs[j]? = some u → w.cell? (ad.add j) = some u)

section
variable {w w' : World} {B B' size n : Nat} {A : Option Addr} {xs : List Value}
theorem Reads.none_ : Reads w B size A 0 [] := ⟨by simp, fun h => absurd h (by omega)⟩
theorem Reads.at_ {k : Nat} (h : Reads w B 1 A n xs) (hk : k < n) : ∃ ad u, A = some ad ∧ ad.block < B ∧ xs[k]? = some u ∧ w.cell? (ad.add k) = some u := by
  obtain ⟨ad, e, hb, hc⟩ := h.2 (by omega)
  have hl : k < xs.length := by have := h.1; omega
  exact ⟨ad, xs[k], e, hb, List.getElem?_eq_getElem hl, hc k _ (List.getElem?_eq_getElem hl)⟩
theorem Reads.keep (h : Reads w B size A n xs) (hk : ∀ p : Addr, p.block < B → w'.cell? p = w.cell? p) : Reads w' B size A n xs :=
  ⟨h.1, fun hn => by
    obtain ⟨ad, e, hb, hc⟩ := h.2 hn
    exact ⟨ad, e, hb, fun j u hu => (hk _ (by rw [block_of_add]; exact hb)).trans (hc j u hu)⟩⟩
theorem Reads.more (h : Reads w B size A n xs) (hB : B ≤ B') : Reads w B' size A n xs :=
  ⟨h.1, fun hn => by
    obtain ⟨ad, e, hb, hc⟩ := h.2 hn
    exact ⟨ad, e, by omega, hc⟩⟩
theorem Reads.below (h : Reads w B size A n xs) (hb : Below B w w') : Reads w' B size A n xs := h.keep fun _ hp => hb.cell hp
theorem Reads.drew (h : Reads w B size A n xs) : Reads w.drew B size A n xs := h
theorem Reads.drewN (h : Reads w B size A n xs) (k : Nat) : Reads (w.drewN k) B size A n xs := h
theorem Reads.alloc (h : Reads w B size A n xs) (hB : B ≤ w.heap.size) (o : Obj) : Reads (w.alloc o) B size A n xs := h.keep fun p hp => World.cell?_alloc_lt w o p (by omega)
theorem Reads.setCell (h : Reads w B size A n xs) {p : Addr} (hB : B ≤ p.block) (u : Value) : Reads (w.setCell p u) B size A n xs :=
  h.keep fun q hq => World.cell?_setCell_other w p q u (fun e => by subst e; omega)
theorem Reads.grown (h : Reads w B size A n xs) {row : Option Nat} (hg : w.grownBy w' row) (hB : B ≤ w.heap.size) (hr : ∀ g, row = some g → B ≤ g) : Reads w' B size A n xs :=
  h.keep fun p hp => World.cell?_of_block (hg.block p.block (by omega) (fun e => by have := hr _ e.symm; omega))
/-- A slice is read as before where its block is not the one that was written. -/
theorem Reads.grown_far (h : Reads w w.heap.size size A n xs) {row : Option Nat} (hg : w.grownBy w' row) (hne : ∀ ad g, A = some ad → row = some g → ad.block ≠ g) : Reads w' w'.heap.size size A n xs :=
  ⟨h.1, fun hn => by
    obtain ⟨ad, e, hb, hc⟩ := h.2 hn
    refine ⟨ad, e, Nat.lt_of_lt_of_le hb hg.size, fun j u hu => ?_⟩
    rw [World.cell?_of_block (hg.block (ad.add j).block (by rw [block_of_add]; exact hb) (fun e' => hne _ _ e e'.symm (block_of_add _ _).symm))]
    exact hc j u hu⟩
theorem Reads.cut (h : Reads w B size A n xs) {k cap : Nat} (hk : k ≤ n) (hc : n ≤ cap) :
    Reads w B size (if cap = k then A else A.map (·.add (k * size))) (n - k) (xs.drop (k * size)) := by
  refine ⟨by rw [List.length_drop, h.1, Nat.sub_mul], fun hn => ?_⟩
  obtain ⟨ad, rfl, hb, hcell⟩ := h.2 (by omega)
  rw [if_neg (by omega)]
  refine ⟨ad.add (k * size), rfl, by rw [block_of_add]; exact hb, fun j u hu => ?_⟩
  rw [add_of_add]
  exact hcell _ u (by rw [← hu, List.getElem?_drop])
theorem Reads.take (h : Reads w B size A n xs) {k : Nat} (hk : k ≤ n) : Reads w B size A k (xs.take (k * size)) := by
  refine ⟨by rw [List.length_take, h.1, Nat.min_eq_left (Nat.mul_le_mul_right _ hk)], fun hn => ?_⟩
  obtain ⟨ad, rfl, hb, hcell⟩ := h.2 (by omega)
  refine ⟨ad, rfl, hb, fun j u hu => hcell j u ?_⟩
  rw [List.getElem?_take] at hu
  split at hu
  · exact hu
  · cases hu
theorem Reads.of_own {base : Nat} {e : TypeId} {c : Nat} (h : w.ownsRow base e size (.slice A n c) n xs) : Reads w w.heap.size size A n xs := by
  refine ⟨h.1, fun hn => ?_⟩
  obtain ⟨g, cap, hv, _, hlt⟩ := h.form hn
  have hA : A = some ⟨g, 0, none⟩ := by injection hv
  subst hA
  exact ⟨_, rfl, hlt, h.cells (g := g) rfl⟩
theorem Reads.len {k : IntKind} {l : List Nat} (h : Reads w B 1 A n (nums k l)) : n = l.length := by
  have := h.1
  rw [nums_length] at this
  omega
theorem Reads.lenI {k : IntKind} {l : List Int} (h : Reads w B 1 A n (ints k l)) : n = l.length := by
  have := h.1
  rw [ints_length] at this
  omega
theorem Reads.int {k : IntKind} {l : List Int} {i : Nat} (h : Reads w B 1 A n (ints k l)) (hi : i < n) : ∃ ad, A = some ad ∧ ad.block < B ∧ w.cell? (ad.add i) = some (.int k (l.getD i 0)) := by
  obtain ⟨ad, u, e, hb, hu, hc⟩ := h.at_ hi
  have hl : i < l.length := by have := h.lenI; omega
  rw [ints_at k l i hl] at hu
  injection hu with hu
  subst hu
  exact ⟨ad, e, hb, hc⟩
theorem Reads.num {k : IntKind} {l : List Nat} {i : Nat} (h : Reads w B 1 A n (nums k l)) (hi : i < n) : ∃ ad, A = some ad ∧ ad.block < B ∧ w.cell? (ad.add i) = some (.int k ((l.getD i 0 : Nat) : Int)) := by
  obtain ⟨ad, u, e, hb, hu, hc⟩ := h.at_ hi
  have hl : i < l.length := by have := h.1; rw [nums_length] at this; omega
  rw [nums_at k l i hl] at hu
  injection hu with hu
  subst hu
  exact ⟨ad, e, hb, hc⟩
end

/-- A row of the call's own, elements of one cell. -/
def Own (w : World) (base : Nat) (e : TypeId) (v : Value) (xs : List Value) : Prop := w.ownsRow base e 1 v xs.length xs

section
variable {w w' : World} {base : Nat} {e : TypeId} {v : Value} {xs : List Value}
theorem Own.nil_ : Own w base e (.slice none 0 0) [] := World.ownsRow_nil w base e 1
theorem Own.empty (w : World) (e : TypeId) : Own (w.alloc (.cells #[] e)) w.heap.size e (.slice (some ⟨w.heap.size, 0, none⟩) 0 0) [] :=
  World.ownsRow_made w #[] 0 (Nat.le_refl _) (Nat.zero_le _) rfl
theorem Own.slice (h : Own w base e v xs) : ∃ A c, v = .slice A xs.length c ∧ xs.length ≤ c ∧ c ≤ maxLen := by
  rcases h.2 with ⟨hv, hn⟩ | ⟨g, cap, cur, hv, _, _, hc, hm, _⟩
  · exact ⟨none, 0, by rw [hv, hn], by omega, by simp [maxLen]⟩
  · exact ⟨_, _, hv, hc, hm⟩
theorem Own.reads {A : Option Addr} {n c : Nat} (h : Own w base e (.slice A n c) xs) : Reads w w.heap.size 1 A n xs := by
  have hn : n = xs.length := by
    obtain ⟨A', c', hv, _⟩ := h.slice
    injection hv
  subst hn
  exact Reads.of_own h
theorem Own.len {A : Option Addr} {n c : Nat} (h : Own w base e (.slice A n c) xs) : n = xs.length := by
  obtain ⟨A', c', hv, _⟩ := h.slice
  injection hv
theorem Own.cap {A : Option Addr} {n c : Nat} (h : Own w base e (.slice A n c) xs) : n ≤ c ∧ c ≤ maxLen := by
  obtain ⟨A', c', hv, h1, h2⟩ := h.slice
  injection hv with _ e1 e2
  subst e1 e2
  exact ⟨h1, h2⟩
theorem Own.kept {row : Option Nat} (h : Own w base e v xs) (hg : w.grownBy w' row) (hne : v.ownBlock = none ∨ v.ownBlock ≠ row) : Own w' base e v xs := World.ownsRow.kept h hg hne
theorem Own.lt (h : Own w base e v xs) : ∀ k, v.ownBlock = some k → base ≤ k ∧ k < w.heap.size := World.ownsRow.lt h
/-- Kept over whatever turns nothing below a number above the row. -/
theorem Own.below {B : Nat} (h : Own w base e v xs) (hb : Below B w w') (hB : w.heap.size ≤ B) : Own w' base e v xs := by
  refine ⟨h.1, ?_⟩
  rcases h.2 with hn | ⟨g, cap, cur, rfl, hbg, hgg, rest⟩
  · exact .inl hn
  · refine .inr ⟨g, cap, cur, rfl, hbg, ?_, rest⟩
    rw [hb.block g (Nat.lt_of_lt_of_le (Array.getElem?_eq_some_iff.1 hgg).1 hB)]
    exact hgg
theorem Own.base_le {b' : Nat} (h : Own w base e v xs) (hb : b' ≤ base) : Own w b' e v xs := by
  refine ⟨h.1, ?_⟩
  rcases h.2 with hn | ⟨g, cap, cur, hv, hbg, rest⟩
  · exact .inl hn
  · exact .inr ⟨g, cap, cur, hv, Nat.le_trans hb hbg, rest⟩
theorem Own.alloc (h : Own w base e v xs) (o : Obj) : Own (w.alloc o) base e v xs := World.ownsRow.alloc h o
theorem Own.drewN (h : Own w base e v xs) (k : Nat) : Own (w.drewN k) base e v xs := h
theorem Own.frozen {A : Addr} {n c : Nat} (h : Own w base e (.slice (some A) n c) xs) (j : Nat) : w.frozen? (A.add j) = false := by
  rcases h.2 with ⟨hv, _⟩ | ⟨g, cap, cur, hv, _, hgg, _⟩
  · cases hv
  · injection hv with e1 _ _
    injection e1 with e1
    subst e1
    have hf : ((⟨g, 0, none⟩ : Addr).add j).block = g := block_of_add _ _
    unfold World.frozen?
    rw [hf, hgg]
    simp
end

/-- One element of a row of the call's own, to be read or written. -/
theorem Own.at_ {w : World} {base : Nat} {e : TypeId} {A : Option Addr} {n c i : Nat} {xs : List Value} (h : Own w base e (.slice A n c) xs) (hi : i < n) :
    ∃ g u, A = some ⟨g, 0, none⟩ ∧ base ≤ g ∧ g < w.heap.size ∧ xs[i]? = some u ∧ w.cell? ⟨g, i, none⟩ = some u ∧ w.frozen? ⟨g, i, none⟩ = false ∧
      ∀ u' : Value, Own (w.setCell ⟨g, i, none⟩ u') base e (.slice A n c) (xs.set i u') := by
  have hn := h.len
  obtain ⟨g, cap, hv, hbg, hlt⟩ := World.ownsRow.form h (by omega)
  have hA : A = some ⟨g, 0, none⟩ := by injection hv
  subst hA
  have hx : i < xs.length := by omega
  have h' : w.ownsRow base e 1 (.slice (some ⟨g, 0, none⟩) n c) n xs := by rw [hn] at h ⊢; exact h
  refine ⟨g, xs[i], rfl, hbg, hlt, List.getElem?_eq_getElem hx, ?_, h'.frozenAt i, fun u' => ?_⟩
  · rw [h'.cellAt i (by omega), List.getElem?_eq_getElem hx]
  · have := (h'.stored i u').1
    unfold Own
    rw [List.length_set, ← hn]
    exact this

/-- A block that is known whole. -/
def Blk (w : World) (g : Nat) (t : TypeId) (cs : Array Value) : Prop := w.heap[g]? = some (.cells cs t (0, 0))

section
variable {w w' : World} {g : Nat} {t : TypeId} {cs : Array Value}
theorem Blk.lt (h : Blk w g t cs) : g < w.heap.size := by
  rcases Nat.lt_or_ge g w.heap.size with hlt | hge
  · exact hlt
  · unfold Blk at h; rw [Array.getElem?_eq_none hge] at h; cases h
theorem Blk.cell (h : Blk w g t cs) (i : Nat) : w.cell? ⟨g, i, none⟩ = cs[i]? := cell_of_row w g i cs t (0, 0) h
theorem Blk.frozen (h : Blk w g t cs) (i : Nat) : w.frozen? ⟨g, i, none⟩ = false := by
  unfold Blk at h
  simp [World.frozen?, h]
theorem Blk.new (w : World) (t : TypeId) (cs : Array Value) : Blk (w.alloc (.cells cs t)) w.heap.size t cs := heap_alloc_new w _
theorem Blk.drew (h : Blk w g t cs) : Blk w.drew g t cs := h
theorem Blk.drewN (h : Blk w g t cs) (n : Nat) : Blk (w.drewN n) g t cs := h
theorem Blk.alloc (h : Blk w g t cs) (o : Obj) : Blk (w.alloc o) g t cs := (Below.heap_alloc w o g h.lt).trans h
theorem Blk.set_ (h : Blk w g t cs) (i : Nat) (u : Value) : Blk (w.setCell ⟨g, i, none⟩ u) g t (cs.setIfInBounds i u) := by
  unfold Blk at h ⊢
  simp [World.setCell, Array.getElem?_modify, h]
theorem Blk.far (h : Blk w g t cs) {p : Addr} (hp : g ≠ p.block) (u : Value) : Blk (w.setCell p u) g t cs := (Below.heap_setCell w p u g hp).trans h
theorem Blk.below {B : Nat} (h : Blk w g t cs) (hb : Below B w w') (hg : g < B) : Blk w' g t cs := (hb.block g hg).trans h
theorem Blk.grown {row : Option Nat} (h : Blk w g t cs) (hb : w.grownBy w' row) (hg : some g ≠ row) : Blk w' g t cs := (hb.block g h.lt hg).trans h
theorem Blk.ne_ {g' : Nat} {t' : TypeId} {cs' : Array Value} (h : Blk w g t cs) (h' : Blk w g' t' cs') (hne : t ≠ t') : g ≠ g' := by
  rintro rfl
  unfold Blk at h h'
  rw [h] at h'
  injection h' with h'
  injection h' with _ ht
  exact hne ht
theorem Own.blk_ne {base : Nat} {e : TypeId} {v : Value} {xs : List Value} (h : Own w base e v xs) (hg : Blk w g t cs) (hne : e ≠ t) : v.ownBlock ≠ some g := by
  rcases h.2 with ⟨rfl, _⟩ | ⟨g', cap, cur, rfl, _, hh, _⟩
  · simp [Value.ownBlock]
  · intro he
    have : g' = g := by simpa [Value.ownBlock] using he
    subst this
    exact Blk.ne_ (t := e) hh hg hne rfl
theorem Own.keepT {base : Nat} {e : TypeId} {v : Value} {xs : List Value} (h : Own w base e v xs) (hg : w.grownBy w' (some g)) (hT : Blk w g t cs) (hne : e ≠ t) : Own w' base e v xs := h.kept hg (.inr (h.blk_ne hT hne))
end

/-- A slice read as cells, in a block of elements of type e. -/
def TR (w : World) (e : TypeId) (A : Option Addr) (n : Nat) (xs : List Value) : Prop := Reads w w.heap.size 1 A n xs ∧ (0 < n → ∀ ad, A = some ad → ∃ cs, Blk w ad.block e cs)

section
variable {w w' : World} {e : TypeId} {n : Nat} {A : Option Addr} {xs : List Value}
theorem TR.nil_ : TR w e A 0 [] := ⟨⟨by simp, fun h => absurd h (by omega)⟩, fun h => absurd h (by omega)⟩
theorem TR.keep {g : Nat} {t : TypeId} {cs : Array Value} (h : TR w e A n xs) (hg : w.grownBy w' (some g)) (hT : Blk w g t cs) (hne : e ≠ t) : TR w' e A n xs := by
  refine ⟨⟨h.1.1, fun hn => ?_⟩, fun hn ad ha => ?_⟩
  · obtain ⟨ad, e1, hb, hc⟩ := h.1.2 hn
    obtain ⟨cs', hB⟩ := h.2 hn ad e1
    have hng : ad.block ≠ g := Blk.ne_ hB hT hne
    refine ⟨ad, e1, Nat.lt_of_lt_of_le hb hg.size, fun j u hu => ?_⟩
    rw [World.cell?_of_block (hg.block (ad.add j).block (by rw [block_of_add]; exact hb) (by rw [block_of_add]; simpa using hng))]
    exact hc j u hu
  · obtain ⟨cs', hB⟩ := h.2 hn ad ha
    exact ⟨cs', hB.grown hg (by simpa using Blk.ne_ hB hT hne)⟩
theorem TR.below (h : TR w e A n xs) (hb : Below w.heap.size w w') : TR w' e A n xs :=
  ⟨(h.1.below hb).more hb.size, fun hn ad ha => by
    obtain ⟨cs', hB⟩ := h.2 hn ad ha
    exact ⟨cs', hB.below hb hB.lt⟩⟩
theorem TR.grown {row : Option Nat} (h : TR w e A n xs) (hg : w.grownBy w' row) (hne : ∀ ad g, A = some ad → row = some g → ad.block ≠ g) : TR w' e A n xs :=
  ⟨h.1.grown_far hg hne, fun hn ad ha => by
    obtain ⟨cs', hB⟩ := h.2 hn ad ha
    exact ⟨cs', hB.grown hg (fun e' => hne _ _ ha e'.symm rfl)⟩⟩
theorem TR.drewN (h : TR w e A n xs) (k : Nat) : TR (w.drewN k) e A n xs := h
theorem TR.alloc (h : TR w e A n xs) (o : Obj) : TR (w.alloc o) e A n xs := h.below ((Below.refl _ _).alloc (Nat.le_refl _) o)
theorem TR.cut (h : TR w e A n xs) {k cap : Nat} (hk : k ≤ n) (hc : n ≤ cap) : TR w e (if cap = k then A else A.map (·.add k)) (n - k) (xs.drop k) := by
  have h1 := h.1.cut hk hc
  rw [Nat.mul_one] at h1
  refine ⟨h1, fun hn ad ha => ?_⟩
  rw [if_neg (by omega)] at ha
  rcases A with _ | a
  · cases ha
  · injection ha with ha
    subst ha
    obtain ⟨cs', hB⟩ := h.2 (by omega) a rfl
    exact ⟨cs', by simpa [block_of_add] using hB⟩
theorem TR.take (h : TR w e A n xs) {k : Nat} (hk : k ≤ n) : TR w e A k (xs.take k) := by
  have h1 := h.1.take hk
  rw [Nat.mul_one] at h1
  exact ⟨h1, fun hn ad ha => h.2 (by omega) ad ha⟩
theorem TR.of_own {base : Nat} {c : Nat} (h : Own w base e (.slice A n c) xs) : TR w e A n xs := by
  refine ⟨h.reads, fun hn ad ha => ?_⟩
  rcases h.2 with ⟨hv, hx⟩ | ⟨g, cap, cur, hv, _, hh, _⟩
  · injection hv with e1 e2 _
    omega
  · injection hv with e1 _ _
    rw [ha] at e1
    injection e1 with e1
    subst e1
    exact ⟨cur, hh⟩
end

/-- Bytes as a string. -/
def bstr (l : List Nat) : ByteArray := ⟨(l.map UInt8.ofNat).toArray⟩
theorem bstr_append (l m : List Nat) : bstr l ++ bstr m = bstr (l ++ m) := by
  refine ByteArray.ext ?_
  rw [ByteArray.data_append]
  simp [bstr]
theorem bstr_size (l : List Nat) : (bstr l).size = l.length := by
  show (bstr l).data.size = _
  simp [bstr]
theorem bstr_nil : bstr [] = ⟨#[]⟩ := rfl
theorem ba_loop (b : ByteArray) : ∀ (k i : Nat) (r : List UInt8), b.size - i = k → ByteArray.toList.loop b i r = r.reverse ++ b.data.toList.drop i := by
  intro k
  induction k with
  | zero =>
    intro i r h
    rw [ByteArray.toList.loop]
    have hs : b.data.toList.length ≤ i := by rw [Array.length_toList]; show b.size ≤ i; omega
    rw [if_neg (by omega), List.drop_eq_nil_of_le hs, List.append_nil]
  | succ k ih =>
    intro i r h
    rw [ByteArray.toList.loop, if_pos (by omega), ih _ _ (by omega)]
    have hs : i < b.data.toList.length := by rw [Array.length_toList]; show i < b.size; omega
    rw [List.drop_eq_getElem_cons hs, List.reverse_cons, List.append_assoc]
    congr 1
    simp only [List.singleton_append, List.cons.injEq, and_true]
    have hi : i < b.data.size := by rw [← Array.length_toList]; exact hs
    show b.data[i]! = _
    rw [getElem!_pos b.data i hi]
    rfl
theorem ba_toList (b : ByteArray) : b.toList = b.data.toList := by
  rw [ByteArray.toList, ba_loop b b.size 0 [] (by omega)]
  simp
theorem bstr_toList (l : List Nat) : (bstr l).toList = l.map UInt8.ofNat := by rw [ba_toList]; rfl
theorem bstr_beq {l m : List Nat} (hl : ∀ x ∈ l, x < 256) (hm : ∀ x ∈ m, x < 256) : ((bstr l).toList == (bstr m).toList) = decide (l = m) := by
  rw [bstr_toList, bstr_toList, Bool.eq_iff_iff]
  simp only [beq_iff_eq, decide_eq_true_eq]
  constructor
  · intro h
    refine List.ext_getElem (by simpa using congrArg List.length h) fun i h1 h2 => ?_
    have := congrArg (fun l => (l[i]?).map UInt8.toNat) h
    simp [List.getElem?_eq_getElem h1, List.getElem?_eq_getElem h2] at this
    have a1 := hl _ (List.getElem_mem h1)
    have a2 := hm _ (List.getElem_mem h2)
    omega
  · rintro rfl; rfl
theorem run_str {P : Program} {w : World} {src dst e : TypeId} (hs : P.underlying src = some (.slice e)) (he : P.underlying e = some (.int .u8)) (hd : P.underlying dst = some .string) {B n c : Nat} {A : Option Addr} {l : List Nat}
    (h : Reads w B 1 A n (nums .u8 l)) : (convert src dst (.slice A n c)).run P w = .ok (.string (bstr l)) w := by
  obtain rfl := h.len
  rcases A with _ | ad
  · have hl0 : l.length = 0 := by
      rcases Nat.eq_zero_or_pos l.length with h0 | h0
      · exact h0
      · obtain ⟨ad, h', _⟩ := h.2 h0
        cases h'
    obtain rfl : l = [] := List.eq_nil_of_length_eq_zero hl0
    rw [run_convert_bytes_string w src dst e none _ c hs he hd]
    simp [Conv.bytesToString, bstr]
    rfl
  · have hl : (loadCells ad l.length).run P w = .ok ((l.map fun n : Nat => (n : Int)).map (Value.int .u8)).toArray w := by
      have hc : ∀ j v, (nums .u8 l)[j]? = some v → w.cell? (ad.add j) = some v := by
        intro j v hv
        rcases Nat.eq_zero_or_pos l.length with h0 | h0
        · obtain rfl : l = [] := List.eq_nil_of_length_eq_zero h0
          simp [nums] at hv
        · obtain ⟨ad', e', _, hc⟩ := h.2 h0
          injection e' with e'
          subst e'
          exact hc j v hv
      have := run_loadCells_list (P := P) w ad (nums .u8 l) hc
      rw [nums_length] at this
      rw [this]
      simp [nums]
    rw [run_convert_bytes_string w src dst e _ _ c hs he hd, run_bytesToString w ad _ c _ hl, foldl_push_bytes]
    simp [bstr, ByteArray.empty, ByteArray.emptyWithCapacity]
    rfl
theorem Reads.lit (w : World) (e : TypeId) (cs : Array Value) (n : Nat) (k : IntKind) (l : List Nat) (h : cs.toList = nums k l) (hn : n = l.length) : Reads (w.alloc (.cells cs e)) (w.alloc (.cells cs e)).heap.size 1 (some ⟨w.heap.size, 0, none⟩) n (nums k l) := by
  subst hn
  refine ⟨by rw [nums_length]; simp, fun _ => ⟨_, rfl, by simp, ?_⟩⟩
  have := World.news_of_block (heap_alloc_new w (.cells cs e))
  rwa [h] at this
theorem Reads.one (w : World) (e : TypeId) (k : IntKind) (x : Nat) : Reads (w.alloc (.cells #[.int k (x : Int)] e)) (w.heap.size + 1) 1 (some ⟨w.heap.size, 0, none⟩) 1 (nums k [x]) :=
  ⟨rfl, fun _ => ⟨_, rfl, by simp, cell_one_new w _ e⟩⟩

/-- The facts on a slice type's element, off the program's table. -/
structure ElT (P : Program) (t e : TypeId) (z : Value) (size bytes : Nat) : Prop where
  ht : P.underlying t = some (.slice e)
  hi : (P.info? e).map (fun i => (i.zero, i.size, i.bytes)) = some (some z, size, bytes)
  hz : z.cells.size = size
  hs : 0 < size

section
variable {P : Program} {ops : Array Oper} {rest : List Oper} {o : Oper} {a : Act} {Q : Exit → Act → World → Prop}

/-- append(s, x) behind the block that x was laid in. -/
theorem wpList_push {w : World} {t e : TypeId} {z : Value} {bytes : Nat} (E : ElT P t e z 1 bytes) (hgd : o.guard = none) (s x : Operand)
    (ho : o.op = .call { callee := .builtin .append, args := #[s, x], argTypes := #[t, t] })
    {W : World} {B base : Nat} {v u : Value} {xs : List Value} (hown : Own w base e v xs) (hs : a.eval s = v) (hx : a.eval x = .slice (some ⟨w.heap.size, 0, none⟩) 1 1)
    (hb : Below B W w) (hbB : B ≤ base) (hbase : base ≤ w.heap.size) (h1 : u.oneCell' = true)
    (hn : (xs.length + 1) * bytes ≤ 140737488355328) (hm : xs.length + 1 ≤ maxLen)
    (h : ∀ A' c' w', xs.length + 1 ≤ c' → c' ≤ maxLen → Own w' base e (.slice A' (xs.length + 1) c') (xs ++ [u]) → w.grownBy w' v.ownBlock → Below B W w' → w.heap.size < w'.heap.size →
      (Value.ownBlock (.slice A' (xs.length + 1) c') = v.ownBlock ∨ ∃ g, Value.ownBlock (.slice A' (xs.length + 1) c') = some g ∧ w.heap.size ≤ g) → wpList P ops Q rest (a.put o.dst (.slice A' (xs.length + 1) c')) w') :
    wpList P ops Q (o :: rest) a (w.alloc (.cells #[u] e)) := by
  obtain ⟨i, hi, hz0, hz1, hz2⟩ := info_parts E.hi
  refine wpList_append_own_at _ hgd s x t ho base e i z 1 bytes E.ht hi hz0 hz1 hz2 E.hz (by omega) v xs.length xs hs (World.ownsRow.alloc hown _) ⟨w.heap.size, 0, none⟩ 1 1 [u] hx rfl (cell_one_new _ _ _) (by simpa using h1) hm hn (by simp; omega) ?_
  intro v' w' hown' hg _ hat
  have hxl : (xs ++ [u]).length = xs.length + 1 := by simp
  have hown2 : Own w' base e v' (xs ++ [u]) := by unfold Own; rw [hxl]; exact hown'
  obtain ⟨A', c', rfl, hc1, hc2⟩ := hown2.slice
  rw [hxl] at hc1 hown2 hat ⊢
  have hg2 : w.grownBy w' v.ownBlock := (World.grownBy_alloc w (.cells #[u] e) v.ownBlock).trans hg
  have hsz := hg.size
  simp at hsz
  refine h A' c' w' hc1 hc2 hown2 hg2 (hb.grown hg2 (Nat.le_trans hbB hbase) (fun k hk => by have := (hown.lt k hk).1; omega)) (by omega) ?_
  rcases hat with e1 | e1
  · exact .inl e1
  · exact .inr ⟨_, e1, by simp⟩

/-- append(s, xs...) onto a row of the call's own. -/
theorem wpList_pushes {w : World} {t e : TypeId} {z : Value} {bytes : Nat} (E : ElT P t e z 1 bytes) (hgd : o.guard = none) (s x : Operand)
    (ho : o.op = .call { callee := .builtin .append, args := #[s, x], argTypes := #[t, t] })
    {W : World} {B base : Nat} {v : Value} {xs news : List Value} {A : Option Addr} {m c : Nat} (hown : Own w base e v xs) (hr : Reads w w.heap.size 1 A m news) (hs : a.eval s = v) (hx : a.eval x = .slice A m c)
    (hb : Below B W w) (hbB : B ≤ base) (hbase : base ≤ w.heap.size) (h1 : ∀ u ∈ news, u.oneCell' = true)
    (hn : (xs.length + m) * bytes ≤ 140737488355328) (hm : xs.length + m ≤ maxLen)
    (h : ∀ A' c' w', xs.length + m ≤ c' → c' ≤ maxLen → Own w' base e (.slice A' (xs.length + m) c') (xs ++ news) → w.grownBy w' v.ownBlock → Below B W w' →
      (Value.ownBlock (.slice A' (xs.length + m) c') = v.ownBlock ∨ ∃ g, Value.ownBlock (.slice A' (xs.length + m) c') = some g ∧ w.heap.size ≤ g) → wpList P ops Q rest (a.put o.dst (.slice A' (xs.length + m) c')) w') :
    wpList P ops Q (o :: rest) a w := by
  obtain ⟨i, hi, hz0, hz1, hz2⟩ := info_parts E.hi
  have hl : news.length = m := by have := hr.1; omega
  have hxl : (xs ++ news).length = xs.length + m := by simp [hl]
  rcases A with _ | ad
  · have hm0 : m = 0 := by
      rcases Nat.eq_zero_or_pos m with h0 | h0
      · exact h0
      · obtain ⟨ad, h', _⟩ := hr.2 h0
        cases h'
    subst hm0
    have hn0 : news = [] := List.eq_nil_of_length_eq_zero hl
    subst hn0
    have hrun : ∀ ty, (Builtin.append_ #[t, t] ty #[v, .slice none 0 c]).run P w = .ok v w := by
      intro ty
      rcases hown.2 with ⟨rfl, hx0⟩ | ⟨g, cap, cur, rfl, _, _, hnc, _⟩
      · simp [Builtin.append_, run_underlying E.ht, sizeOf, typeInfo, hi, Builtin.lenOf, Builtin.firstCells]
      · simp [Builtin.append_, run_underlying E.ht, sizeOf, typeInfo, hi, Builtin.lenOf, Builtin.firstCells, hnc, storeCells]
    refine wpList_plain hgd fun K hK => ?_
    unfold Oper.wp execOp
    simp only [ho, resolve, invoke, builtin, Sem.run_bind, Sem.run_pure, Result.andThen_ok, List.map_toArray, List.map_cons, List.map_nil, hs, hx, hrun]
    obtain ⟨A', c', rfl, hc1, hc2⟩ := hown.slice
    exact hK _ _ (h A' c' w hc1 hc2 (by simpa using hown) (World.grownBy.refl w _) hb (.inl rfl))
  · have hcells : ∀ j u, news[j]? = some u → w.cell? (ad.add j) = some u := by
      intro j u hu
      rcases Nat.eq_zero_or_pos m with h0 | h0
      · subst h0
        have hn : news = [] := List.eq_nil_of_length_eq_zero hl
        subst hn
        simp at hu
      · obtain ⟨ad', h', _, hc⟩ := hr.2 h0
        injection h' with h'
        subst h'
        exact hc j u hu
    refine wpList_append_own_at _ hgd s x t ho base e i z 1 bytes E.ht hi hz0 hz1 hz2 E.hz (by omega) v xs.length xs hs hown ad m c news hx (by omega) hcells h1 hm hn hbase ?_
    intro v' w' hown' hg _ hat
    have hown2 : Own w' base e v' (xs ++ news) := by unfold Own; rw [hxl]; exact hown'
    obtain ⟨A', c', rfl, hc1, hc2⟩ := hown2.slice
    rw [hxl] at hc1 hown2 hat ⊢
    refine h A' c' w' hc1 hc2 hown2 hg (hb.grown hg (Nat.le_trans hbB hbase) (fun k hk => by have := (hown.lt k hk).1; omega)) ?_
    rcases hat with e1 | e1
    · exact .inl e1
    · exact .inr ⟨_, e1, Nat.le_refl _⟩

/-- make([]T, l, c), T of one cell: the row is the call's own. -/
theorem wpList_mk {w : World} {t e : TypeId} {z : Value} {bytes : Nat} (E : ElT P t e z 1 bytes) (hgd : o.guard = none) (lo co : Operand) (ho : o.op = Op.makeSlice t lo co)
    {W : World} {B : Nat} {kl kc : IntKind} {L C : Int} (l c : Nat) (hl : a.eval lo = .int kl L) (hc : a.eval co = .int kc C) (hL : L = (l : Int)) (hC : C = (c : Int)) (hlc : l ≤ c) (hb : Below B W w) (hbase : B ≤ w.heap.size)
    (hz1 : z.oneCell' = true) (hn : c * bytes ≤ 140737488355328) (hm : c ≤ maxLen)
    (h : ∀ w', Own w' w.heap.size e (.slice (some ⟨w.heap.size, 0, none⟩) l c) (List.replicate l z) → w.grownBy w' none → Below B W w' → w'.heap.size = w.heap.size + 1 → wpList P ops Q rest (a.put o.dst (.slice (some ⟨w.heap.size, 0, none⟩) l c)) w') :
    wpList P ops Q (o :: rest) a w := by
  obtain ⟨i, hi, hz0, hs1, hb1⟩ := info_parts E.hi
  subst hL hC
  have hzc : z.cells = #[z] := by
    revert hz1; unfold Value.oneCell' Value.cells
    cases z <;> simp
  have hmC : (c : Int) ≤ 9223372036854775807 := by have h := hm; simp only [maxLen] at h; omega
  have hbC : (i.bytes : Int) * (c : Int) ≤ 281474976710656 := by
    have h : ((i.bytes * c : Nat) : Int) ≤ 281474976710656 := by rw [hb1, Nat.mul_comm]; omega
    rwa [Int.natCast_mul] at h
  have hrun := run_make (P := P) w t e i z E.ht hi hz0 kl kc (l : Int) (c : Int) (by omega) (by omega) hbC hmC
  rw [Int.toNat_natCast, Int.toNat_natCast, hs1, Nat.mul_one, hzc] at hrun
  refine wpList_plain hgd fun K hK => ?_
  unfold Oper.wp
  simp [execOp, ho, hl, hc, hrun, Result.andThen]
  refine hK _ _ (h _ ?_ (World.grownBy_alloc _ _ _) (hb.alloc hbase _) (by simp))
  refine ⟨by simp, .inr ⟨_, c, _, by simp, Nat.le_refl _, heap_alloc_new w _, by simpa using hlc, hm, by simp [size_madeCells], ?_⟩⟩
  rw [toList_madeCells_one]
  simp [Nat.min_eq_left hlc]

/-- copy onto the head of a row of the call's own. -/
theorem wpList_cp {w : World} {t e : TypeId} {z : Value} {bytes : Nat} (E : ElT P t e z 1 bytes) (hgd : o.guard = none) (d s : Operand)
    (ho : o.op = .call { callee := .builtin .copy, args := #[d, s], argTypes := #[t, t] })
    {W : World} {B base : Nat} {xs ys : List Value} {D A : Option Addr} {m c n cd : Nat} (hown : Own w base e (.slice D n cd) xs) (hr : Reads w w.heap.size 1 A m ys) (hd : a.eval d = .slice D n cd) (hs : a.eval s = .slice A m c)
    (r : Nat) (hmr : Nat.min m n = r) (hb : Below B W w) (hbB : B ≤ base) (h1 : ∀ u ∈ ys, u.oneCell' = true)
    (h : ∀ w', Own w' base e (.slice D n cd) (ys.take n ++ xs.drop m) → w.grownBy w' (Value.ownBlock (.slice D n cd)) → Below B W w' → w'.heap.size = w.heap.size → wpList P ops Q rest (a.put o.dst (.int .i64 (r : Int))) w') :
    wpList P ops Q (o :: rest) a w := by
  subst hmr
  obtain ⟨i, hi, hz0, hs1, hb1⟩ := info_parts E.hi
  have hsz : (P.info? e).map (·.size) = some 1 := by simp [hi, hs1]
  have hln := hown.len
  have hym : ys.length = m := by have := hr.1; omega
  by_cases h0 : Nat.min m n = 0
  · have hrun : ∀ ty, (Builtin.copy_ #[t, t] ty #[.slice D n cd, .slice A m c]).run P w = .ok (goInt 0) w := fun ty => run_copy_none w t t ty e D A n cd m c E.ht hsz h0
    refine wpList_plain hgd fun K hK => ?_
    unfold Oper.wp execOp
    simp only [ho, resolve, invoke, builtin, Sem.run_bind, Sem.run_pure, Result.andThen_ok, List.map_toArray, List.map_cons, List.map_nil, hd, hs, hrun]
    have hx : ys.take n ++ xs.drop m = xs := by
      rcases Nat.min_eq_zero_iff.1 h0 with hm | hn
      · subst hm
        have : ys = [] := List.eq_nil_of_length_eq_zero hym
        subst this
        simp
      · subst hn
        have : xs = [] := List.eq_nil_of_length_eq_zero hln.symm
        subst this
        simp
    have := h w (by rw [hx]; exact hown) (World.grownBy.refl w _) hb rfl
    rw [h0] at this
    exact hK _ _ this
  · have hmin : 0 < m ∧ 0 < n := by
      constructor
      · rcases Nat.eq_zero_or_pos m with e' | e'
        · subst e'; exact absurd (Nat.zero_min n) h0
        · exact e'
      · rcases Nat.eq_zero_or_pos n with e' | e'
        · subst e'; exact absurd (Nat.min_zero m) h0
        · exact e'
    obtain ⟨ad, rfl, _, hcell⟩ := hr.2 hmin.1
    rcases hown.2 with ⟨hv, hx0⟩ | ⟨g, cap, cur, hv, hbg, hgg, hnc, hcm, hcs, htake⟩
    · omega
    · injection hv with e1 e2 e3
      subst e1 e3
      have hcl : (ys.take n).length = Nat.min m n := by rw [List.length_take, hym, Nat.min_comm]
      have hmn : Nat.min m n ≤ n := Nat.min_le_right m n
      have hcl2 : (ys.take n).length ≤ n := by rw [hcl]; exact hmn
      have hsrc : ∀ j v, (ys.take n)[j]? = some v → w.cell? (ad.add j) = some v := fun j v hv => hcell j v (by
          rw [List.getElem?_take] at hv
          split at hv
          · exact hv
          · cases hv)
      have hrun : ∀ ty, (Builtin.copy_ #[t, t] ty #[.slice (some ⟨g, 0, none⟩) n cd, .slice (some ad) m c]).run P w =
          .ok (goInt (ys.take n).length) (w.setRow g (cur.toList.take 0 ++ ys.take n ++ cur.toList.drop (0 + (ys.take n).length)).toArray) := fun ty =>
        run_copy_row P w t t ty e g 0 n cd ad m c cur e (ys.take n) E.ht hsz hgg hcl hsrc (by rw [hcl]; omega) (fun v hv => h1 v (List.mem_of_mem_take hv))
      refine wpList_plain hgd fun K hK => ?_
      unfold Oper.wp execOp
      simp only [ho, resolve, invoke, builtin, Sem.run_bind, Sem.run_pure, Result.andThen_ok, List.map_toArray, List.map_cons, List.map_nil, hd, hs, hrun, hcl]
      have hlen : (ys.take n ++ xs.drop m).length = xs.length := by
        rw [List.length_append, hcl, List.length_drop, ← hln]
        simp only [Nat.min_def]
        split <;> omega
      refine hK _ _ (h _ ?_ ⟨rfl, rfl, rfl, by simp [World.setRow], fun k _ hk => setRow_other w g k _ (fun e => hk (by simp [Value.ownBlock, e]))⟩ (below_setRow hb (Nat.le_trans hbB hbg) _) (by simp [World.setRow]))
      refine ⟨by simp, .inr ⟨g, cd, _, by rw [hlen, hln], hbg, setRow_heap w g cur _ e _ hgg, by rw [hlen]; exact hnc, hcm, ?_, ?_⟩⟩
      · simp only [List.take_zero, List.nil_append, Nat.zero_add, List.size_toArray, List.length_append, hcl, List.length_drop, Array.length_toList]
        omega
      · rw [hlen, Nat.mul_one]
        simp only [List.take_zero, List.nil_append, Nat.zero_add]
        rw [Nat.mul_one] at htake
        rw [List.take_append, hcl, List.take_of_length_le (by omega)]
        congr 1
        rw [List.take_drop, show Nat.min m n + (xs.length - Nat.min m n) = xs.length by omega, htake]
        by_cases hmn' : m ≤ n
        · rw [show Nat.min m n = m from Nat.min_eq_left hmn']
        · rw [show Nat.min m n = n from Nat.min_eq_right (by omega), List.drop_eq_nil_of_le (by omega), List.drop_eq_nil_of_le (by omega)]

/-- append(s, x) of numbers: the list of numbers grows by one. -/
theorem wpList_pushN {w : World} {t e : TypeId} {z : Value} {bytes : Nat} (E : ElT P t e z 1 bytes) (hgd : o.guard = none) (s x : Operand)
    (ho : o.op = .call { callee := .builtin .append, args := #[s, x], argTypes := #[t, t] })
    {W : World} {B base n c : Nat} {A : Option Addr} {u : Value} {k : IntKind} {l : List Nat} (hown : Own w base e (.slice A n c) (nums k l)) (hs : a.eval s = .slice A n c) (hx : a.eval x = .slice (some ⟨w.heap.size, 0, none⟩) 1 1)
    (y : Nat) (hu : u = .int k (y : Int)) (hb : Below B W w) (hbB : B ≤ base) (hbase : base ≤ w.heap.size)
    (hn : (n + 1) * bytes ≤ 140737488355328) (hm : n + 1 ≤ maxLen)
    (h : ∀ A' c' w', n + 1 ≤ c' → c' ≤ maxLen → Own w' base e (.slice A' (n + 1) c') (nums k (l ++ [y])) → w.grownBy w' (Value.ownBlock (.slice A n c)) → Below B W w' → w.heap.size < w'.heap.size →
      (Value.ownBlock (.slice A' (n + 1) c') = Value.ownBlock (.slice A n c) ∨ ∃ g, Value.ownBlock (.slice A' (n + 1) c') = some g ∧ w.heap.size ≤ g) → wpList P ops Q rest (a.put o.dst (.slice A' (n + 1) c')) w') :
    wpList P ops Q (o :: rest) a (w.alloc (.cells #[u] e)) := by
  obtain rfl : n = l.length := by have := hown.len; rwa [nums_length] at this
  subst hu
  refine wpList_push E hgd s x ho hown hs hx hb hbB hbase rfl (by rw [nums_length]; exact hn) (by rw [nums_length]; exact hm) ?_
  rw [nums_length, nums_append, nums_one] at *
  exact h

/-- append(s, xs...) of numbers. -/
theorem wpList_pushesN {w : World} {t e : TypeId} {z : Value} {bytes : Nat} (E : ElT P t e z 1 bytes) (hgd : o.guard = none) (s x : Operand)
    (ho : o.op = .call { callee := .builtin .append, args := #[s, x], argTypes := #[t, t] })
    {W : World} {B base n c m c2 : Nat} {A A2 : Option Addr} {k : IntKind} {l l2 : List Nat} (hown : Own w base e (.slice A n c) (nums k l)) (hr : Reads w w.heap.size 1 A2 m (nums k l2)) (hs : a.eval s = .slice A n c) (hx : a.eval x = .slice A2 m c2)
    (hb : Below B W w) (hbB : B ≤ base) (hbase : base ≤ w.heap.size) (hn : (n + m) * bytes ≤ 140737488355328) (hm : n + m ≤ maxLen)
    (h : ∀ A' c' w', n + m ≤ c' → c' ≤ maxLen → Own w' base e (.slice A' (n + m) c') (nums k (l ++ l2)) → w.grownBy w' (Value.ownBlock (.slice A n c)) → Below B W w' →
      (Value.ownBlock (.slice A' (n + m) c') = Value.ownBlock (.slice A n c) ∨ ∃ g, Value.ownBlock (.slice A' (n + m) c') = some g ∧ w.heap.size ≤ g) → wpList P ops Q rest (a.put o.dst (.slice A' (n + m) c')) w') :
    wpList P ops Q (o :: rest) a w := by
  obtain rfl : n = l.length := by have := hown.len; rwa [nums_length] at this
  refine wpList_pushes E hgd s x ho hown hr hs hx hb hbB hbase (nums_oneCell _ _) (by rw [nums_length]; exact hn) (by rw [nums_length]; exact hm) ?_
  rw [nums_length, nums_append] at *
  exact h

end

end Go.Hm
/- A region that draws its order, walked once: what only reads is carried out as soon as it may be, its value holding in every later world; what makes or turns memory comes up in one order alone. No program is named here. -/

namespace Go.Hm
open Go.RowKit

section
variable {P : Program} {ops : Array Oper} {Q : Exit → Act → World → Prop}

theorem wpAnyH_weaken {S S' : World → Prop} (h : ∀ w, S w → S' w) : ∀ (fuel : Nat) (listed : Array Bool) (a : Act) (w : World), wpAnyH P .any ops Q S fuel listed a w → wpAnyH P .any ops Q S' fuel listed a w
  | 0, _, _, _, hh => hh
  | fuel + 1, _, _, _, hh => ⟨hh.1, fun i hi => wpOp_mono (fun a' w' h' => ⟨h w' h'.1, wpAnyH_weaken h fuel _ a' w' h'.2⟩) (hh.2 i hi)⟩

/-- The order is one that may be gone through so: 'true': only reads; 'false': alone ready. -/
def upOk (ops : Array Oper) : Array Bool → List (Bool × Nat) → Bool
  | listed, [] => (Region.ready .any ops listed).isEmpty
  | listed, (true, i) :: r => (Region.ready .any ops listed).contains i && (Region.free .any ops listed i && upOk ops (listed.setIfInBounds i true) r)
  | listed, (false, i) :: r => decide (Region.ready .any ops listed = [i]) && upOk ops (listed.setIfInBounds i true) r

def wpUp (P : Program) (ops : Array Oper) (R : World → World → Prop) (Q : Exit → Act → World → Prop) : List (Bool × Nat) → Act → World → Prop
  | [], a, w => Q .normal a w
  | (true, i) :: r, a, w => ∃ o v, ops[i]? = some o ∧ ((Region.wanted o (yielded ops a.tmps) = true ∧ ∀ w', R w w' → (execOp a.eval o).run P w' = .ok (.value v) w') ∨ (Region.wanted o (yielded ops a.tmps) = false ∧ v = undef)) ∧ wpUp P ops R Q r (a.put o.dst v) w
  | (false, i) :: r, a, w => ∃ o, ops[i]? = some o ∧ if Region.wanted o (yielded ops a.tmps) then o.wp P a w (fun a' w' => R w w' ∧ wpUp P ops R Q r a' w') (NoPanic Q) else wpUp P ops R Q r (a.put o.dst undef) w

variable {R : World → World → Prop}
theorem wpAnyH_of_up (hrefl : ∀ w, R w w) (htrans : ∀ {x y z}, R x y → R y z → R x z) (hs : Region.noSelect ops = true) :
    ∀ (ord : List (Bool × Nat)) (fuel : Nat) (listed : Array Bool) (a : Act) (w : World), ord.length ≤ fuel → upOk ops listed ord = true → wpUp P ops R Q ord a w → wpAnyH P .any ops (NoPanic Q) (R w) fuel listed a w := by
  intro ord
  induction ord with
  | nil =>
    intro fuel listed a w _ hok h
    exact wpAnyH_done (by simpa [upOk] using hok) (NoPanic.normal h) fuel
  | cons x r ih =>
    obtain ⟨b, i⟩ := x
    intro fuel listed a w hl hok h
    obtain ⟨fuel, rfl⟩ : ∃ k, fuel = k + 1 := ⟨fuel - 1, by simp at hl; omega⟩
    have hl' : r.length ≤ fuel := by simp at hl; omega
    cases b with
    | true =>
      obtain ⟨o, v, ho, hv, hr⟩ := h
      simp only [upOk, Bool.and_eq_true] at hok
      obtain ⟨h1, h2, h3⟩ := hok
      exact wpAnyH_take ho hs h2 h1 (fun _ _ _ hp => hp) hv (hrefl w) (ih fuel _ _ w hl' h3 hr)
    | false =>
      obtain ⟨o, ho, hc⟩ := h
      simp only [upOk, Bool.and_eq_true, decide_eq_true_eq] at hok
      obtain ⟨h1, h3⟩ := hok
      refine wpAnyH_all h1 (by simp) ?_
      intro j hj
      obtain rfl : j = i := by simpa using hj
      unfold wpOp
      simp only [ho]
      split
      · rename_i hw
        rw [if_pos hw] at hc
        exact .inl (Oper.wp_mono (fun a' w' hh => ⟨hh.1, wpAnyH_weaken (fun z hz => htrans hh.1 hz) fuel _ a' w' (ih fuel _ a' w' hl' h3 hh.2)⟩) hc)
      · rename_i hw
        rw [if_neg hw] at hc
        exact ⟨hrefl w, ih fuel _ _ w hl' h3 hc⟩

theorem wp_region_up {id : Nat} {a : Act} {w : World} (R : World → World → Prop) (ord : List (Bool × Nat)) (hrefl : ∀ w, R w w) (htrans : ∀ {x y z}, R x y → R y z → R x z) (hm : P.follows .mixedOrders = true)
    (hs : Region.noSelect ops = true) (hl : decide (ord.length ≤ ops.size) = true) (hok : upOk ops (Array.replicate ops.size false) ord = true) (h : wpUp P ops R Q ord a w.drew) : (Code.region id ops true).wp P Q a w :=
  wp_region_noPanic (wp_region_held hm (wpAnyH_of_up hrefl htrans hs ord ops.size _ a _ (by simpa using hl) hok h))

/-- Only new memory. -/
abbrev New (w w' : World) : Prop := Below w.heap.size w w'
theorem New.refl (w : World) : New w w := Below.refl _ _
theorem New.trans {x y z : World} (h : New x y) (k : New y z) : New x z := Below.trans h (Below.mono k h.size)
theorem New.drew (w : World) : New w w.drew := (Below.refl _ _).drew

/-- Only block g, and new memory. -/
abbrev Far (g : Nat) (w w' : World) : Prop := w.grownBy w' (some g)
theorem Far.refl (g : Nat) (w : World) : Far g w w := World.grownBy.refl w _
theorem Far.trans {g : Nat} {x y z : World} (h : Far g x y) (k : Far g y z) : Far g x z := World.grownBy.trans h k
theorem Far.drew (g : Nat) (w : World) : Far g w w.drew := ⟨rfl, rfl, rfl, Nat.le_refl _, fun _ _ _ => rfl⟩
theorem Far.of_new {g : Nat} {w w' : World} (h : New w w') : Far g w w' := ⟨h.os, h.tape, h.output, h.size, fun k hk _ => h.block k hk⟩
theorem Far.below {g B : Nat} {a w w' : World} (h : Below B a w) (hg : Far g w w') (hB : B ≤ g) (hBw : B ≤ a.heap.size) : Below B a w' := below_gr h hg hB hBw

variable {i : Nat} {r : List (Bool × Nat)} {a : Act} {w : World} {o : Oper} {v : Value}
theorem up_nil (h : Q .normal a w) : wpUp P ops R Q [] a w := h

section
variable {dst : Option Tmp} {op : Op} {ty : TypeId} {pos : String} {af : Array Edge} {gd : Option (Nat × Bool)}
theorem up_quiet (ho : ops[i]? = some ⟨dst, op, ty, pos, af, gd⟩) (hw : Region.wanted ⟨dst, op, ty, pos, af, gd⟩ (yielded ops a.tmps) = true) (hv : ∀ w', R w w' → (execOp a.eval ⟨dst, op, ty, pos, af, gd⟩).run P w' = .ok (.value v) w') (h : wpUp P ops R Q r (a.put dst v) w) : wpUp P ops R Q ((true, i) :: r) a w :=
  ⟨_, v, ho, .inl ⟨hw, hv⟩, h⟩
theorem up_skip {b : Bool} (ho : ops[i]? = some ⟨dst, op, ty, pos, af, gd⟩) (hw : Region.wanted ⟨dst, op, ty, pos, af, gd⟩ (yielded ops a.tmps) = false) (h : wpUp P ops R Q r (a.put dst undef) w) : wpUp P ops R Q ((b, i) :: r) a w := by
  cases b
  · exact ⟨_, ho, by rw [if_neg (by simp [hw])]; exact h⟩
  · exact ⟨_, undef, ho, .inr ⟨hw, rfl⟩, h⟩
theorem up_call (ho : ops[i]? = some ⟨dst, op, ty, pos, af, gd⟩) (hw : Region.wanted ⟨dst, op, ty, pos, af, gd⟩ (yielded ops a.tmps) = true) (h : ∀ K : Act → World → Prop, (∀ a' w', R w w' → wpUp P ops R Q r a' w' → K a' w') → Oper.wp P ⟨dst, op, ty, pos, af, gd⟩ a w K (NoPanic Q)) : wpUp P ops R Q ((false, i) :: r) a w :=
  ⟨_, ho, by rw [if_pos hw]; exact h _ fun _ _ h1 h2 => ⟨h1, h2⟩⟩
/-- string(x). -/
theorem up_str {src dst' e : TypeId} {x : Operand} {A : Option Addr} {n c : Nat} {l : List Nat} (hs : P.underlying src = some (.slice e)) (he : P.underlying e = some (.int .u8)) (hd : P.underlying dst' = some .string)
    (ho : ops[i]? = some ⟨dst, .convert src dst' x, ty, pos, af, gd⟩) (hw : Region.wanted ⟨dst, .convert src dst' x, ty, pos, af, gd⟩ (yielded ops a.tmps) = true) (hx : a.eval x = .slice A n c) {w0 : World} (hr : Reads w0 w0.heap.size 1 A n (nums .u8 l)) (hU : New w0 w)
    (h : wpUp P ops New Q r (a.put dst (.string (bstr l))) w) : wpUp P ops New Q ((true, i) :: r) a w :=
  up_quiet ho hw (fun w' hb => by
    have := run_str (c := c) hs he hd (hr.below (New.trans hU hb))
    simp [execOp, hx, this, Result.andThen]) h
end
end

theorem run_sadd (P : Program) (l m : List Nat) (h : l.length + m.length ≤ 9223372036854775807) (w : World) : (Op.stringOp .add (bstr l) (bstr m)).run P w = .ok (.string (bstr (l ++ m))) w := by
  rw [run_string_add_sum (P := P) w (bstr l) (bstr m) (by rw [bstr_size, bstr_size]; exact h), bstr_append]

end Go.Hm
/- Plain functions on lists of numbers that the contracts speak of, and what holds of them. No program is named here. -/

namespace Go.Hm

/-- The bytes of a number, seven bits each, the lowest first. -/
def vp (n : Nat) : List Nat := if _h : n < 128 then [n] else (n % 128 + 128) :: vp (n / 128)
theorem vp_lt {n : Nat} (h : n < 128) : vp n = [n] := by rw [vp, dif_pos h]
theorem vp_ge {n : Nat} (h : ¬ n < 128) : vp n = (n % 128 + 128) :: vp (n / 128) := by rw [vp, dif_neg h]
theorem vp_len (k : Nat) : ∀ n, n < 128 ^ (k + 1) → (vp n).length ≤ k + 1 := by
  induction k with
  | zero => intro n h; rw [vp_lt (by omega)]; simp
  | succ k ih =>
    intro n h
    by_cases hn : n < 128
    · rw [vp_lt hn]; simp
    · rw [vp_ge hn]
      have := ih (n / 128) (Nat.div_lt_of_lt_mul (by rw [Nat.pow_succ] at h; omega))
      simp; omega
theorem vp_len10 {n : Nat} (h : n < 18446744073709551616) : (vp n).length ≤ 10 := vp_len 9 n (by omega)
theorem vp_pos (n : Nat) : 0 < (vp n).length := by
  by_cases hn : n < 128
  · rw [vp_lt hn]; simp
  · rw [vp_ge hn]; simp

/-- So many bytes of a number, the lowest first. -/
def low (n : Nat) : Nat → List Nat
  | 0 => []
  | k + 1 => low n k ++ [n / 256 ^ k % 256]
theorem low_len (n k : Nat) : (low n k).length = k := by induction k <;> simp_all [low]

/-- The number of bytes, the lowest first. -/
def num : List Nat → Nat
  | [] => 0
  | b :: l => b + 256 * num l
theorem num_snoc (l : List Nat) (b : Nat) : num (l ++ [b]) = num l + b * 256 ^ l.length := by
  induction l with
  | nil => simp [num]
  | cons a l ih => simp only [List.cons_append, num, ih, List.length_cons, Nat.pow_succ]; rw [Nat.mul_add, Nat.add_assoc]; congr 2; rw [Nat.mul_left_comm, Nat.mul_comm 256]
theorem num_lt (l : List Nat) (h : ∀ x ∈ l, x < 256) : num l < 256 ^ l.length := by
  induction l with
  | nil => simp [num]
  | cons a l ih =>
    have h1 := ih fun x hx => h x (by simp [hx])
    have h2 := h a (by simp)
    simp only [num, List.length_cons, Nat.pow_succ]
    omega
theorem take_snoc {α : Type} (l : List α) (k : Nat) (d : α) (h : k < l.length) : l.take (k + 1) = l.take k ++ [l.getD k d] := by
  rw [List.take_add_one, List.getElem?_eq_getElem h]
  simp [h]
theorem num_low (n k : Nat) : num (low n k) = n % 256 ^ k := by
  induction k with
  | zero => simp [low, num, Nat.mod_one]
  | succ k ih =>
    rw [low, num_snoc, ih, low_len, Nat.pow_succ, Nat.mod_mul, Nat.mul_comm (256 ^ k)]
theorem low_lt (n k : Nat) : ∀ x ∈ low n k, x < 256 := by
  induction k with
  | zero => intro x hx; simp [low] at hx
  | succ k ih =>
    intro x hx
    simp only [low, List.mem_append, List.mem_singleton] at hx
    rcases hx with hx | hx
    · exact ih x hx
    · subst hx; exact Nat.mod_lt _ (by omega)

/-- Numbers of eight bytes, one behind the other. -/
def cat8 (l : List Nat) : List Nat := l.flatMap fun x => low x 8
theorem cat8_nil : cat8 [] = [] := rfl
theorem cat8_cons (x : Nat) (l : List Nat) : cat8 (x :: l) = low x 8 ++ cat8 l := rfl
theorem cat8_append (l m : List Nat) : cat8 (l ++ m) = cat8 l ++ cat8 m := by simp [cat8]
theorem cat8_len (l : List Nat) : (cat8 l).length = 8 * l.length := by
  induction l with
  | nil => rfl
  | cons x l ih => rw [cat8_cons, List.length_append, low_len, ih, List.length_cons]; omega
theorem cat8_lt (l : List Nat) : ∀ x ∈ cat8 l, x < 256 := by
  intro x hx
  simp only [cat8, List.mem_flatMap] at hx
  obtain ⟨y, _, hy⟩ := hx
  exact low_lt y 8 x hy
theorem drop_cons_getD {α : Type} (l : List α) (k : Nat) (d : α) (h : k < l.length) : l.drop k = l.getD k d :: l.drop (k + 1) := by
  rw [List.drop_eq_getElem_cons h]; simp [h]
theorem num_low_of_lt {n k : Nat} (h : n < 256 ^ k) : num (low n k) = n := by rw [num_low, Nat.mod_eq_of_lt h]

end Go.Hm
/- More lemmas on memory and numbers for walks. No program is named here. -/

namespace Go.Hm
open Go.RowKit

/-- One element of a row of the call's own that begins a known block. -/
theorem Own.at0 {w : World} {base : Nat} {e : TypeId} {g n c i : Nat} {xs : List Value} (h : Own w base e (.slice (some ⟨g, 0, none⟩) n c) xs) (hi : i < n) :
    ∃ u, xs[i]? = some u ∧ base ≤ g ∧ g < w.heap.size ∧ w.cell? ⟨g, i, none⟩ = some u ∧ w.frozen? ⟨g, i, none⟩ = false ∧
      ∀ u' : Value, Own (w.setCell ⟨g, i, none⟩ u') base e (.slice (some ⟨g, 0, none⟩) n c) (xs.set i u') := by
  obtain ⟨g', u, he, h1, h2, h3, h4, h5, h6⟩ := h.at_ hi
  injection he with he
  injection he with he
  subst he
  exact ⟨u, h3, h1, h2, h4, h5, h6⟩
theorem Own.num0 {w : World} {base : Nat} {e : TypeId} {g n c i : Nat} {k : IntKind} {l : List Nat} (h : Own w base e (.slice (some ⟨g, 0, none⟩) n c) (nums k l)) (hi : i < n) :
    base ≤ g ∧ g < w.heap.size ∧ w.cell? ⟨g, i, none⟩ = some (.int k ((l.getD i 0 : Nat) : Int)) ∧ w.frozen? ⟨g, i, none⟩ = false ∧
      ∀ y : Nat, Own (w.setCell ⟨g, i, none⟩ (.int k (y : Int))) base e (.slice (some ⟨g, 0, none⟩) n c) (nums k (l.set i y)) := by
  have hn := h.len
  rw [nums_length] at hn
  obtain ⟨u, h3, h1, h2, h4, h5, h6⟩ := h.at0 hi
  rw [nums_at k l i (by omega)] at h3
  injection h3 with h3
  subst h3
  exact ⟨h1, h2, h4, h5, fun y => by rw [← nums_set]; exact h6 _⟩
theorem divN (a b : Nat) (ha : a ≤ 9223372036854775807) : IntKind.i64.wrap ((a : Int) / (b : Int)) = ((a / b : Nat) : Int) := by
  rw [← Int.natCast_ediv]
  have : a / b ≤ a := Nat.div_le_self _ _
  generalize a / b = q at *
  exact IntWalk.i64_in _ (by omega)
/-- Eighths: the byte and the bit of a place. -/
theorem eighths (a : Nat) (ha : a ≤ 9223372036854775807) : ∃ q r : Nat, Hid (q = a / 8 ∧ r = a % 8) ∧ 8 * q ≤ a ∧ r < 8 ∧ a < 8 * q + 8 ∧ IntKind.i64.wrap ((a : Int) / 8) = (q : Int) ∧ (a : Int).tmod 8 = (r : Int) :=
  ⟨a / 8, a % 8, Lib.hid ⟨rfl, rfl⟩, by omega, by omega, by omega, divN a 8 ha, by rw [Int.tmod_eq_emod_of_nonneg (by omega)]; omega⟩
/-- One bit of a number. -/
theorem bit64 (y j : Nat) (hy : y ≤ 18446744073709551615) : ∃ t : Nat, Hid (t = y / 2 ^ j % 2) ∧ t ≤ 1 ∧ bits .and .u64 ((y : Int) / 2 ^ j) 1 = (t : Int) ∧ IntKind.u8.wrap (t : Int) = (t : Int) := by
  refine ⟨y / 2 ^ j % 2, Lib.hid rfl, by omega, ?_, by rw [IntKind.wrap_u8]; omega⟩
  have h1 : y / 2 ^ j ≤ y := Nat.div_le_self _ _
  have := u64_and_nat (y / 2 ^ j) 1 (by omega) (by omega)
  rw [Nat.and_one_is_mod] at this
  rw [← this]
  congr 1
theorem getD_mem {L : List Nat} {k : Nat} {P : Nat → Prop} (h : ∀ x ∈ L, P x) (hk : k < L.length) : P (L.getD k 0) := by
  rw [List.getD_eq_getElem?_getD, List.getElem?_eq_getElem hk]
  exact h _ (List.getElem_mem hk)
/-- The byte x, y's bit behind it, at 2^r. -/
theorem or_bit8 (b r q : Nat) (hb : b < 2 ^ r) (hc : q ≤ 1) (hr : r < 8) : bits .or .u8 (b : Int) ((q : Int) * 2 ^ r % 256) = ((b + q * 2 ^ r : Nat) : Int) := by
  have h7 : 2 ^ r ≤ 2 ^ 7 := Nat.pow_le_pow_right (by omega) (by omega)
  have hq : q * 2 ^ r ≤ 1 * 2 ^ r := Nat.mul_le_mul_right _ hc
  have e : ((q : Int) * 2 ^ r % 256) = ((q * 2 ^ r : Nat) : Int) := by
    have e2 : ((q * 2 ^ r : Nat) : Int) = (q : Int) * 2 ^ r := by simp
    rw [← e2]; omega
  rw [e, u8_or_nat _ _ (by omega) (by omega), Nat.or_comm, ← Nat.mul_comm (2 ^ r), ← Nat.two_pow_add_eq_or_of_lt hb, Nat.add_comm]

end Go.Hm
/- A world in which only some known blocks were turned, and new ones made. No program is named here. -/

namespace Go.Hm
open Go.RowKit
/-- Only the blocks of T, and new memory. -/
structure Turns (T : List Nat) (w w' : World) : Prop where
  os : w'.os = w.os
  tape : w'.tape = w.tape
  output : w'.output = w.output
  size : w.heap.size ≤ w'.heap.size
  block : ∀ k, k < w.heap.size → k ∉ T → w'.heap[k]? = w.heap[k]?

section
variable {T T' : List Nat} {w w' w2 : World}
theorem Turns.refl (T : List Nat) (w : World) : Turns T w w := ⟨rfl, rfl, rfl, Nat.le_refl _, fun _ _ _ => rfl⟩
theorem Turns.trans (h : Turns T w w') (k : Turns T w' w2) : Turns T w w2 :=
  ⟨k.os.trans h.os, k.tape.trans h.tape, k.output.trans h.output, Nat.le_trans h.size k.size, fun i hi hT => (k.block i (Nat.lt_of_lt_of_le hi h.size) hT).trans (h.block i hi hT)⟩
theorem Turns.more (h : Turns T w w') (hs : ∀ x ∈ T, x ∈ T') : Turns T' w w' := ⟨h.os, h.tape, h.output, h.size, fun i hi hT => h.block i hi fun hx => hT (hs i hx)⟩
theorem Turns.of_new (h : Below w.heap.size w w') : Turns T w w' := ⟨h.os, h.tape, h.output, h.size, fun k hk _ => h.block k hk⟩
theorem Turns.of_far {g : Nat} (h : w.grownBy w' (some g)) (hg : g ∈ T) : Turns T w w' :=
  ⟨h.os, h.tape, h.output, h.size, fun k hk hT => h.block k hk (fun e => by injection e with e; subst e; exact hT hg)⟩
theorem Turns.of_none (h : w.grownBy w' none) : Turns T w w' := ⟨h.os, h.tape, h.output, h.size, fun k hk _ => h.block k hk (by simp)⟩
theorem Turns.drew (T : List Nat) (w : World) : Turns T w w.drew := ⟨rfl, rfl, rfl, Nat.le_refl _, fun _ _ _ => rfl⟩
theorem Turns.drewN (T : List Nat) (w : World) (n : Nat) : Turns T w (w.drewN n) := ⟨rfl, rfl, rfl, Nat.le_refl _, fun _ _ _ => rfl⟩
theorem Turns.setCell {g i : Nat} (u : Value) (hg : g ∈ T) (w : World) : Turns T w (w.setCell ⟨g, i, none⟩ u) :=
  ⟨rfl, rfl, rfl, by simp [World.setCell], fun k _ hT => Below.heap_setCell _ _ _ _ (by rintro rfl; exact hT hg)⟩
theorem Turns.new_ {x : Nat} (h : Turns (x :: T) w w') (hx : w.heap.size ≤ x) : Turns T w w' :=
  ⟨h.os, h.tape, h.output, h.size, fun i hi hT => h.block i hi fun hm => by
    rcases List.mem_cons.1 hm with rfl | hm
    · omega
    · exact hT hm⟩
theorem Turns.below {B : Nat} {a : World} (h : Below B a w) (k : Turns T w w') (hT : ∀ x ∈ T, B ≤ x) (hB : B ≤ a.heap.size) : Below B a w' :=
  ⟨k.os.trans h.os, k.tape.trans h.tape, k.output.trans h.output, Nat.le_trans h.size k.size, fun i hi => (k.block i (by have := h.size; omega) (fun hm => by have := hT i hm; omega)).trans (h.block i hi)⟩
theorem Turns.new (k : Turns T w w') (hT : ∀ x ∈ T, w.heap.size ≤ x) : Below w.heap.size w w' := k.below (Below.refl _ _) hT (Nat.le_refl _)
theorem Blk.touch {g : Nat} {t : TypeId} {cs : Array Value} (h : Blk w g t cs) (k : Turns T w w') (hg : g ∉ T) : Blk w' g t cs := (k.block g h.lt hg).trans h
theorem Own.touch {base : Nat} {e : TypeId} {v : Value} {xs : List Value} (h : Own w base e v xs) (k : Turns T w w') (hT : ∀ x ∈ T, v.ownBlock ≠ some x) : Own w' base e v xs := by
  refine ⟨h.1, ?_⟩
  rcases h.2 with hn | ⟨g, cap, cur, rfl, hbg, hgg, rest⟩
  · exact .inl hn
  · refine .inr ⟨g, cap, cur, rfl, hbg, ?_, rest⟩
    rw [k.block g (Array.getElem?_eq_some_iff.1 hgg).1 (fun hm => hT g hm rfl)]
    exact hgg
theorem Reads.touch {B size n : Nat} {A : Option Addr} {xs : List Value} (h : Reads w B size A n xs) (k : Turns T w w') (hT : ∀ x ∈ T, B ≤ x) (hB : B ≤ w.heap.size) : Reads w' B size A n xs :=
  h.keep fun p hp => World.cell?_of_block (k.block p.block (by omega) (fun hm => by have := hT _ hm; omega))
theorem Turns.far {g : Nat} (h : Turns [g] w w') : w.grownBy w' (some g) := ⟨h.os, h.tape, h.output, h.size, fun k hk hne => h.block k hk (by intro hm; simp at hm; subst hm; exact hne rfl)⟩
theorem new_size {a : World} (h : Below a.heap.size a w) (k : Below w.heap.size w w') : a.heap.size ≤ w'.heap.size := Nat.le_trans h.size k.size
end
theorem Own.row {w : World} {base : Nat} {e : TypeId} {v : Value} {xs : List Value} (h : Own w base e v xs) : ∀ g, v.ownBlock = some g → ∃ cs, Blk w g e cs := by
  intro g hg
  rcases h.2 with ⟨rfl, _⟩ | ⟨g', cap, cur, rfl, _, hh, _⟩
  · simp [Value.ownBlock] at hg
  · have : g' = g := by simpa [Value.ownBlock] using hg
    subst this
    exact ⟨cur, hh⟩
theorem Blk.push {w w' : World} {g : Nat} {t e : TypeId} {cs : Array Value} {base : Nat} {v : Value} {xs : List Value} (h : Blk w g t cs) (o : Own w base e v xs) (hg : w.grownBy w' v.ownBlock) (hne : e ≠ t) : Blk w' g t cs :=
  h.grown hg (fun e' => o.blk_ne h hne e'.symm)
/-- A literal's cells are read. -/
theorem Reads.litV (w : World) (e : TypeId) (cs : Array Value) (n : Nat) (xs : List Value) (h : cs.toList = xs) (hn : n = xs.length) : Reads (w.alloc (.cells cs e)) (w.alloc (.cells cs e)).heap.size 1 (some ⟨w.heap.size, 0, none⟩) n xs := by
  subst hn
  refine ⟨by simp, fun _ => ⟨_, rfl, by simp, ?_⟩⟩
  have := World.news_of_block (heap_alloc_new w (.cells cs e))
  rwa [h] at this
theorem Reads.over {w : World} {A : Option Addr} {n s : Nat} {xs : List Value} (h : Reads w w.heap.size s A n xs) (o : Obj) : Reads (w.alloc o) (w.alloc o).heap.size s A n xs := (h.alloc (Nat.le_refl _) o).more (by simp)
theorem New.alloc {w w' : World} (o : Obj) (h : Below (w.alloc o).heap.size (w.alloc o) w') : New w w' := ((Below.refl _ w).alloc (Nat.le_refl _) o).trans (h.mono (by simp))
theorem drewN_add (w : World) (m n : Nat) : (w.drewN m).drewN n = w.drewN (m + n) := by simp [World.drewN, Nat.add_assoc]
theorem new_drewN (w : World) (k : Nat) : New w (w.drewN k) := ⟨rfl, rfl, rfl, Nat.le_refl _, fun _ _ => rfl⟩
/-- A slice that was read before is read later. -/
theorem Reads.later {w0 w : World} {A : Option Addr} {n s : Nat} {xs : List Value} (h : Reads w0 w0.heap.size s A n xs) (hb : Below w0.heap.size w0 w) : Reads w w.heap.size s A n xs := (h.below hb).more hb.size
theorem Own.later {w0 w : World} {base : Nat} {e : TypeId} {v : Value} {xs : List Value} (h : Own w0 base e v xs) (hb : Below w0.heap.size w0 w) : Own w base e v xs := h.below hb (Nat.le_refl _)

end Go.Hm
/- From a walk of a law, which ends with true and leaves all that was there as it was, to the given statement's form. No program is named here. -/

namespace Go.Hm
open Go.RowKit Go.WideShapes Go.ChangeShapes

section
variable {H : Type} {enc : TypeId × Value → H} {P : Program}

theorem trodAll_below (hl : laidOutB P = true) {W W' : World} {sp : Nat → Bool} (hb : Below W.heap.size W W') :
    ∀ {ts : List TypeId} {vs : List Value} {ds : List (DataW H)} {ps : List MemPlace}, (∀ t ∈ ts, P.readableRec t = true ∧ t < P.types.size) → DataW.TrodAll enc P W 0 (fun _ => true) true ts vs ds ps →
      (∀ p ∈ ps, p.block < W.heap.size) → (∀ p ∈ ps, sp p.block = true) → DataW.TrodAll enc P W' 0 sp true ts vs ds ps
  | [], _, _, _, _, h, _, _ => by
    obtain ⟨rfl, rfl, rfl⟩ := trodAll_nil h
    rfl
  | t :: ts, _, _, _, hr, h, hlt, hsp => by
    obtain ⟨v, vs, d, ds, p, q, rfl, rfl, rfl, h1, h2⟩ := trodAll_cons h
    refine ⟨p, q, ?_, trodAll_below hl hb (fun t ht => hr t (by simp [ht])) h2 (fun x hx => hlt x (by simp [hx])) (fun x hx => hsp x (by simp [hx])), rfl⟩
    exact WideElems.Trod_stays hl (hr t (by simp)).1 (hr t (by simp)).2 h1 (fun x hx => hb.same (hlt x (by simp [hx]))) (fun x hx => hsp x (by simp [hx]))

theorem post_law {f : Func} {s : ChangeSpec} {tb : TypeId} {W W' : World} {args : Array Value} {ds gs : List (DataW H)} {before : List MemPlace}
    (hl : laidOutB P = true) (hrt : f.resultTypes = #[tb]) (htb : P.underlying tb = some .bool) (hr : ∀ t ∈ f.params.toList, P.readableRec t = true ∧ t < P.types.size)
    (hv : s.vars = []) (hs : s.fn H (ds ++ gs) = { results := [.lit (.bool true)], args := ds })
    (hW : DataW.Whole enc P f.params.toList s.vars false W args.toList ds gs before) (hb : Below W.heap.size W W') :
    s.post enc P f false true false false W args (.bool true) W' := by
  have hlt : ∀ p ∈ before, p.block < W.heap.size := fun p hp => hW.lt p hp
  obtain ⟨p, q, hA, hV, rfl, hfz, hnd⟩ := id hW
  rw [hv] at hV
  obtain ⟨rfl, rfl⟩ := trodVars_none hV
  simp only [List.append_nil] at hlt
  have hargs := trodAll_below (sp := fun b => decide (b < W.heap.size)) hl hb hr hA hlt (fun x hx => by simpa using hlt x hx)
  refine ⟨ds, [], p ++ [], [], p, [], hW, ?_, ?_, ?_, World.keptBut_mono (fun x hx => ⟨hx, ?_⟩) (hb.frame (· ∈ p ++ [])), fun h => by cases h⟩
  · rw [hs, hrt]
    exact trodAll_mk1 (shut_bool htb true)
  · rw [hs]; exact hargs
  · rw [hs, hv]; rfl
  · exact .inr (.inl (by simpa using hx))
end

theorem sized_at {H : Type} {P : Program} {ts : List TypeId} {ds : List (DataW H)} (h : (DataW.weightsEach P ts ds).all (· ≤ reachBytes) = true) {j : Nat} {t : TypeId} {d : DataW H} (ht : ts[j]? = some t) (hd : ds[j]? = some d) :
    ∀ n ∈ d.weights P t, n ≤ reachBytes := fun n hn => by
  have := List.all_eq_true.1 h n (DataW.weights_mem_each ht hd n hn)
  simpa using this

/-- A slice of unsigned numbers comes in. -/
theorem open_nums {H : Type} {enc : TypeId × Value → H} {P : Program} {W : World} {t e : TypeId} {k : IntKind} {base : Nat} {v : Value} {d : DataW H} {ps : List MemPlace} {sz : Nat}
    (ht : P.underlying t = some (.slice e)) (he : P.underlying e = some (.int k)) (hc : P.cellsOf e = 1) (hs : k.signed = false) (hby : P.bytesOf e = sz)
    (hval : Value.okWide P W .any base t v) (h : DataW.Trod enc P W 0 (fun _ => true) true t v d ps) (hlt : ∀ p ∈ ps, p.block < W.heap.size) (hw : ∀ n ∈ d.weights P t, n ≤ reachBytes) :
    ∃ A c, ∃ l : List Nat, v = .slice A l.length c ∧ l.length ≤ c ∧ c ≤ maxLen ∧ c * sz ≤ reachBytes ∧ Reads W W.heap.size 1 A l.length (nums k l) ∧ ∀ x ∈ l, (x : Int) ≤ k.max := by
  obtain ⟨a0, len, cap, rfl⟩ := okWide_slice ht hval
  obtain ⟨fuel, hf⟩ := h
  rcases open_ints ht he hc hf with ⟨hcs, hx⟩ | ⟨a, len', cap', zs, hcs, _, hl, hm, hz, hx, hcell, hwz⟩
  · have : a0 = none ∧ len = 0 ∧ cap = 0 := by simpa [Value.cells] using hcs
    obtain ⟨rfl, rfl, rfl⟩ := this
    exact ⟨none, 0, [], rfl, by simp, by simp [maxLen], by simp, ⟨by simp [nums], fun h => by simp at h⟩, by simp⟩
  · have : a0 = some a ∧ len = len' ∧ cap = cap' := by simpa [Value.cells] using hcs
    obtain ⟨rfl, rfl, rfl⟩ := this
    simp only [Prod.mk.injEq] at hx
    obtain ⟨rfl, rfl⟩ := hx
    rw [if_pos rfl] at hz
    have hzl : (zs.take len).length = len := by rw [List.length_take]; omega
    have hll : ((zs.take len).map Int.toNat).length = len := by rw [List.length_map, hzl]
    have hnn : ∀ n ∈ zs, 0 ≤ n ∧ n ≤ k.max := fun n hn => by
      have := hwz n hn
      simpa [Lit.wf, IntKind.min, hs] using this
    have hnums : nums k ((zs.take len).map Int.toNat) = (zs.take len).map (Value.int k) := by
      unfold nums
      rw [List.map_map]
      refine List.map_congr_left fun n hn => ?_
      have := (hnn n (List.mem_of_mem_take hn)).1
      simp [Int.toNat_of_nonneg this]
    refine ⟨some a, cap, (zs.take len).map Int.toNat, by rw [hll], by rw [hll]; exact hl, hm, ?_, ⟨by rw [nums_length, hll]; simp, fun hn => ⟨a, rfl, ?_, ?_⟩⟩, ?_⟩
    · have h1 := hw (cap * sz) (by
        simp only [DataW.weights, ht, hby, List.mem_cons]
        left
        congr 1
        simp [lits, hz]
        omega)
      exact h1
    · rw [hll] at hn
      exact hlt (.cell a.block a.off) (by
        unfold MemPlace.row
        simp only [List.mem_map, List.mem_range]
        exact ⟨0, by omega, rfl⟩)
    · intro j u hu
      rw [hnums] at hu
      have hj : j < (zs.take len).length := by
        rcases Nat.lt_or_ge j (zs.take len).length with h1 | h1
        · exact h1
        · rw [List.getElem?_eq_none (by simpa using h1)] at hu
          cases hu
      have hjz : j < zs.length := by rw [hzl] at hj; omega
      rw [hcell j hjz]
      rw [List.getElem?_map, List.getElem?_take_of_lt (by rw [hzl] at hj; exact hj), List.getElem?_eq_getElem hjz] at hu
      simpa [List.getD, List.getElem?_eq_getElem hjz] using hu
    · intro x hx
      simp only [List.mem_map] at hx
      obtain ⟨n, hn, rfl⟩ := hx
      have := hnn n (List.mem_of_mem_take hn)
      rw [Int.toNat_of_nonneg this.1]
      exact this.2

/-- A slice of numbers comes in. -/
theorem open_ints_ {H : Type} {enc : TypeId × Value → H} {P : Program} {W : World} {t e : TypeId} {k : IntKind} {base : Nat} {v : Value} {d : DataW H} {ps : List MemPlace} {sz : Nat}
    (ht : P.underlying t = some (.slice e)) (he : P.underlying e = some (.int k)) (hc : P.cellsOf e = 1) (hby : P.bytesOf e = sz)
    (hval : Value.okWide P W .any base t v) (h : DataW.Trod enc P W 0 (fun _ => true) true t v d ps) (hlt : ∀ p ∈ ps, p.block < W.heap.size) (hw : ∀ n ∈ d.weights P t, n ≤ reachBytes) :
    ∃ A c, ∃ l : List Int, v = .slice A l.length c ∧ l.length ≤ c ∧ c ≤ maxLen ∧ c * sz ≤ reachBytes ∧ Reads W W.heap.size 1 A l.length (ints k l) ∧ ∀ x ∈ l, k.min ≤ x ∧ x ≤ k.max := by
  obtain ⟨a0, len, cap, rfl⟩ := okWide_slice ht hval
  obtain ⟨fuel, hf⟩ := h
  rcases open_ints ht he hc hf with ⟨hcs, hx⟩ | ⟨a, len', cap', zs, hcs, _, hl, hm, hz, hx, hcell, hwz⟩
  · have : a0 = none ∧ len = 0 ∧ cap = 0 := by simpa [Value.cells] using hcs
    obtain ⟨rfl, rfl, rfl⟩ := this
    exact ⟨none, 0, [], rfl, by simp, by simp [maxLen], by simp, ⟨by simp [ints], fun h => by simp at h⟩, by simp⟩
  · have : a0 = some a ∧ len = len' ∧ cap = cap' := by simpa [Value.cells] using hcs
    obtain ⟨rfl, rfl, rfl⟩ := this
    simp only [Prod.mk.injEq] at hx
    obtain ⟨rfl, rfl⟩ := hx
    rw [if_pos rfl] at hz
    have hzl : (zs.take len).length = len := by rw [List.length_take]; omega
    refine ⟨some a, cap, zs.take len, by rw [hzl], by rw [hzl]; exact hl, hm, ?_, ⟨by rw [ints_length, hzl]; simp, fun hn => ⟨a, rfl, ?_, ?_⟩⟩, ?_⟩
    · have h1 := hw (cap * sz) (by
        simp only [DataW.weights, ht, hby, List.mem_cons]
        left
        congr 1
        simp [lits, hz]
        omega)
      exact h1
    · rw [hzl] at hn
      exact hlt (.cell a.block a.off) (by
        unfold MemPlace.row
        simp only [List.mem_map, List.mem_range]
        exact ⟨0, by omega, rfl⟩)
    · intro j u hu
      unfold ints at hu
      have hj : j < (zs.take len).length := by
        rcases Nat.lt_or_ge j (zs.take len).length with h1 | h1
        · exact h1
        · rw [List.getElem?_eq_none (by simpa using h1)] at hu
          cases hu
      have hjz : j < zs.length := by rw [hzl] at hj; omega
      rw [hcell j hjz]
      rw [List.getElem?_map, List.getElem?_take_of_lt (by rw [hzl] at hj; exact hj), List.getElem?_eq_getElem hjz] at hu
      simpa [List.getD, List.getElem?_eq_getElem hjz] using hu
    · intro x hx
      have := hwz x (List.mem_of_mem_take hx)
      simpa [Lit.wf] using this

theorem law_lifted {C : Checked} {os : Os} {f : FuncId} {fn : Func} {s : ChangeSpec} {tb : TypeId} {H : Type} {enc : TypeId × Value → H}
    (own : ownKnob C.prog.godebug = none) (hl : laidOutB C.prog = true) (started : os.Started) (noInit : C.prog.inits.idxOf? f = none) (hfn : C.prog.funcs[f]? = some fn)
    (hrt : fn.resultTypes = #[tb]) (htb : C.prog.underlying tb = some .bool) (hr : ∀ t ∈ fn.params.toList, C.prog.readableRec t = true ∧ t < C.prog.types.size)
    (hv : s.vars = []) (hs : ∀ ds : List (DataW H), ds.length = fn.params.size → s.fn H ds = { results := [.lit (.bool true)], args := ds })
    (witness : ∃ (w : World) (tape : Tape) (i : Input), w.os = os ∧ (w.forCall tape i).Shaped C.prog ∧ i.vars = [] ∧ Input.okWide C.prog (w.forCall tape i) .any w.heap.size f i ∧
      s.pre6 enc C.prog fn [] false (w.forCall tape i).memory i.args ∧ ({} : Assume).holds C.prog (lone (Frame.enter C.prog f i.args .normal) [] (w.forCall tape i)))
    (contract : ∀ (W : World) (base : Nat) (args : Array Value) (ds : List (DataW H)) (ps : List MemPlace),
      (∀ (j : Nat) t v, fn.params[j]? = some t → args[j]? = some v → Value.okWide C.prog W .any base t v) →
      DataW.TrodAll enc C.prog W 0 (fun _ => true) true fn.params.toList args.toList ds ps → (∀ p ∈ ps, p.block < W.heap.size) → W.noneFrozen ps →
      (DataW.weightsEach C.prog fn.params.toList ds).all (· ≤ reachBytes) = true →
      Calls C.prog f args W fun e W' => e = .returned (.bool true) ∧ Below W.heap.size W W') :
    ReturnsInHanded {} C os f .any (s.pre6 enc C.prog fn [] false) (s.post enc C.prog fn false true false false) := by
  refine returnsInHanded_of_change_sized own started noInit hfn witness ?_
  intro W base args ds gs before hval hW _ hsz _
  have hlt : ∀ p ∈ before, p.block < W.heap.size := fun p hp => hW.lt p hp
  obtain ⟨p, q, hA, hV, rfl, hfz, _⟩ := id hW
  rw [hv] at hV
  obtain ⟨rfl, rfl⟩ := trodVars_none hV
  have hvt : s.plain.varTypes C.prog = [] := by simp [ChangeSpec.plain, DataSpec.varTypes, hv]
  rw [hvt, List.append_nil, List.append_nil] at hsz
  simp only [List.append_nil] at hlt hfz
  refine (contract W base args ds p hval hA hlt hfz hsz).mono fun e W' ⟨he, hb⟩ => ⟨_, he, ?_⟩
  have hdl : ∀ {ts : List TypeId} {vs : List Value} {ds : List (DataW H)} {ps : List MemPlace}, DataW.TrodAll enc C.prog W 0 (fun _ => true) true ts vs ds ps → ds.length = ts.length := by
    intro ts
    induction ts with
    | nil => intro vs ds ps h; obtain ⟨_, rfl, _⟩ := trodAll_nil h; rfl
    | cons t ts ih => intro vs ds ps h; obtain ⟨v, vs', d, ds', p', q', _, rfl, _, _, h2⟩ := trodAll_cons h; simp [ih h2]
  exact post_law hl hrt htb hr hv (by rw [List.append_nil]; exact hs ds (by simpa using hdl hA)) hW hb

end Go.Hm
/- Many parameters taken apart. No program is named here. -/

namespace Go.Hm
open Go Go.RowKit Go.WideShapes Go.ChangeShapes
variable {H : Type} {enc : TypeId × Value → H} {P : Program} {w : World} {base : Nat} {spare : Nat → Bool} {held : Bool}
theorem args_eq {args : Array Value} {l : List Value} (h : args.toList = l) : args = l.toArray := by rw [← h, Array.toArray_toList]
theorem trodAll_five {t0 t1 t2 t3 t4 : TypeId} {args : Array Value} {ds : List (DataW H)} {ps : List MemPlace} (h : DataW.TrodAll enc P w base spare held [t0, t1, t2, t3, t4] args.toList ds ps) :
    ∃ v0 v1 v2 v3 v4 d0 d1 d2 d3 d4 p0 p1 p2 p3 p4, args = #[v0, v1, v2, v3, v4] ∧ ds = [d0, d1, d2, d3, d4] ∧ ps = p0 ++ (p1 ++ (p2 ++ (p3 ++ p4))) ∧ DataW.Trod enc P w base spare held t0 v0 d0 p0 ∧ DataW.Trod enc P w base spare held t1 v1 d1 p1 ∧ DataW.Trod enc P w base spare held t2 v2 d2 p2 ∧
      DataW.Trod enc P w base spare held t3 v3 d3 p3 ∧ DataW.Trod enc P w base spare held t4 v4 d4 p4 := by
  obtain ⟨v0, r0, d0, e0, p0, q0, ha, rfl, rfl, h0, h'⟩ := trodAll_cons h
  obtain ⟨v1, r1, d1, e1, p1, q1, rfl, rfl, rfl, h1, h'⟩ := trodAll_cons h'
  obtain ⟨v2, r2, d2, e2, p2, q2, rfl, rfl, rfl, h2, h'⟩ := trodAll_cons h'
  obtain ⟨v3, r3, d3, e3, p3, q3, rfl, rfl, rfl, h3, h'⟩ := trodAll_cons h'
  obtain ⟨v4, r4, d4, e4, p4, q4, rfl, rfl, rfl, h4, h'⟩ := trodAll_cons h'
  obtain ⟨rfl, rfl, rfl⟩ := trodAll_nil h'
  exact ⟨v0, v1, v2, v3, v4, d0, d1, d2, d3, d4, p0, p1, p2, p3, p4, args_eq ha, rfl, by simp, h0, h1, h2, h3, h4⟩
theorem trodAll_six {t0 t1 t2 t3 t4 t5 : TypeId} {args : Array Value} {ds : List (DataW H)} {ps : List MemPlace} (h : DataW.TrodAll enc P w base spare held [t0, t1, t2, t3, t4, t5] args.toList ds ps) :
    ∃ v0 v1 v2 v3 v4 v5 d0 d1 d2 d3 d4 d5 p0 p1 p2 p3 p4 p5, args = #[v0, v1, v2, v3, v4, v5] ∧ ds = [d0, d1, d2, d3, d4, d5] ∧ ps = p0 ++ (p1 ++ (p2 ++ (p3 ++ (p4 ++ p5)))) ∧ DataW.Trod enc P w base spare held t0 v0 d0 p0 ∧ DataW.Trod enc P w base spare held t1 v1 d1 p1 ∧ DataW.Trod enc P w base spare held t2 v2 d2 p2 ∧
      DataW.Trod enc P w base spare held t3 v3 d3 p3 ∧ DataW.Trod enc P w base spare held t4 v4 d4 p4 ∧ DataW.Trod enc P w base spare held t5 v5 d5 p5 := by
  obtain ⟨v0, r0, d0, e0, p0, q0, ha, rfl, rfl, h0, h'⟩ := trodAll_cons h
  obtain ⟨v1, r1, d1, e1, p1, q1, rfl, rfl, rfl, h1, h'⟩ := trodAll_cons h'
  obtain ⟨v2, r2, d2, e2, p2, q2, rfl, rfl, rfl, h2, h'⟩ := trodAll_cons h'
  obtain ⟨v3, r3, d3, e3, p3, q3, rfl, rfl, rfl, h3, h'⟩ := trodAll_cons h'
  obtain ⟨v4, r4, d4, e4, p4, q4, rfl, rfl, rfl, h4, h'⟩ := trodAll_cons h'
  obtain ⟨v5, r5, d5, e5, p5, q5, rfl, rfl, rfl, h5, h'⟩ := trodAll_cons h'
  obtain ⟨rfl, rfl, rfl⟩ := trodAll_nil h'
  exact ⟨v0, v1, v2, v3, v4, v5, d0, d1, d2, d3, d4, d5, p0, p1, p2, p3, p4, p5, args_eq ha, rfl, by simp, h0, h1, h2, h3, h4, h5⟩

end Go.Hm
/- What comes in, read as plain data of any type, part by part. No program is named here. -/

namespace Go.Hm
open Go Go.RowKit Go.WideShapes Go.ChangeShapes Go.Deep

section
variable {H : Type} {enc : TypeId × Value → H} {P : Program} {W : World} {t e : TypeId} {cs : List Value}

/-- The cells cs are a datum of type t that came in. -/
def Held (enc : TypeId × Value → H) (P : Program) (W : World) (t : TypeId) (cs : List Value) : Prop :=
  ∃ (fuel : Nat) (d : DataW H) (ps : List MemPlace), DataW.trod enc P W 0 (fun _ => true) true fuel t cs = some (d, ps) ∧ (∀ p ∈ ps, p.block < W.heap.size) ∧ ∀ n ∈ d.weights P t, n ≤ reachBytes

theorem Held.of {v : Value} {d : DataW H} {ps : List MemPlace} (h : DataW.Trod enc P W 0 (fun _ => true) true t v d ps) (hlt : ∀ p ∈ ps, p.block < W.heap.size) (hw : ∀ n ∈ d.weights P t, n ≤ reachBytes) : Held enc P W t v.cells.toList := by
  obtain ⟨fuel, h⟩ := h
  exact ⟨fuel, d, ps, h, hlt, hw⟩
theorem Held.int {k : IntKind} (ht : P.underlying t = some (.int k)) (h : Held enc P W t cs) : ∃ n, cs = [.int k n] ∧ k.min ≤ n ∧ n ≤ k.max := by
  obtain ⟨fuel, d, ps, h, _, _⟩ := h
  obtain ⟨n, rfl, _, hw⟩ := DataW.trod_int ht h
  simp only [Lit.wf, Bool.and_eq_true, decide_eq_true_eq] at hw
  exact ⟨n, rfl, hw.1, hw.2⟩
theorem Held.i64 (ht : P.underlying t = some (.int .i64)) (h : Held enc P W t cs) : ∃ n : Int, cs = [.int .i64 n] ∧ -9223372036854775808 ≤ n ∧ n ≤ 9223372036854775807 := by
  obtain ⟨n, h1, h2, h3⟩ := h.int ht
  simp [IntKind.min, IntKind.max, IntKind.signed, IntKind.bits] at h2 h3
  exact ⟨n, h1, h2, by omega⟩
theorem Held.nat {k : IntKind} (hs : k.signed = false) (ht : P.underlying t = some (.int k)) (h : Held enc P W t cs) : ∃ n : Nat, cs = [.int k (n : Int)] ∧ (n : Int) ≤ k.max := by
  obtain ⟨n, h1, h2, h3⟩ := h.int ht
  simp [IntKind.min, hs] at h2
  obtain ⟨n, rfl⟩ := Int.eq_ofNat_of_zero_le h2
  exact ⟨n, h1, h3⟩
theorem Held.bool (ht : P.underlying t = some .bool) (h : Held enc P W t cs) : ∃ b, cs = [.bool b] := by
  obtain ⟨fuel, d, ps, h, _, _⟩ := h
  obtain ⟨b, rfl, _⟩ := DataW.trod_bool ht h
  exact ⟨b, rfl⟩
theorem bstr_of (s : ByteArray) : ∃ l : List Nat, s = bstr l ∧ (∀ x ∈ l, x < 256) ∧ l.length = s.size := by
  refine ⟨s.data.toList.map UInt8.toNat, ?_, ?_, by simp⟩
  · refine ByteArray.ext ?_
    show s.data = ((s.data.toList.map UInt8.toNat).map UInt8.ofNat).toArray
    rw [List.map_map]
    have : (UInt8.ofNat ∘ UInt8.toNat) = id := by funext x; simp
    rw [this]
    simp
  · intro x hx
    simp only [List.mem_map] at hx
    obtain ⟨y, _, rfl⟩ := hx
    exact y.toNat_lt
theorem Held.string (ht : P.underlying t = some .string) (h : Held enc P W t cs) : ∃ l : List Nat, cs = [.string (bstr l)] ∧ (∀ x ∈ l, x < 256) ∧ l.length ≤ 140737488351232 := by
  obtain ⟨fuel, d, ps, h, _, hw⟩ := h
  obtain ⟨s, rfl, hx, _⟩ := DataW.trod_string ht h
  simp only [Prod.mk.injEq] at hx
  obtain ⟨rfl, _⟩ := hx
  obtain ⟨l, rfl, h8, hl⟩ := bstr_of s
  refine ⟨l, rfl, h8, ?_⟩
  have := hw (bstr l).data.toList.length (by simp [DataW.weights])
  rw [Array.length_toList] at this
  have e : (bstr l).data.size = l.length := hl.symm
  rw [e] at this
  unfold reachBytes at this
  omega
theorem weights_all {d : DataW H} : ∀ {ds : List (DataW H)}, d ∈ ds → ∀ n ∈ d.weights P e, n ∈ DataW.weightsAll P e ds
  | [], h, _, _ => by cases h
  | x :: ds, h, n, hn => by
    rw [DataW.weightsAll, List.mem_append]
    rcases List.mem_cons.1 h with rfl | h
    · exact .inl hn
    · exact .inr (weights_all h n hn)
theorem Held.field {fs : Array Field} (ht : P.underlying t = some (.struct fs)) (h : Held enc P W t cs) : cs.length = P.cellsOf t ∧ ∀ (i : Nat) (f : Field), fs[i]? = some f → Held enc P W f.type ((cs.drop f.offset).take (P.cellsOf f.type)) := by
  obtain ⟨fuel, d, ps, h, hlt, hw⟩ := h
  obtain ⟨xs, n, rfl, hx, hl, hxl, hf⟩ := DataW.trod_struct ht h
  simp only [Prod.mk.injEq] at hx
  obtain ⟨rfl, rfl⟩ := hx
  refine ⟨hl, fun i f hi => ?_⟩
  have hil : i < fs.size := (Array.getElem?_eq_some_iff.1 hi).1
  have hxi : xs[i]? = some (xs[i]'(by omega)) := List.getElem?_eq_getElem (by omega)
  refine ⟨n, (xs[i]'(by omega)).1, (xs[i]'(by omega)).2, (hf i f hi).trans hxi, fun p hp => hlt p (List.mem_flatMap.2 ⟨_, List.getElem_mem _, hp⟩), fun m hm => hw m ?_⟩
  rw [DataW.weights]
  simp only [ht]
  exact DataW.weights_mem_each (j := i) (t := f.type) (d := (xs[i]'(by omega)).1) (by rw [List.getElem?_map, Array.getElem?_toList, hi]; rfl) (by rw [List.getElem?_map, hxi]; rfl) m hm
theorem Held.array {n : Nat} (ht : P.underlying t = some (.array n e)) (h : Held enc P W t cs) : cs.length = P.cellsOf t ∧ ∀ i, i < n → Held enc P W e ((cs.drop (i * P.cellsOf e)).take (P.cellsOf e)) := by
  obtain ⟨fuel, d, ps, h, hlt, hw⟩ := h
  obtain ⟨xs, m, _, hx, hl, hxl, hi⟩ := DataW.trod_array ht h
  simp only [Prod.mk.injEq] at hx
  obtain ⟨rfl, rfl⟩ := hx
  refine ⟨hl, fun i hil => ?_⟩
  have hxi : xs[i]? = some (xs[i]'(by omega)) := List.getElem?_eq_getElem (by omega)
  refine ⟨m, (xs[i]'(by omega)).1, (xs[i]'(by omega)).2, (hi i hil).trans hxi, fun p hp => hlt p (List.mem_flatMap.2 ⟨_, List.getElem_mem _, hp⟩), fun k hk => hw k ?_⟩
  rw [DataW.weights]
  simp only [ht]
  exact weights_all (List.mem_map.2 ⟨_, List.getElem_mem _, rfl⟩) k hk
theorem Held.slice (ht : P.underlying t = some (.slice e)) (h : Held enc P W t cs) :
    cs = [.slice none 0 0] ∨ ∃ (a : Addr) (len cap : Nat), cs = [.slice (some a) len cap] ∧ len ≤ cap ∧ cap ≤ maxLen ∧ cap * P.bytesOf e ≤ reachBytes ∧ (0 < cap * P.cellsOf e → a.block < W.heap.size) ∧
      ∀ i, i < cap → ∃ cs', W.cells? 0 (a.add (i * P.cellsOf e)) (P.cellsOf e) = some cs' ∧ Held enc P W e cs' := by
  obtain ⟨fuel, d, ps, h, hlt, hw⟩ := h
  rcases open_slice ht h with ⟨hcs, _⟩ | ⟨a, len, cap, m, n, D, Pl, hcs, _, hl, hm, hmm, hx, hi⟩
  · exact .inl hcs
  · rw [if_pos rfl] at hmm
    subst hmm
    simp only [Prod.mk.injEq] at hx
    obtain ⟨rfl, rfl⟩ := hx
    have hwm : ∀ x ∈ (m * P.bytesOf e) :: (DataW.weightsAll P e ((List.range len).map D) ++ DataW.weightsAll P e ((List.range (m - len)).map fun j => D (len + j))), x ≤ reachBytes := by
      intro x hx
      refine hw x ?_
      rw [DataW.weights]
      simp only [ht, List.length_map, List.length_range]
      rw [show len + (m - len) = m by omega]
      exact hx
    refine .inr ⟨a, len, m, hcs, hl, hm, hwm _ (by simp), fun h0 => ?_, fun i him => ?_⟩
    · exact hlt (.cell a.block a.off) (by
        rw [List.mem_append]
        left
        unfold MemPlace.row
        simp only [List.mem_map, List.mem_range]
        exact ⟨0, h0, rfl⟩)
    · obtain ⟨cs', hc, ht'⟩ := hi i him
      refine ⟨cs', hc, n, D i, Pl i, ht', fun p hp => hlt p ?_, fun k hk => hwm k ?_⟩
      · rw [List.mem_append]
        right
        exact List.mem_flatMap.2 ⟨i, by simpa using him, hp⟩
      · rw [List.mem_cons, List.mem_append]
        right
        by_cases hil : i < len
        · exact .inl (weights_all (List.mem_map.2 ⟨i, by simpa using hil, rfl⟩) k hk)
        · exact .inr (weights_all (List.mem_map.2 ⟨i - len, by simp; omega, by rw [show len + (i - len) = i by omega]⟩) k hk)

/-- Records as cells, all of one length. -/
def recs {α : Type} (f : α → List Value) (l : List α) : List Value := l.flatMap f
theorem recs_nil {α : Type} (f : α → List Value) : recs f [] = [] := rfl
theorem recs_cons {α : Type} (f : α → List Value) (x : α) (l : List α) : recs f (x :: l) = f x ++ recs f l := rfl
theorem recs_append {α : Type} (f : α → List Value) (l m : List α) : recs f (l ++ m) = recs f l ++ recs f m := by simp [recs]
theorem recs_length {α : Type} {f : α → List Value} {sz : Nat} (hf : ∀ x, (f x).length = sz) (l : List α) : (recs f l).length = l.length * sz := by
  induction l with
  | nil => simp [recs]
  | cons x l ih => rw [recs_cons, List.length_append, hf, ih, List.length_cons, Nat.succ_mul, Nat.add_comm]
theorem recs_at {α : Type} {f : α → List Value} {sz : Nat} (hf : ∀ x, (f x).length = sz) (l : List α) (d : α) : ∀ i j, i < l.length → j < sz → (recs f l)[i * sz + j]? = (f (l.getD i d))[j]? := by
  induction l with
  | nil => intro i j h; simp at h
  | cons x l ih =>
    intro i j hi hj
    cases i with
    | zero =>
      rw [recs_cons, Nat.zero_mul, Nat.zero_add, List.getElem?_append_left (by rw [hf]; exact hj)]
      rfl
    | succ i =>
      rw [recs_cons, List.getElem?_append_right (by rw [hf, Nat.succ_mul]; omega), hf, show (i + 1) * sz + j - sz = i * sz + j by rw [Nat.succ_mul]; omega, ih i j (by simpa using hi) hj]
      simp
theorem recs_drop {α : Type} {f : α → List Value} {sz : Nat} (hf : ∀ x, (f x).length = sz) (l : List α) (k : Nat) (hk : k ≤ l.length) : (recs f l).drop (k * sz) = recs f (l.drop k) := by
  conv => lhs; rw [← List.take_append_drop k l, recs_append]
  rw [List.drop_left']
  rw [recs_length hf, List.length_take, Nat.min_eq_left hk]
theorem recs_take {α : Type} {f : α → List Value} {sz : Nat} (hf : ∀ x, (f x).length = sz) (l : List α) (k : Nat) (hk : k ≤ l.length) : (recs f l).take (k * sz) = recs f (l.take k) := by
  conv => lhs; rw [← List.take_append_drop k l, recs_append]
  rw [List.take_left']
  rw [recs_length hf, List.length_take, Nat.min_eq_left hk]

theorem Reads.rec_ {α : Type} {f : α → List Value} {sz : Nat} (hf : ∀ x, (f x).length = sz) {w : World} {B n i : Nat} {A : Option Addr} {l : List α} (d : α) (h : Reads w B sz A n (recs f l)) (hi : i < n) (h0 : 0 < sz) :
    ∃ ad, A = some ad ∧ ad.block < B ∧ i < l.length ∧ ∀ j u, (f (l.getD i d))[j]? = some u → w.cell? (ad.add (i * sz + j)) = some u := by
  obtain ⟨ad, e, hb, hc⟩ := h.2 (by omega)
  have hl := h.1
  rw [recs_length hf] at hl
  have hll : l.length = n := Nat.eq_of_mul_eq_mul_right h0 hl
  refine ⟨ad, e, hb, by omega, fun j u hu => hc _ u ?_⟩
  have hj : j < sz := by
    rw [← hf (l.getD i d)]
    exact (List.getElem?_eq_some_iff.1 hu).1
  rw [recs_at hf l d i j (by omega) hj]
  exact hu
theorem Reads.lenR {α : Type} {f : α → List Value} {sz : Nat} (hf : ∀ x, (f x).length = sz) {w : World} {B n : Nat} {A : Option Addr} {l : List α} (h : Reads w B sz A n (recs f l)) (h0 : 0 < sz) : n = l.length := by
  have hl := h.1
  rw [recs_length hf] at hl
  exact (Nat.eq_of_mul_eq_mul_right h0 hl).symm

theorem list_choose {α : Type} {p : Nat → α → Prop} (d : α) : ∀ n, (∀ i, i < n → ∃ x, p i x) → ∃ l : List α, l.length = n ∧ ∀ i, i < n → p i (l.getD i d) := by
  intro n
  induction n with
  | zero => intro _; exact ⟨[], rfl, fun i h => by omega⟩
  | succ n ih =>
    intro h
    obtain ⟨l, hl, hp⟩ := ih (fun i hi => h i (by omega))
    obtain ⟨x, hx⟩ := h n (by omega)
    refine ⟨l ++ [x], by simp [hl], fun i hi => ?_⟩
    by_cases hin : i < n
    · have e : (l ++ [x]).getD i d = l.getD i d := by rw [List.getD_eq_getElem?_getD, List.getElem?_append_left (by omega), ← List.getD_eq_getElem?_getD]
      rw [e]; exact hp i hin
    · obtain rfl : i = n := by omega
      have e : (l ++ [x]).getD i d = x := by rw [List.getD_eq_getElem?_getD, List.getElem?_append_right (by omega), hl]; simp
      rw [e]; exact hx

/-- A slice of records comes in. -/
theorem Held.recs {α : Type} {f : α → List Value} {sz by_ : Nat} {Q : α → Prop} (d : α) (ht : P.underlying t = some (.slice e)) (hC : P.cellsOf e = sz) (hby : P.bytesOf e = by_) (hf : ∀ x, (f x).length = sz) (h0 : 0 < sz)
    (hel : ∀ cs, Held enc P W e cs → ∃ x, cs = f x ∧ Q x) (h : Held enc P W t cs) :
    ∃ A c, ∃ l : List α, cs = [.slice A l.length c] ∧ l.length ≤ c ∧ c ≤ maxLen ∧ c * by_ ≤ reachBytes ∧ Reads W W.heap.size sz A l.length (Hm.recs f l) ∧ ∀ x ∈ l, Q x := by
  rcases h.slice ht with rfl | ⟨a, len, cap, rfl, hl, hm, hw, hb, hi⟩
  · exact ⟨none, 0, [], rfl, by simp, by simp [maxLen], by simp, ⟨by simp [Hm.recs], fun h => by simp at h⟩, by simp⟩
  · rw [hC] at hi hb
    rw [hby] at hw
    obtain ⟨l, hll, hp⟩ := list_choose (p := fun i x => W.cells? 0 (a.add (i * sz)) sz = some (f x) ∧ Q x) d len (fun i hil => by
      obtain ⟨cs', hc, hh⟩ := hi i (by omega)
      obtain ⟨x, rfl, hq⟩ := hel cs' hh
      exact ⟨x, hc, hq⟩)
    subst hll
    refine ⟨some a, cap, l, rfl, hl, hm, hw, ⟨by rw [recs_length hf], fun hn => ⟨a, rfl, hb (Nat.mul_pos (by omega) h0), fun j u hu => ?_⟩⟩, fun x hx => ?_⟩
    · have hj : j < l.length * sz := by
        rw [← recs_length hf]
        exact (List.getElem?_eq_some_iff.1 hu).1
      have hjd : j / sz < l.length := by
        rw [Nat.mul_comm] at hj
        exact Nat.div_lt_of_lt_mul hj
      have hjm : j % sz < sz := Nat.mod_lt _ h0
      obtain ⟨hc, _⟩ := hp (j / sz) hjd
      obtain ⟨_, _, hat⟩ := World.cells?_some hc
      have := hat (j % sz) hjm
      rw [Go.Deep.add_add, Nat.mul_comm (j / sz), Nat.div_add_mod] at this
      rw [this, ← hu]
      have e := recs_at hf l d (j / sz) (j % sz) hjd hjm
      rw [Nat.mul_comm (j / sz), Nat.div_add_mod] at e
      rw [e]
    · obtain ⟨i, hi', rfl⟩ := List.getElem_of_mem hx
      have := (hp i hi').2
      rwa [List.getD_eq_getElem?_getD, List.getElem?_eq_getElem hi'] at this
end

end Go.Hm
/- A slice of structs of two numbers comes in. No program is named here. -/

namespace Go.Hm
open Go Go.RowKit Go.WideShapes Go.ChangeShapes Go.Deep

def pairs (l : List (Int × Int)) : List Value := l.flatMap fun p => [.int .i64 p.1, .int .i64 p.2]
theorem pairs_length (l : List (Int × Int)) : (pairs l).length = l.length * 2 := by
  induction l with
  | nil => rfl
  | cons p l ih => simp only [pairs, List.flatMap_cons, List.length_append, List.length_cons, List.length_nil] at ih ⊢; rw [ih]; omega
theorem pairs_at (l : List (Int × Int)) : ∀ i, i < l.length → (pairs l)[i * 2]? = some (.int .i64 (l.getD i (0, 0)).1) ∧ (pairs l)[i * 2 + 1]? = some (.int .i64 (l.getD i (0, 0)).2) := by
  induction l with
  | nil => intro i h; simp at h
  | cons p l ih =>
    intro i h
    cases i with
    | zero => exact ⟨rfl, rfl⟩
    | succ i =>
      have := ih i (by simpa using h)
      rw [show (i + 1) * 2 = i * 2 + 1 + 1 by omega]
      exact this
theorem Reads.lenP {w : World} {B n : Nat} {A : Option Addr} {l : List (Int × Int)} (h : Reads w B 2 A n (pairs l)) : n = l.length := by
  have := h.1
  rw [pairs_length] at this
  omega
theorem Reads.pair {w : World} {B n i : Nat} {A : Option Addr} {l : List (Int × Int)} (h : Reads w B 2 A n (pairs l)) (hi : i < n) :
    ∃ ad, A = some ad ∧ ad.block < B ∧ w.cell? (ad.add (i * 2)) = some (.int .i64 (l.getD i (0, 0)).1) ∧ w.cell? (ad.add (i * 2 + 1)) = some (.int .i64 (l.getD i (0, 0)).2) := by
  obtain ⟨ad, e, hb, hc⟩ := h.2 (by omega)
  have hl := h.lenP
  obtain ⟨h1, h2⟩ := pairs_at l i (by omega)
  exact ⟨ad, e, hb, hc _ _ h1, hc _ _ h2⟩

theorem open_pairs {H : Type} {enc : TypeId × Value → H} {P : Program} {W : World} {t e : TypeId} {f0 f1 : Field} {base : Nat} {v : Value} {d : DataW H} {ps : List MemPlace}
    (ht : P.underlying t = some (.slice e)) (he : P.underlying e = some (.struct #[f0, f1])) (hone : oneCellFields P #[f0, f1] = true) (hC : P.cellsOf e = 2) (h0 : P.underlying f0.type = some (.int .i64)) (h1 : P.underlying f1.type = some (.int .i64))
    (hval : Value.okWide P W .any base t v) (h : DataW.Trod enc P W 0 (fun _ => true) true t v d ps) (hlt : ∀ p ∈ ps, p.block < W.heap.size) :
    ∃ A c, ∃ l : List (Int × Int), v = .slice A l.length c ∧ l.length ≤ c ∧ c ≤ maxLen ∧ Reads W W.heap.size 2 A l.length (pairs l) ∧ ∀ p ∈ l, (-9223372036854775808 ≤ p.1 ∧ p.1 ≤ 9223372036854775807) ∧ (-9223372036854775808 ≤ p.2 ∧ p.2 ≤ 9223372036854775807) := by
  obtain ⟨a0, len, cap, rfl⟩ := okWide_slice ht hval
  obtain ⟨fuel, hf⟩ := h
  rcases open_slice ht hf with ⟨hcs, hx⟩ | ⟨a, len', cap', m, n, D, Pl, hcs, _, hl, hm, hmm, hx, hi⟩
  · have : a0 = none ∧ len = 0 ∧ cap = 0 := by simpa [Value.cells] using hcs
    obtain ⟨rfl, rfl, rfl⟩ := this
    exact ⟨none, 0, [], rfl, by simp, by simp [maxLen], ⟨rfl, fun h => by simp at h⟩, by simp⟩
  · have : a0 = some a ∧ len = len' ∧ cap = cap' := by simpa [Value.cells] using hcs
    obtain ⟨rfl, rfl, rfl⟩ := this
    rw [if_pos rfl] at hmm
    subst hmm
    rw [hC] at hx hi
    have hp : ∀ i, i < len → ∃ x y : Int, W.cell? (a.add (i * 2)) = some (.int .i64 x) ∧ W.cell? (a.add (i * 2 + 1)) = some (.int .i64 y) ∧ ((-9223372036854775808 ≤ x ∧ x ≤ 9223372036854775807) ∧ (-9223372036854775808 ≤ y ∧ y ≤ 9223372036854775807)) := by
      intro i hil
      obtain ⟨cs', hc, ht'⟩ := hi i (by omega)
      obtain ⟨ys, n', hn', hy, hlen, hyl, hff⟩ := DataW.trod_struct he ht'
      obtain ⟨_, hcl, hat⟩ := World.cells?_some hc
      have key : ∀ (j : Nat) (f : Field), #[f0, f1][j]? = some f → P.underlying f.type = some (.int .i64) → j < 2 → ∃ x : Int, W.cell? (a.add (i * 2 + j)) = some (.int .i64 x) ∧ (-9223372036854775808 ≤ x ∧ x ≤ 9223372036854775807) := by
        intro j f hj hu hj2
        obtain ⟨ho, hk⟩ := hone_of hone j f hj
        have hcell := hat j (by omega)
        have h1 := hff j f hj
        rw [ho, hk] at h1
        have hone' : (cs'.drop j).take 1 = [cs'[j]'(by omega)] := by
          rw [List.drop_eq_getElem_cons (by omega)]
          rfl
        rw [hone'] at h1
        have hys : ys[j]? = some (ys[j]'(by simp at hyl; omega)) := List.getElem?_eq_getElem _
        rw [hys] at h1
        rw [Go.Deep.add_add, List.getElem?_eq_getElem (by omega : j < cs'.length)] at hcell
        generalize cs'[j]'(by omega) = u at *
        obtain ⟨x, hx, _, hw⟩ := DataW.trod_int hu h1
        injection hx with hx _
        subst hx
        simp [Lit.wf, IntKind.min, IntKind.max, IntKind.signed, IntKind.bits] at hw
        exact ⟨x, hcell, hw.1, by omega⟩
      obtain ⟨x, hx1, hx2⟩ := key 0 f0 rfl h0 (by omega)
      obtain ⟨y, hy1, hy2⟩ := key 1 f1 rfl h1 (by omega)
      exact ⟨x, y, by simpa using hx1, hy1, hx2, hy2⟩
    have hl2 : ∀ m, m ≤ len → ∃ l : List (Int × Int), l.length = m ∧ ∀ i, i < m → W.cell? (a.add (i * 2)) = some (.int .i64 (l.getD i (0, 0)).1) ∧ W.cell? (a.add (i * 2 + 1)) = some (.int .i64 (l.getD i (0, 0)).2) ∧
        ((-9223372036854775808 ≤ (l.getD i (0, 0)).1 ∧ (l.getD i (0, 0)).1 ≤ 9223372036854775807) ∧ (-9223372036854775808 ≤ (l.getD i (0, 0)).2 ∧ (l.getD i (0, 0)).2 ≤ 9223372036854775807)) := by
      intro m
      induction m with
      | zero => intro _; exact ⟨[], rfl, fun i h => by omega⟩
      | succ m ih =>
        intro hm'
        obtain ⟨l, hll, hq⟩ := ih (by omega)
        obtain ⟨x, y, h1, h2, h3⟩ := hp m (by omega)
        refine ⟨l ++ [(x, y)], by simp [hll], fun i hi' => ?_⟩
        by_cases him : i < m
        · have e : (l ++ [(x, y)]).getD i (0, 0) = l.getD i (0, 0) := by
            rw [List.getD_eq_getElem?_getD, List.getElem?_append_left (by omega), ← List.getD_eq_getElem?_getD]
          rw [e]
          exact hq i him
        · obtain rfl : i = m := by omega
          have e : (l ++ [(x, y)]).getD i (0, 0) = (x, y) := by
            rw [List.getD_eq_getElem?_getD, List.getElem?_append_right (by omega), hll]
            simp
          rw [e]
          exact ⟨h1, h2, h3⟩
    obtain ⟨l, hll, hq⟩ := hl2 len (Nat.le_refl _)
    simp only [Prod.mk.injEq] at hx
    obtain ⟨_, rfl⟩ := hx
    refine ⟨some a, _, l, by rw [hll], by rw [hll]; exact hl, hm, ⟨by rw [pairs_length], fun hn => ⟨a, rfl, ?_, ?_⟩⟩, ?_⟩
    · rw [hll] at hn
      exact hlt (.cell a.block a.off) (by
        simp only [List.mem_append]
        left
        unfold MemPlace.row
        simp only [List.mem_map, List.mem_range]
        exact ⟨0, by omega, rfl⟩)
    · intro j u hu
      have hj : j < l.length * 2 := by
        rcases Nat.lt_or_ge j (l.length * 2) with h1 | h1
        · exact h1
        · rw [List.getElem?_eq_none (by rw [pairs_length]; exact h1)] at hu
          cases hu
      obtain ⟨p1, p2⟩ := pairs_at l (j / 2) (by omega)
      obtain ⟨q1, q2, _⟩ := hq (j / 2) (by omega)
      rcases Nat.mod_two_eq_zero_or_one j with h1 | h1
      · have e : j / 2 * 2 = j := by omega
        rw [e] at p1 q1
        rw [q1, ← p1, hu]
      · have e : j / 2 * 2 + 1 = j := by omega
        rw [e] at p2 q2
        rw [q2, ← p2, hu]
    · intro p hp'
      obtain ⟨i, hi', rfl⟩ := List.getElem_of_mem hp'
      have := (hq i (by omega)).2.2
      rw [List.getD_eq_getElem?_getD, List.getElem?_eq_getElem hi'] at this
      exact this

/-- An array of unsigned numbers comes in, by value. -/
theorem open_arr_nums {H : Type} {enc : TypeId × Value → H} {P : Program} {W : World} {t e : TypeId} {k : IntKind} {n base : Nat} {v : Value} {d : DataW H} {ps : List MemPlace}
    (ht : P.underlying t = some (.array n e)) (he : P.underlying e = some (.int k)) (hs : k.signed = false) (hce : P.cellsOf e = 1) (hct : P.cellsOf t = n)
    (hval : Value.okWide P W .any base t v) (h : DataW.Trod enc P W 0 (fun _ => true) true t v d ps) :
    ∃ l : List Nat, v = .agg (nums k l).toArray ∧ l.length = n ∧ ∀ x ∈ l, (x : Int) ≤ k.max := by
  unfold Value.okWide at hval
  rw [ht] at hval
  obtain ⟨cs, rfl, hsz, _⟩ := hval
  rw [hct] at hsz
  obtain ⟨fuel, hf⟩ := h
  obtain ⟨xs, m, _, _, _, hxl, hi⟩ := DataW.trod_array ht hf
  have key : ∀ i (hi' : i < cs.size), ∃ x : Nat, cs[i] = .int k (x : Int) ∧ (x : Int) ≤ k.max := by
    intro i hi'
    have h1 := hi i (by omega)
    rw [hce, Nat.mul_one] at h1
    have hone : ((Value.agg cs).cells.toList.drop i).take 1 = [cs[i]] := by
      show (cs.toList.drop i).take 1 = _
      rw [List.drop_eq_getElem_cons (by simpa using hi')]
      simp
    rw [hone] at h1
    have hys : xs[i]? = some (xs[i]'(by omega)) := List.getElem?_eq_getElem _
    rw [hys] at h1
    obtain ⟨x, hx, _, hw⟩ := DataW.trod_int he h1
    injection hx with hx _
    have hw' : 0 ≤ x ∧ x ≤ k.max := by simpa [Lit.wf, IntKind.min, hs] using hw
    obtain ⟨y, rfl⟩ := Int.eq_ofNat_of_zero_le hw'.1
    exact ⟨y, hx, hw'.2⟩
  have hl : ∀ (l : List Value), (∀ i (hi : i < l.length), ∃ x : Nat, l[i] = .int k (x : Int) ∧ (x : Int) ≤ k.max) → ∃ m : List Nat, l = nums k m ∧ ∀ x ∈ m, (x : Int) ≤ k.max := by
    intro l
    induction l with
    | nil => intro _; exact ⟨[], rfl, by simp⟩
    | cons a l ih =>
      intro hh
      obtain ⟨x, hx, hx2⟩ := hh 0 (by simp)
      obtain ⟨m, hm, hm2⟩ := ih (fun i hi => hh (i + 1) (by simpa using hi))
      refine ⟨x :: m, by rw [nums_cons, ← hm]; simp at hx; rw [hx], fun y hy => ?_⟩
      rcases List.mem_cons.1 hy with rfl | hy
      · exact hx2
      · exact hm2 y hy
  obtain ⟨l, hl1, hl2⟩ := hl cs.toList (fun i hi => by simpa using key i (by simpa using hi))
  refine ⟨l, by rw [← hl1], ?_, hl2⟩
  rw [← nums_length k l, ← hl1, Array.length_toList, hsz]

end Go.Hm
/- Rows of the call's own whose elements have many cells. No program is named here. -/

namespace Go.Hm
open Go Go.RowKit

section
variable {w w' : World} {base sz n : Nat} {e : TypeId} {v : Value} {xs : List Value}
theorem row_below {B : Nat} (h : w.ownsRow base e sz v n xs) (hb : Below B w w') (hB : w.heap.size ≤ B) : w'.ownsRow base e sz v n xs := by
  refine ⟨h.1, ?_⟩
  rcases h.2 with hn | ⟨g, cap, cur, rfl, hbg, hgg, rest⟩
  · exact .inl hn
  · refine .inr ⟨g, cap, cur, rfl, hbg, ?_, rest⟩
    rw [hb.block g (Nat.lt_of_lt_of_le (Array.getElem?_eq_some_iff.1 hgg).1 hB)]
    exact hgg
theorem row_later (h : w.ownsRow base e sz v n xs) (hb : New w w') : w'.ownsRow base e sz v n xs := row_below h hb (Nat.le_refl _)
theorem row_base {b' : Nat} (h : w.ownsRow base e sz v n xs) (hb : b' ≤ base) : w.ownsRow b' e sz v n xs := by
  refine ⟨h.1, ?_⟩
  rcases h.2 with hn | ⟨g, cap, cur, hv, hbg, rest⟩
  · exact .inl hn
  · exact .inr ⟨g, cap, cur, hv, Nat.le_trans hb hbg, rest⟩
theorem row_slice (h : w.ownsRow base e sz v n xs) : ∃ A c, v = .slice A n c ∧ n ≤ c ∧ c ≤ maxLen := by
  rcases h.2 with ⟨hv, hn⟩ | ⟨g, cap, cur, hv, _, _, hc, hm, _⟩
  · exact ⟨none, 0, by rw [hv, hn], by omega, by simp [maxLen]⟩
  · exact ⟨_, _, hv, hc, hm⟩
theorem row_nil : w.ownsRow base e sz (.slice none 0 0) 0 [] := ⟨by simp, .inl ⟨rfl, rfl⟩⟩
theorem row_blk_ne {g : Nat} {t : TypeId} {cs : Array Value} (h : w.ownsRow base e sz v n xs) (hg : Blk w g t cs) (hne : e ≠ t) : v.ownBlock ≠ some g := by
  rcases h.2 with ⟨rfl, _⟩ | ⟨g', cap, cur, rfl, _, hh, _⟩
  · simp [Value.ownBlock]
  · intro he
    have : g' = g := by simpa [Value.ownBlock] using he
    subst this
    exact Blk.ne_ (t := e) hh hg hne rfl
end
theorem madeCells3 (a b c : Value) (n : Nat) : (madeCells #[a, b, c] (n * 3)).toList = (List.replicate n [a, b, c]).flatten := by
  induction n with
  | zero => simp [madeCells]
  | succ n ih =>
    rw [List.replicate_succ', List.flatten_append, ← ih]
    have e : ∀ m, m % 3 = 0 → (madeCells #[a, b, c] (m + 3)).toList = (madeCells #[a, b, c] m).toList ++ [a, b, c] := by
      intro m hm
      simp only [madeCells, Array.toList_map, Array.toList_range, List.range_succ, List.map_append, List.map_cons, List.map_nil, List.append_assoc, List.cons_append, List.nil_append, List.size_toArray, List.length_cons, List.length_nil]
      rw [hm, show (m + 1) % 3 = 1 by omega, show (m + 2) % 3 = 2 by omega]
      rfl
    rw [Nat.succ_mul, e (n * 3) (by omega)]
    simp

section
variable {P : Program} {ops : Array Oper} {rest : List Oper} {o : Oper} {a : Act} {Q : Exit → Act → World → Prop}
/-- append(s, x) of a record, behind the block that x was laid in. -/
theorem wpList_pushR {w : World} {t e : TypeId} {z : Value} {sz bytes : Nat} (E : ElT P t e z sz bytes) (hgd : o.guard = none) (s x : Operand)
    (ho : o.op = .call { callee := .builtin .append, args := #[s, x], argTypes := #[t, t] })
    {W : World} {B base n : Nat} {v : Value} {us xs : List Value} (hown : w.ownsRow base e sz v n xs) (hs : a.eval s = v) (hx : a.eval x = .slice (some ⟨w.heap.size, 0, none⟩) 1 1)
    (hb : Below B W w) (hbB : B ≤ base) (hbase : base ≤ w.heap.size) (hus : us.length = sz) (h1 : ∀ u ∈ us, u.oneCell' = true)
    (hn : (n + 1) * bytes ≤ 140737488355328) (hm : n + 1 ≤ maxLen)
    (h : ∀ A' c' w', n + 1 ≤ c' → c' ≤ maxLen → w'.ownsRow base e sz (.slice A' (n + 1) c') (n + 1) (xs ++ us) → w.grownBy w' v.ownBlock → Below B W w' → w.heap.size < w'.heap.size →
      (Value.ownBlock (.slice A' (n + 1) c') = v.ownBlock ∨ ∃ g, Value.ownBlock (.slice A' (n + 1) c') = some g ∧ w.heap.size ≤ g) → wpList P ops Q rest (a.put o.dst (.slice A' (n + 1) c')) w') :
    wpList P ops Q (o :: rest) a (w.alloc (.cells us.toArray e)) := by
  obtain ⟨i, hi, hz0, hz1, hz2⟩ := info_parts E.hi
  refine wpList_append_own_at _ hgd s x t ho base e i z sz bytes E.ht hi hz0 hz1 hz2 E.hz E.hs v n xs hs (World.ownsRow.alloc hown _) ⟨w.heap.size, 0, none⟩ 1 1 us hx (by omega) ?_ h1 hm hn (by simp; omega) ?_
  · have := World.news_of_block (heap_alloc_new w (.cells us.toArray e))
    simpa using this
  intro v' w' hown' hg _ hat
  obtain ⟨A', c', rfl, hc1, hc2⟩ := row_slice hown'
  have hg2 : w.grownBy w' v.ownBlock := (World.grownBy_alloc w (.cells us.toArray e) v.ownBlock).trans hg
  have hsz := hg.size
  simp at hsz
  refine h A' c' w' hc1 hc2 hown' hg2 (hb.grown hg2 (Nat.le_trans hbB hbase) (fun k hk => by have := (World.ownsRow.lt hown k hk).1; omega)) (by omega) ?_
  rcases hat with e1 | e1
  · exact .inl e1
  · exact .inr ⟨_, e1, by simp⟩
/-- make([]T, n), T of three cells: the row is the call's own. -/
theorem wpList_mkR {w : World} {t e : TypeId} {x y z : Value} {bytes : Nat} (E : ElT P t e (.agg #[x, y, z]) 3 bytes) (hgd : o.guard = none) (lo co : Operand) (ho : o.op = Op.makeSlice t lo co)
    {W : World} {B : Nat} {kl kc : IntKind} {L C : Int} (n : Nat) (hl : a.eval lo = .int kl L) (hc : a.eval co = .int kc C) (hL : L = (n : Int)) (hC : C = (n : Int)) (hb : Below B W w) (hbase : B ≤ w.heap.size)
    (hn : n * bytes ≤ 140737488355328) (hm : n ≤ maxLen)
    (h : ∀ w', w'.ownsRow w.heap.size e 3 (.slice (some ⟨w.heap.size, 0, none⟩) n n) n (List.replicate n [x, y, z]).flatten → w.grownBy w' none → Below B W w' → w'.heap.size = w.heap.size + 1 → wpList P ops Q rest (a.put o.dst (.slice (some ⟨w.heap.size, 0, none⟩) n n)) w') :
    wpList P ops Q (o :: rest) a w := by
  obtain ⟨i, hi, hz0, hs1, hb1⟩ := info_parts E.hi
  subst hL hC
  have hmC : (n : Int) ≤ 9223372036854775807 := by have h := hm; simp only [maxLen] at h; omega
  have hbC : (i.bytes : Int) * (n : Int) ≤ 281474976710656 := by
    have h : ((i.bytes * n : Nat) : Int) ≤ 281474976710656 := by rw [hb1, Nat.mul_comm]; omega
    rwa [Int.natCast_mul] at h
  have hrun := run_make (P := P) w t e i (.agg #[x, y, z]) E.ht hi hz0 kl kc (n : Int) (n : Int) (by omega) (by omega) hbC hmC
  rw [Int.toNat_natCast, hs1] at hrun
  refine wpList_plain hgd fun K hK => ?_
  unfold Oper.wp
  simp [execOp, ho, hl, hc, hrun, Result.andThen]
  refine hK _ _ (h _ ?_ (World.grownBy_alloc _ _ _) (hb.alloc hbase _) (by simp))
  refine ⟨by simp, .inr ⟨_, n, _, rfl, Nat.le_refl _, heap_alloc_new w _, Nat.le_refl _, hm, by simp [size_madeCells], ?_⟩⟩
  rw [List.take_of_length_le (by simp [size_madeCells])]
  exact madeCells3 x y z n
end
theorem grown_new {w w' W : World} {gc gm : Nat} (hb : w.grownBy w' (some gc)) (hg : w'.grownBy W (some gm)) (hle : w.heap.size ≤ gm) : w.grownBy W (some gc) :=
  ⟨hg.os.trans hb.os, hg.tape.trans hb.tape, hg.output.trans hb.output, Nat.le_trans hb.size hg.size, fun k hk hne => (hg.block k (Nat.lt_of_lt_of_le hk hb.size) (fun e => by injection e with e; omega)).trans (hb.block k hk hne)⟩
theorem row_blk {w : World} {base : Nat} {e : TypeId} {g n c sz : Nat} {xs : List Value} (h : w.ownsRow base e sz (.slice (some ⟨g, 0, none⟩) n c) n xs) : ∃ cs, Blk w g e cs := by
  rcases h.2 with ⟨hv, _⟩ | ⟨g', cap, cur, hv, _, hh, _⟩
  · cases hv
  · injection hv with e1 _ _
    injection e1 with e1
    injection e1 with e1
    subst e1
    exact ⟨cur, hh⟩
theorem set3_app {A B : List Value} {x y z a b c : Value} {m : Nat} (h : A.length = m) : (((A ++ ([x, y, z] ++ B)).set m a).set (m + 1) b).set (m + 2) c = A ++ ([a, b, c] ++ B) := by
  subst h
  rw [List.set_append_right _ _ (Nat.le_refl _), List.set_append_right _ _ (by omega), List.set_append_right _ _ (by omega)]
  simp
/-- A record of a row is stored, cell by cell. -/
theorem row_set3 {w : World} {base : Nat} {e : TypeId} {g n c m : Nat} {A B : List Value} {x y z a b d : Value} (h : w.ownsRow base e 3 (.slice (some ⟨g, 0, none⟩) n c) n (A ++ ([x, y, z] ++ B))) (hm : A.length = m) :
    ∃ W, W = ((w.setCell ⟨g, m, none⟩ a).setCell ⟨g, m + 1, none⟩ b).setCell ⟨g, m + 2, none⟩ d ∧ W.ownsRow base e 3 (.slice (some ⟨g, 0, none⟩) n c) n (A ++ ([a, b, d] ++ B)) ∧ w.grownBy W (some g) := by
  obtain ⟨h1, g1⟩ := h.stored m a
  obtain ⟨h2, g2⟩ := h1.stored (m + 1) b
  obtain ⟨h3, g3⟩ := h2.stored (m + 2) d
  rw [set3_app hm] at h3
  exact ⟨_, rfl, h3, (g1.trans g2).trans g3⟩
/-- Three cells of a block are stored. -/
theorem store3g {w w' : World} {g gc : Nat} {ty : TypeId} {x y z a b c : Value} (h : Blk w' g ty #[x, y, z]) (hb : w.grownBy w' (some gc)) (hg : w.heap.size ≤ g) :
    ∃ W3, W3 = (((w'.setCell ⟨g, 0, none⟩ a).setCell ⟨g, 1, none⟩ b).setCell ⟨g, 2, none⟩ c) ∧ Blk W3 g ty #[a, b, c] ∧ w.grownBy W3 (some gc) ∧ ∀ k, k ≠ g → W3.heap[k]? = w'.heap[k]? := by
  refine ⟨_, rfl, by simpa using ((h.set_ 0 a).set_ 1 b).set_ 2 c, ⟨hb.os, hb.tape, hb.output, by simpa [World.setCell] using hb.size, fun k hk hne => ?_⟩, fun k hk => ?_⟩
  · rw [Below.heap_setCell _ _ _ _ (show k ≠ g by omega), Below.heap_setCell _ _ _ _ (show k ≠ g by omega), Below.heap_setCell _ _ _ _ (show k ≠ g by omega)]
    exact hb.block k hk hne
  · rw [Below.heap_setCell _ _ _ _ hk, Below.heap_setCell _ _ _ _ hk, Below.heap_setCell _ _ _ _ hk]
theorem grown_drew {w : World} {row : Option Nat} : w.grownBy w.drew row := ⟨rfl, rfl, rfl, Nat.le_refl _, fun _ _ _ => rfl⟩
theorem cell_new {w0 : World} {p : Addr} {u : Value} (h : w0.cell? p = some u) (hp : p.block < w0.drew.heap.size) : ∀ W, New w0.drew W → W.cell? p = some u := fun _ hW => (Below.cell hW hp).trans h
/-- A literal's cells are read, records. -/
theorem Reads.litR (w : World) (e : TypeId) (cs : Array Value) (n sz : Nat) (xs : List Value) (h : cs.toList = xs) (hn : xs.length = n * sz) : Reads (w.alloc (.cells cs e)) (w.alloc (.cells cs e)).heap.size sz (some ⟨w.heap.size, 0, none⟩) n xs := by
  refine ⟨hn, fun _ => ⟨_, rfl, by simp, ?_⟩⟩
  have := World.news_of_block (heap_alloc_new w (.cells cs e))
  rwa [h] at this
/-- Both parts of a pair, as the walk reads them. -/
theorem Reads.pair2 {w : World} {B n i : Nat} {A : Option Addr} {l : List (Int × Int)} (h : Reads w B 2 A n (pairs l)) (hi : i < n) :
    ∃ ad, A = some ad ∧ ad.block < B ∧ w.cell? (ad.add (i * 2)) = some (.int .i64 (l.getD i (0, 0)).1) ∧ w.cell? ⟨(ad.add (i * 2)).block, (ad.add (i * 2)).off + 1, none⟩ = some (.int .i64 (l.getD i (0, 0)).2) := by
  obtain ⟨ad, h1, h2, h3, h4⟩ := h.pair hi
  rw [← add_of_add] at h4
  exact ⟨ad, h1, h2, h3, h4⟩

end Go.Hm
/- Columns as records. No program is named here. -/

namespace Go.Hm
open Go Go.RowKit
/-- A column: its name, its type, whether it may have nulls. -/
abbrev ColS := List Nat × Int × Bool
def colV (c : ColS) : List Value := [.string (bstr c.1), .int .i64 c.2.1, .bool c.2.2]
/-- The type of a column, as the walk reads it. -/
theorem Reads.colT {w : World} {B n i : Nat} {A : Option Addr} {l : List ColS} (h : Reads w B 3 A n (recs colV l)) (hi : i < n) :
    ∃ ad, A = some ad ∧ ad.block < B ∧ w.cell? (ad.add (i * 3)) = some (.string (bstr (l.getD i ([], 0, false)).1)) ∧ w.cell? ⟨(ad.add (i * 3)).block, (ad.add (i * 3)).off + 1, none⟩ = some (.int .i64 (l.getD i ([], 0, false)).2.1) ∧ w.cell? ⟨(ad.add (i * 3)).block, (ad.add (i * 3)).off + 2, none⟩ = some (.bool (l.getD i ([], 0, false)).2.2) := by
  obtain ⟨ad, h1, h2, _, h3⟩ := h.rec_ (f := colV) (sz := 3) (fun _ => rfl) ([], 0, false) hi (by omega)
  refine ⟨ad, h1, h2, h3 0 _ rfl, ?_, ?_⟩
  · have := h3 1 _ rfl
    rw [← add_of_add] at this
    exact this
  · have := h3 2 _ rfl
    rw [← add_of_add] at this
    exact this
theorem Reads.lenC {w : World} {B n : Nat} {A : Option Addr} {l : List ColS} (h : Reads w B 3 A n (recs colV l)) : n = l.length := h.lenR (f := colV) (sz := 3) (fun _ => rfl) (by omega)
theorem ccells {w : World} {g : Nat} {ty : TypeId} {x y z : Value} (h : Blk w g ty #[x, y, z]) : w.cell? ⟨g, 0, none⟩ = some x ∧ w.cell? ⟨g, 1, none⟩ = some y ∧ w.cell? ⟨g, 2, none⟩ = some z := by
  have h0 := h.cell 0
  have h1 := h.cell 1
  have h2 := h.cell 2
  simp at h0 h1 h2
  exact ⟨h0, h1, h2⟩

end Go.Hm
/- Cells as records. No program is named here. -/

namespace Go.Hm
open Go Go.RowKit
/-- A cell: whether it is null, its number, its text, its point. -/
abbrev CellS := Bool × Int × List Nat × Int × Int
def cellV (c : CellS) : List Value := [.bool c.1, .int .i64 c.2.1, .string (bstr c.2.2.1), .int .i64 c.2.2.2.1, .int .i64 c.2.2.2.2]
def cell0 : CellS := (false, 0, [], 0, 0)
def cellA (c : CellS) : Value := .agg (cellV c).toArray
/-- Is it a point within the box? -/
def inBox (x y : Int) : Bool := decide (-1048576 ≤ x) && decide (x ≤ 1048576) && decide (-1048576 ≤ y) && decide (y ≤ 1048576)
/-- May the cell stand in a column of this type? -/
def rightB (c : CellS) (t : Int) (nu : Bool) : Bool :=
  if c.1 then nu && decide (c.2.1 = 0 ∧ c.2.2.1 = [] ∧ c.2.2.2.1 = 0 ∧ c.2.2.2.2 = 0)
  else if t = 0 then decide (c.2.2.1 = [] ∧ c.2.2.2.1 = 0 ∧ c.2.2.2.2 = 0)
  else if t = 1 then decide ((c.2.2.1 = [] ∧ c.2.2.2.1 = 0 ∧ c.2.2.2.2 = 0) ∧ (c.2.1 = 0 ∨ c.2.1 = 1))
  else if t = 2 then decide ((c.2.1 = 0 ∧ c.2.2.2.1 = 0 ∧ c.2.2.2.2 = 0) ∧ c.2.2.1.length ≤ 65536)
  else if t = 3 then decide (c.2.1 = 0 ∧ c.2.2.1 = []) && inBox c.2.2.2.1 c.2.2.2.2
  else false
theorem cells5 {w : World} {g : Nat} {ty : TypeId} {a b c d e : Value} (h : Blk w g ty #[a, b, c, d, e]) : w.cell? ⟨g, 0, none⟩ = some a ∧ w.cell? ⟨g, 1, none⟩ = some b ∧ w.cell? ⟨g, 2, none⟩ = some c ∧ w.cell? ⟨g, 3, none⟩ = some d ∧ w.cell? ⟨g, 4, none⟩ = some e := by
  have h0 := h.cell 0
  have h1 := h.cell 1
  have h2 := h.cell 2
  have h3 := h.cell 3
  have h4 := h.cell 4
  simp at h0 h1 h2 h3 h4
  exact ⟨h0, h1, h2, h3, h4⟩
theorem cells2 {w : World} {g : Nat} {ty : TypeId} {a b : Value} (h : Blk w g ty #[a, b]) : w.cell? ⟨g, 0, none⟩ = some a ∧ w.cell? ⟨g, 1, none⟩ = some b := by
  have h0 := h.cell 0
  have h1 := h.cell 1
  simp at h0 h1
  exact ⟨h0, h1⟩
/-- A cell of many, as the walk reads it. -/
theorem Reads.cell5 {w : World} {B n i : Nat} {A : Option Addr} {l : List CellS} (h : Reads w B 5 A n (recs cellV l)) (hi : i < n) :
    ∃ ad, A = some ad ∧ ad.block < B ∧ w.cell? (ad.add (i * 5)) = some (.bool (l.getD i (false, 0, [], 0, 0)).1) ∧ w.cell? ⟨(ad.add (i * 5)).block, (ad.add (i * 5)).off + 1, none⟩ = some (.int .i64 (l.getD i (false, 0, [], 0, 0)).2.1)
      ∧ w.cell? ⟨(ad.add (i * 5)).block, (ad.add (i * 5)).off + 2, none⟩ = some (.string (bstr (l.getD i (false, 0, [], 0, 0)).2.2.1)) ∧ w.cell? ⟨(ad.add (i * 5)).block, (ad.add (i * 5)).off + 3, none⟩ = some (.int .i64 (l.getD i (false, 0, [], 0, 0)).2.2.2.1)
      ∧ w.cell? ⟨(ad.add (i * 5)).block, (ad.add (i * 5)).off + 4, none⟩ = some (.int .i64 (l.getD i (false, 0, [], 0, 0)).2.2.2.2) := by
  obtain ⟨ad, h1, h2, _, h3⟩ := h.rec_ (f := cellV) (sz := 5) (fun _ => rfl) (false, 0, [], 0, 0) hi (by omega)
  refine ⟨ad, h1, h2, h3 0 _ rfl, ?_, ?_, ?_, ?_⟩
  · have := h3 1 _ rfl
    rw [← add_of_add] at this
    exact this
  · have := h3 2 _ rfl
    rw [← add_of_add] at this
    exact this
  · have := h3 3 _ rfl
    rw [← add_of_add] at this
    exact this
  · have := h3 4 _ rfl
    rw [← add_of_add] at this
    exact this
theorem Reads.lenCell {w : World} {B n : Nat} {A : Option Addr} {l : List CellS} (h : Reads w B 5 A n (recs cellV l)) : n = l.length := h.lenR (f := cellV) (sz := 5) (fun _ => rfl) (by omega)

end Go.Hm
/- Facts off this program's tables. -/

namespace Go.Proofs.Ythmjbdpkdomofaa
open Go.Hm
theorem Try.own : ownKnob Try.prog.godebug = none := by kernel_rfl
theorem Try.laidOut : laidOutB Try.prog = true := by kernel_rfl
theorem elI : ElT Try.prog 26 3 (.int .i64 0) 1 8 := ⟨by kernel_rfl, by kernel_rfl, rfl, by omega⟩

end Go.Proofs.Ythmjbdpkdomofaa
