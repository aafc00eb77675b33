/- Texts merged, for a claim has at most 60 files: Mem, Up, Spec, More, Touch, Bits, ShaM, Facts, Str, Opt, ShaT, UpT. -/
import Derived.BigQuiet
import Derived.Deep.AppendLies
import Derived.Deep.Draws
import Derived.Deep.QuietTactic
import Derived.Deep.RegionHeld3
import Derived.IntWalk
import Derived.Laws.CopyOwn
import Derived.Lib.AppendStr
import Derived.Lib.Hide
import Derived.Maps.AppendAt
import Derived.Outline
import Derived.ProofKit
import Derived.Test.YtgfemjpeegbhhaaDoorRows
import Derived.WalkKit
import Derived.WalkLawsBesides
import Derived.WalkSpells
/- Plain lemmas on memory for walks: slices that read as lists, rows of the call's own, append of one element and of a slice, make and copy. No program is named here. -/

namespace Go.Hm
open Go.RowKit

theorem block_of_add (a : Addr) (n : Nat) : (a.add n).block = a.block := by unfold Addr.add; split <;> rfl
theorem add_of_add (a : Addr) (i j : Nat) : (a.add i).add j = a.add (i + j) := by
  unfold Addr.add
  by_cases hi : i = 0 <;> by_cases hj : j = 0 <;> simp [hi, hj, Nat.add_assoc]
theorem add_zero' (a : Addr) : a.add 0 = a := by unfold Addr.add; simp

theorem below_gr {B g : Nat} {a w w' : World} (h : Below B a w) (hg : w.grownBy w' (some g)) (hB : B ≤ g) (hBw : B ≤ a.heap.size) : Below B a w' :=
  h.grown hg (Nat.le_trans hBw h.size) (fun k hk => by injection hk with hk; omega)
/-- Two steps, of which the first leaves all. -/
theorem below_then {a b c : World} {B : Nat} (h : Below B a b) (k : Below b.heap.size b c) (hB : B ≤ a.heap.size) : Below B a c := h.trans (k.mono (Nat.le_trans hB h.size))

/-- Numbers as values of one integer kind. -/
def nums (k : IntKind) (l : List Nat) : List Value := l.map fun n : Nat => Value.int k (n : Int)
theorem nums_length (k : IntKind) (l : List Nat) : (nums k l).length = l.length := by simp [nums]
theorem nums_append (k : IntKind) (l m : List Nat) : nums k (l ++ m) = nums k l ++ nums k m := by simp [nums]
theorem nums_nil (k : IntKind) : nums k [] = [] := rfl
theorem nums_cons (k : IntKind) (n : Nat) (l : List Nat) : nums k (n :: l) = .int k (n : Int) :: nums k l := rfl
theorem nums_one (k : IntKind) (n : Nat) : nums k [n] = [.int k (n : Int)] := rfl
theorem nums_drop (k : IntKind) (l : List Nat) (i : Nat) : (nums k l).drop i = nums k (l.drop i) := by simp [nums]
theorem nums_take (k : IntKind) (l : List Nat) (i : Nat) : (nums k l).take i = nums k (l.take i) := by simp [nums]
theorem nums_at (k : IntKind) (l : List Nat) (i : Nat) (h : i < l.length) : (nums k l)[i]? = some (.int k ((l.getD i 0 : Nat) : Int)) := by
  simp [nums, List.getElem?_eq_getElem h]
theorem nums_oneCell (k : IntKind) (l : List Nat) : ∀ u ∈ nums k l, u.oneCell' = true := by
  intro u hu
  simp only [nums, List.mem_map] at hu
  obtain ⟨z, _, rfl⟩ := hu
  rfl
theorem nums_inj {k : IntKind} {l m : List Nat} (h : nums k l = nums k m) : l = m := by
  unfold nums at h
  exact (List.map_inj_right (fun a b hab => by injection hab with _ h; omega)).1 h
theorem nums_replicate (k : IntKind) (n x : Nat) : nums k (List.replicate n x) = List.replicate n (.int k (x : Int)) := by simp [nums]
theorem nums_set (k : IntKind) (l : List Nat) (i x : Nat) : (nums k l).set i (.int k (x : Int)) = nums k (l.set i x) := by simp [nums]

/-- Numbers of a signed kind as values. -/
def ints (k : IntKind) (l : List Int) : List Value := l.map (Value.int k)
theorem ints_length (k : IntKind) (l : List Int) : (ints k l).length = l.length := by simp [ints]
theorem ints_at (k : IntKind) (l : List Int) (i : Nat) (h : i < l.length) : (ints k l)[i]? = some (.int k (l.getD i 0)) := by
  simp [ints, List.getElem?_eq_getElem h]

/-- A slice value's parts hold the cells xs, below block B. -/
def Reads (w : World) (B size : Nat) (A : Option Addr) (n : Nat) (xs : List Value) : Prop :=
  xs.length = n * size ∧ (0 < n → ∃ ad, A = some ad ∧ ad.block < B ∧ ∀ j u, xs[j]? = some u → w.cell? (ad.add j) = some u)

section
variable {w w' : World} {B B' size n : Nat} {A : Option Addr} {xs : List Value}
theorem Reads.none_ : Reads w B size A 0 [] := ⟨by simp, fun h => absurd h (by omega)⟩
theorem Reads.at_ {k : Nat} (h : Reads w B 1 A n xs) (hk : k < n) : ∃ ad u, A = some ad ∧ ad.block < B ∧ xs[k]? = some u ∧ w.cell? (ad.add k) = some u := by
  obtain ⟨ad, e, hb, hc⟩ := h.2 (by omega)
  have hl : k < xs.length := by have := h.1; omega
  exact ⟨ad, xs[k], e, hb, List.getElem?_eq_getElem hl, hc k _ (List.getElem?_eq_getElem hl)⟩
theorem Reads.keep (h : Reads w B size A n xs) (hk : ∀ p : Addr, p.block < B → w'.cell? p = w.cell? p) : Reads w' B size A n xs :=
  ⟨h.1, fun hn => by
    obtain ⟨ad, e, hb, hc⟩ := h.2 hn
    exact ⟨ad, e, hb, fun j u hu => (hk _ (by rw [block_of_add]; exact hb)).trans (hc j u hu)⟩⟩
theorem Reads.more (h : Reads w B size A n xs) (hB : B ≤ B') : Reads w B' size A n xs :=
  ⟨h.1, fun hn => by
    obtain ⟨ad, e, hb, hc⟩ := h.2 hn
    exact ⟨ad, e, by omega, hc⟩⟩
theorem Reads.below (h : Reads w B size A n xs) (hb : Below B w w') : Reads w' B size A n xs := h.keep fun _ hp => hb.cell hp
theorem Reads.drew (h : Reads w B size A n xs) : Reads w.drew B size A n xs := h
theorem Reads.drewN (h : Reads w B size A n xs) (k : Nat) : Reads (w.drewN k) B size A n xs := h
theorem Reads.alloc (h : Reads w B size A n xs) (hB : B ≤ w.heap.size) (o : Obj) : Reads (w.alloc o) B size A n xs := h.keep fun p hp => World.cell?_alloc_lt w o p (by omega)
theorem Reads.setCell (h : Reads w B size A n xs) {p : Addr} (hB : B ≤ p.block) (u : Value) : Reads (w.setCell p u) B size A n xs :=
  h.keep fun q hq => World.cell?_setCell_other w p q u (fun e => by subst e; omega)
theorem Reads.grown (h : Reads w B size A n xs) {row : Option Nat} (hg : w.grownBy w' row) (hB : B ≤ w.heap.size) (hr : ∀ g, row = some g → B ≤ g) : Reads w' B size A n xs :=
  h.keep fun p hp => World.cell?_of_block (hg.block p.block (by omega) (fun e => by have := hr _ e.symm; omega))
/-- A slice is read as before where its block is not the one that was written. -/
theorem Reads.grown_far (h : Reads w w.heap.size size A n xs) {row : Option Nat} (hg : w.grownBy w' row) (hne : ∀ ad g, A = some ad → row = some g → ad.block ≠ g) : Reads w' w'.heap.size size A n xs :=
  ⟨h.1, fun hn => by
    obtain ⟨ad, e, hb, hc⟩ := h.2 hn
    refine ⟨ad, e, Nat.lt_of_lt_of_le hb hg.size, fun j u hu => ?_⟩
    rw [World.cell?_of_block (hg.block (ad.add j).block (by rw [block_of_add]; exact hb) (fun e' => hne _ _ e e'.symm (block_of_add _ _).symm))]
    exact hc j u hu⟩
theorem Reads.cut (h : Reads w B size A n xs) {k cap : Nat} (hk : k ≤ n) (hc : n ≤ cap) :
    Reads w B size (if cap = k then A else A.map (·.add (k * size))) (n - k) (xs.drop (k * size)) := by
  refine ⟨by rw [List.length_drop, h.1, Nat.sub_mul], fun hn => ?_⟩
  obtain ⟨ad, rfl, hb, hcell⟩ := h.2 (by omega)
  rw [if_neg (by omega)]
  refine ⟨ad.add (k * size), rfl, by rw [block_of_add]; exact hb, fun j u hu => ?_⟩
  rw [add_of_add]
  exact hcell _ u (by rw [← hu, List.getElem?_drop])
theorem Reads.take (h : Reads w B size A n xs) {k : Nat} (hk : k ≤ n) : Reads w B size A k (xs.take (k * size)) := by
  refine ⟨by rw [List.length_take, h.1, Nat.min_eq_left (Nat.mul_le_mul_right _ hk)], fun hn => ?_⟩
  obtain ⟨ad, rfl, hb, hcell⟩ := h.2 (by omega)
  refine ⟨ad, rfl, hb, fun j u hu => hcell j u ?_⟩
  rw [List.getElem?_take] at hu
  split at hu
  · exact hu
  · cases hu
theorem Reads.of_own {base : Nat} {e : TypeId} {c : Nat} (h : w.ownsRow base e size (.slice A n c) n xs) : Reads w w.heap.size size A n xs := by
  refine ⟨h.1, fun hn => ?_⟩
  obtain ⟨g, cap, hv, _, hlt⟩ := h.form hn
  have hA : A = some ⟨g, 0, none⟩ := by injection hv
  subst hA
  exact ⟨_, rfl, hlt, h.cells (g := g) rfl⟩
theorem Reads.len {k : IntKind} {l : List Nat} (h : Reads w B 1 A n (nums k l)) : n = l.length := by
  have := h.1
  rw [nums_length] at this
  omega
theorem Reads.lenI {k : IntKind} {l : List Int} (h : Reads w B 1 A n (ints k l)) : n = l.length := by
  have := h.1
  rw [ints_length] at this
  omega
theorem Reads.int {k : IntKind} {l : List Int} {i : Nat} (h : Reads w B 1 A n (ints k l)) (hi : i < n) : ∃ ad, A = some ad ∧ ad.block < B ∧ w.cell? (ad.add i) = some (.int k (l.getD i 0)) := by
  obtain ⟨ad, u, e, hb, hu, hc⟩ := h.at_ hi
  have hl : i < l.length := by have := h.lenI; omega
  rw [ints_at k l i hl] at hu
  injection hu with hu
  subst hu
  exact ⟨ad, e, hb, hc⟩
theorem Reads.num {k : IntKind} {l : List Nat} {i : Nat} (h : Reads w B 1 A n (nums k l)) (hi : i < n) : ∃ ad, A = some ad ∧ ad.block < B ∧ w.cell? (ad.add i) = some (.int k ((l.getD i 0 : Nat) : Int)) := by
  obtain ⟨ad, u, e, hb, hu, hc⟩ := h.at_ hi
  have hl : i < l.length := by have := h.1; rw [nums_length] at this; omega
  rw [nums_at k l i hl] at hu
  injection hu with hu
  subst hu
  exact ⟨ad, e, hb, hc⟩
end

/-- A row of the call's own, elements of one cell. -/
def Own (w : World) (base : Nat) (e : TypeId) (v : Value) (xs : List Value) : Prop := w.ownsRow base e 1 v xs.length xs

section
variable {w w' : World} {base : Nat} {e : TypeId} {v : Value} {xs : List Value}
theorem Own.nil_ : Own w base e (.slice none 0 0) [] := World.ownsRow_nil w base e 1
theorem Own.empty (w : World) (e : TypeId) : Own (w.alloc (.cells #[] e)) w.heap.size e (.slice (some ⟨w.heap.size, 0, none⟩) 0 0) [] :=
  World.ownsRow_made w #[] 0 (Nat.le_refl _) (Nat.zero_le _) rfl
theorem Own.slice (h : Own w base e v xs) : ∃ A c, v = .slice A xs.length c ∧ xs.length ≤ c ∧ c ≤ maxLen := by
  rcases h.2 with ⟨hv, hn⟩ | ⟨g, cap, cur, hv, _, _, hc, hm, _⟩
  · exact ⟨none, 0, by rw [hv, hn], by omega, by simp [maxLen]⟩
  · exact ⟨_, _, hv, hc, hm⟩
theorem Own.reads {A : Option Addr} {n c : Nat} (h : Own w base e (.slice A n c) xs) : Reads w w.heap.size 1 A n xs := by
  have hn : n = xs.length := by
    obtain ⟨A', c', hv, _⟩ := h.slice
    injection hv
  subst hn
  exact Reads.of_own h
theorem Own.len {A : Option Addr} {n c : Nat} (h : Own w base e (.slice A n c) xs) : n = xs.length := by
  obtain ⟨A', c', hv, _⟩ := h.slice
  injection hv
theorem Own.cap {A : Option Addr} {n c : Nat} (h : Own w base e (.slice A n c) xs) : n ≤ c ∧ c ≤ maxLen := by
  obtain ⟨A', c', hv, h1, h2⟩ := h.slice
  injection hv with _ e1 e2
  subst e1 e2
  exact ⟨h1, h2⟩
theorem Own.kept {row : Option Nat} (h : Own w base e v xs) (hg : w.grownBy w' row) (hne : v.ownBlock = none ∨ v.ownBlock ≠ row) : Own w' base e v xs := World.ownsRow.kept h hg hne
theorem Own.lt (h : Own w base e v xs) : ∀ k, v.ownBlock = some k → base ≤ k ∧ k < w.heap.size := World.ownsRow.lt h
/-- Kept over whatever turns nothing below a number above the row. -/
theorem Own.below {B : Nat} (h : Own w base e v xs) (hb : Below B w w') (hB : w.heap.size ≤ B) : Own w' base e v xs := by
  refine ⟨h.1, ?_⟩
  rcases h.2 with hn | ⟨g, cap, cur, rfl, hbg, hgg, rest⟩
  · exact .inl hn
  · refine .inr ⟨g, cap, cur, rfl, hbg, ?_, rest⟩
    rw [hb.block g (Nat.lt_of_lt_of_le (Array.getElem?_eq_some_iff.1 hgg).1 hB)]
    exact hgg
theorem Own.base_le {b' : Nat} (h : Own w base e v xs) (hb : b' ≤ base) : Own w b' e v xs := by
  refine ⟨h.1, ?_⟩
  rcases h.2 with hn | ⟨g, cap, cur, hv, hbg, rest⟩
  · exact .inl hn
  · exact .inr ⟨g, cap, cur, hv, Nat.le_trans hb hbg, rest⟩
theorem Own.alloc (h : Own w base e v xs) (o : Obj) : Own (w.alloc o) base e v xs := World.ownsRow.alloc h o
theorem Own.drewN (h : Own w base e v xs) (k : Nat) : Own (w.drewN k) base e v xs := h
theorem Own.frozen {A : Addr} {n c : Nat} (h : Own w base e (.slice (some A) n c) xs) (j : Nat) : w.frozen? (A.add j) = false := by
  rcases h.2 with ⟨hv, _⟩ | ⟨g, cap, cur, hv, _, hgg, _⟩
  · cases hv
  · injection hv with e1 _ _
    injection e1 with e1
    subst e1
    have hf : ((⟨g, 0, none⟩ : Addr).add j).block = g := block_of_add _ _
    unfold World.frozen?
    rw [hf, hgg]
    simp
end

/-- One element of a row of the call's own, to be read or written. -/
theorem Own.at_ {w : World} {base : Nat} {e : TypeId} {A : Option Addr} {n c i : Nat} {xs : List Value} (h : Own w base e (.slice A n c) xs) (hi : i < n) :
    ∃ g u, A = some ⟨g, 0, none⟩ ∧ base ≤ g ∧ g < w.heap.size ∧ xs[i]? = some u ∧ w.cell? ⟨g, i, none⟩ = some u ∧ w.frozen? ⟨g, i, none⟩ = false ∧
      ∀ u' : Value, Own (w.setCell ⟨g, i, none⟩ u') base e (.slice A n c) (xs.set i u') := by
  have hn := h.len
  obtain ⟨g, cap, hv, hbg, hlt⟩ := World.ownsRow.form h (by omega)
  have hA : A = some ⟨g, 0, none⟩ := by injection hv
  subst hA
  have hx : i < xs.length := by omega
  have h' : w.ownsRow base e 1 (.slice (some ⟨g, 0, none⟩) n c) n xs := by rw [hn] at h ⊢; exact h
  refine ⟨g, xs[i], rfl, hbg, hlt, List.getElem?_eq_getElem hx, ?_, h'.frozenAt i, fun u' => ?_⟩
  · rw [h'.cellAt i (by omega), List.getElem?_eq_getElem hx]
  · have := (h'.stored i u').1
    unfold Own
    rw [List.length_set, ← hn]
    exact this

/-- A block that is known whole. -/
def Blk (w : World) (g : Nat) (t : TypeId) (cs : Array Value) : Prop := w.heap[g]? = some (.cells cs t (0, 0))

section
variable {w w' : World} {g : Nat} {t : TypeId} {cs : Array Value}
theorem Blk.lt (h : Blk w g t cs) : g < w.heap.size := by
  rcases Nat.lt_or_ge g w.heap.size with hlt | hge
  · exact hlt
  · unfold Blk at h; rw [Array.getElem?_eq_none hge] at h; cases h
theorem Blk.cell (h : Blk w g t cs) (i : Nat) : w.cell? ⟨g, i, none⟩ = cs[i]? := cell_of_row w g i cs t (0, 0) h
theorem Blk.frozen (h : Blk w g t cs) (i : Nat) : w.frozen? ⟨g, i, none⟩ = false := by
  unfold Blk at h
  simp [World.frozen?, h]
theorem Blk.new (w : World) (t : TypeId) (cs : Array Value) : Blk (w.alloc (.cells cs t)) w.heap.size t cs := heap_alloc_new w _
theorem Blk.drew (h : Blk w g t cs) : Blk w.drew g t cs := h
theorem Blk.drewN (h : Blk w g t cs) (n : Nat) : Blk (w.drewN n) g t cs := h
theorem Blk.alloc (h : Blk w g t cs) (o : Obj) : Blk (w.alloc o) g t cs := (Below.heap_alloc w o g h.lt).trans h
theorem Blk.set_ (h : Blk w g t cs) (i : Nat) (u : Value) : Blk (w.setCell ⟨g, i, none⟩ u) g t (cs.setIfInBounds i u) := by
  unfold Blk at h ⊢
  simp [World.setCell, Array.getElem?_modify, h]
theorem Blk.far (h : Blk w g t cs) {p : Addr} (hp : g ≠ p.block) (u : Value) : Blk (w.setCell p u) g t cs := (Below.heap_setCell w p u g hp).trans h
theorem Blk.below {B : Nat} (h : Blk w g t cs) (hb : Below B w w') (hg : g < B) : Blk w' g t cs := (hb.block g hg).trans h
theorem Blk.grown {row : Option Nat} (h : Blk w g t cs) (hb : w.grownBy w' row) (hg : some g ≠ row) : Blk w' g t cs := (hb.block g h.lt hg).trans h
theorem Blk.ne_ {g' : Nat} {t' : TypeId} {cs' : Array Value} (h : Blk w g t cs) (h' : Blk w g' t' cs') (hne : t ≠ t') : g ≠ g' := by
  rintro rfl
  unfold Blk at h h'
  rw [h] at h'
  injection h' with h'
  injection h' with _ ht
  exact hne ht
theorem Own.blk_ne {base : Nat} {e : TypeId} {v : Value} {xs : List Value} (h : Own w base e v xs) (hg : Blk w g t cs) (hne : e ≠ t) : v.ownBlock ≠ some g := by
  rcases h.2 with ⟨rfl, _⟩ | ⟨g', cap, cur, rfl, _, hh, _⟩
  · simp [Value.ownBlock]
  · intro he
    have : g' = g := by simpa [Value.ownBlock] using he
    subst this
    exact Blk.ne_ (t := e) hh hg hne rfl
theorem Own.keepT {base : Nat} {e : TypeId} {v : Value} {xs : List Value} (h : Own w base e v xs) (hg : w.grownBy w' (some g)) (hT : Blk w g t cs) (hne : e ≠ t) : Own w' base e v xs := h.kept hg (.inr (h.blk_ne hT hne))
end

/-- A slice read as cells, in a block of elements of type e. -/
def TR (w : World) (e : TypeId) (A : Option Addr) (n : Nat) (xs : List Value) : Prop := Reads w w.heap.size 1 A n xs ∧ (0 < n → ∀ ad, A = some ad → ∃ cs, Blk w ad.block e cs)

section
variable {w w' : World} {e : TypeId} {n : Nat} {A : Option Addr} {xs : List Value}
theorem TR.nil_ : TR w e A 0 [] := ⟨⟨by simp, fun h => absurd h (by omega)⟩, fun h => absurd h (by omega)⟩
theorem TR.keep {g : Nat} {t : TypeId} {cs : Array Value} (h : TR w e A n xs) (hg : w.grownBy w' (some g)) (hT : Blk w g t cs) (hne : e ≠ t) : TR w' e A n xs := by
  refine ⟨⟨h.1.1, fun hn => ?_⟩, fun hn ad ha => ?_⟩
  · obtain ⟨ad, e1, hb, hc⟩ := h.1.2 hn
    obtain ⟨cs', hB⟩ := h.2 hn ad e1
    have hng : ad.block ≠ g := Blk.ne_ hB hT hne
    refine ⟨ad, e1, Nat.lt_of_lt_of_le hb hg.size, fun j u hu => ?_⟩
    rw [World.cell?_of_block (hg.block (ad.add j).block (by rw [block_of_add]; exact hb) (by rw [block_of_add]; simpa using hng))]
    exact hc j u hu
  · obtain ⟨cs', hB⟩ := h.2 hn ad ha
    exact ⟨cs', hB.grown hg (by simpa using Blk.ne_ hB hT hne)⟩
theorem TR.below (h : TR w e A n xs) (hb : Below w.heap.size w w') : TR w' e A n xs :=
  ⟨(h.1.below hb).more hb.size, fun hn ad ha => by
    obtain ⟨cs', hB⟩ := h.2 hn ad ha
    exact ⟨cs', hB.below hb hB.lt⟩⟩
theorem TR.grown {row : Option Nat} (h : TR w e A n xs) (hg : w.grownBy w' row) (hne : ∀ ad g, A = some ad → row = some g → ad.block ≠ g) : TR w' e A n xs :=
  ⟨h.1.grown_far hg hne, fun hn ad ha => by
    obtain ⟨cs', hB⟩ := h.2 hn ad ha
    exact ⟨cs', hB.grown hg (fun e' => hne _ _ ha e'.symm rfl)⟩⟩
theorem TR.drewN (h : TR w e A n xs) (k : Nat) : TR (w.drewN k) e A n xs := h
theorem TR.alloc (h : TR w e A n xs) (o : Obj) : TR (w.alloc o) e A n xs := h.below ((Below.refl _ _).alloc (Nat.le_refl _) o)
theorem TR.cut (h : TR w e A n xs) {k cap : Nat} (hk : k ≤ n) (hc : n ≤ cap) : TR w e (if cap = k then A else A.map (·.add k)) (n - k) (xs.drop k) := by
  have h1 := h.1.cut hk hc
  rw [Nat.mul_one] at h1
  refine ⟨h1, fun hn ad ha => ?_⟩
  rw [if_neg (by omega)] at ha
  rcases A with _ | a
  · cases ha
  · injection ha with ha
    subst ha
    obtain ⟨cs', hB⟩ := h.2 (by omega) a rfl
    exact ⟨cs', by simpa [block_of_add] using hB⟩
theorem TR.take (h : TR w e A n xs) {k : Nat} (hk : k ≤ n) : TR w e A k (xs.take k) := by
  have h1 := h.1.take hk
  rw [Nat.mul_one] at h1
  exact ⟨h1, fun hn ad ha => h.2 (by omega) ad ha⟩
theorem TR.of_own {base : Nat} {c : Nat} (h : Own w base e (.slice A n c) xs) : TR w e A n xs := by
  refine ⟨h.reads, fun hn ad ha => ?_⟩
  rcases h.2 with ⟨hv, hx⟩ | ⟨g, cap, cur, hv, _, hh, _⟩
  · injection hv with e1 e2 _
    omega
  · injection hv with e1 _ _
    rw [ha] at e1
    injection e1 with e1
    subst e1
    exact ⟨cur, hh⟩
end

/-- Bytes as a string. -/
def bstr (l : List Nat) : ByteArray := ⟨(l.map UInt8.ofNat).toArray⟩
theorem bstr_append (l m : List Nat) : bstr l ++ bstr m = bstr (l ++ m) := by
  refine ByteArray.ext ?_
  rw [ByteArray.data_append]
  simp [bstr]
theorem bstr_size (l : List Nat) : (bstr l).size = l.length := by
  show (bstr l).data.size = _
  simp [bstr]
theorem bstr_nil : bstr [] = ⟨#[]⟩ := rfl
theorem ba_loop (b : ByteArray) : ∀ (k i : Nat) (r : List UInt8), b.size - i = k → ByteArray.toList.loop b i r = r.reverse ++ b.data.toList.drop i := by
  intro k
  induction k with
  | zero =>
    intro i r h
    rw [ByteArray.toList.loop]
    have hs : b.data.toList.length ≤ i := by rw [Array.length_toList]; show b.size ≤ i; omega
    rw [if_neg (by omega), List.drop_eq_nil_of_le hs, List.append_nil]
  | succ k ih =>
    intro i r h
    rw [ByteArray.toList.loop, if_pos (by omega), ih _ _ (by omega)]
    have hs : i < b.data.toList.length := by rw [Array.length_toList]; show i < b.size; omega
    rw [List.drop_eq_getElem_cons hs, List.reverse_cons, List.append_assoc]
    congr 1
    simp only [List.singleton_append, List.cons.injEq, and_true]
    have hi : i < b.data.size := by rw [← Array.length_toList]; exact hs
    show b.data[i]! = _
    rw [getElem!_pos b.data i hi]
    rfl
theorem ba_toList (b : ByteArray) : b.toList = b.data.toList := by
  rw [ByteArray.toList, ba_loop b b.size 0 [] (by omega)]
  simp
theorem bstr_toList (l : List Nat) : (bstr l).toList = l.map UInt8.ofNat := by rw [ba_toList]; rfl
theorem bstr_beq {l m : List Nat} (hl : ∀ x ∈ l, x < 256) (hm : ∀ x ∈ m, x < 256) : ((bstr l).toList == (bstr m).toList) = decide (l = m) := by
  rw [bstr_toList, bstr_toList, Bool.eq_iff_iff]
  simp only [beq_iff_eq, decide_eq_true_eq]
  constructor
  · intro h
    refine List.ext_getElem (by simpa using congrArg List.length h) fun i h1 h2 => ?_
    have := congrArg (fun l => (l[i]?).map UInt8.toNat) h
    simp [List.getElem?_eq_getElem h1, List.getElem?_eq_getElem h2] at this
    have a1 := hl _ (List.getElem_mem h1)
    have a2 := hm _ (List.getElem_mem h2)
    omega
  · rintro rfl; rfl
theorem run_str {P : Program} {w : World} {src dst e : TypeId} (hs : P.underlying src = some (.slice e)) (he : P.underlying e = some (.int .u8)) (hd : P.underlying dst = some .string) {B n c : Nat} {A : Option Addr} {l : List Nat}
    (h : Reads w B 1 A n (nums .u8 l)) : (convert src dst (.slice A n c)).run P w = .ok (.string (bstr l)) w := by
  obtain rfl := h.len
  rcases A with _ | ad
  · have hl0 : l.length = 0 := by
      rcases Nat.eq_zero_or_pos l.length with h0 | h0
      · exact h0
      · obtain ⟨ad, h', _⟩ := h.2 h0
        cases h'
    obtain rfl : l = [] := List.eq_nil_of_length_eq_zero hl0
    rw [run_convert_bytes_string w src dst e none _ c hs he hd]
    simp [Conv.bytesToString, bstr]
    rfl
  · have hl : (loadCells ad l.length).run P w = .ok ((l.map fun n : Nat => (n : Int)).map (Value.int .u8)).toArray w := by
      have hc : ∀ j v, (nums .u8 l)[j]? = some v → w.cell? (ad.add j) = some v := by
        intro j v hv
        rcases Nat.eq_zero_or_pos l.length with h0 | h0
        · obtain rfl : l = [] := List.eq_nil_of_length_eq_zero h0
          simp [nums] at hv
        · obtain ⟨ad', e', _, hc⟩ := h.2 h0
          injection e' with e'
          subst e'
          exact hc j v hv
      have := run_loadCells_list (P := P) w ad (nums .u8 l) hc
      rw [nums_length] at this
      rw [this]
      simp [nums]
    rw [run_convert_bytes_string w src dst e _ _ c hs he hd, run_bytesToString w ad _ c _ hl, foldl_push_bytes]
    simp [bstr, ByteArray.empty, ByteArray.emptyWithCapacity]
    rfl
theorem Reads.lit (w : World) (e : TypeId) (cs : Array Value) (n : Nat) (k : IntKind) (l : List Nat) (h : cs.toList = nums k l) (hn : n = l.length) : Reads (w.alloc (.cells cs e)) (w.alloc (.cells cs e)).heap.size 1 (some ⟨w.heap.size, 0, none⟩) n (nums k l) := by
  subst hn
  refine ⟨by rw [nums_length]; simp, fun _ => ⟨_, rfl, by simp, ?_⟩⟩
  have := World.news_of_block (heap_alloc_new w (.cells cs e))
  rwa [h] at this
theorem Reads.one (w : World) (e : TypeId) (k : IntKind) (x : Nat) : Reads (w.alloc (.cells #[.int k (x : Int)] e)) (w.heap.size + 1) 1 (some ⟨w.heap.size, 0, none⟩) 1 (nums k [x]) :=
  ⟨rfl, fun _ => ⟨_, rfl, by simp, cell_one_new w _ e⟩⟩

/-- The facts on a slice type's element, off the program's table. -/
structure ElT (P : Program) (t e : TypeId) (z : Value) (size bytes : Nat) : Prop where
  ht : P.underlying t = some (.slice e)
  hi : (P.info? e).map (fun i => (i.zero, i.size, i.bytes)) = some (some z, size, bytes)
  hz : z.cells.size = size
  hs : 0 < size

section
variable {P : Program} {ops : Array Oper} {rest : List Oper} {o : Oper} {a : Act} {Q : Exit → Act → World → Prop}

/-- append(s, x) behind the block that x was laid in. -/
theorem wpList_push {w : World} {t e : TypeId} {z : Value} {bytes : Nat} (E : ElT P t e z 1 bytes) (hgd : o.guard = none) (s x : Operand)
    (ho : o.op = .call { callee := .builtin .append, args := #[s, x], argTypes := #[t, t] })
    {W : World} {B base : Nat} {v u : Value} {xs : List Value} (hown : Own w base e v xs) (hs : a.eval s = v) (hx : a.eval x = .slice (some ⟨w.heap.size, 0, none⟩) 1 1)
    (hb : Below B W w) (hbB : B ≤ base) (hbase : base ≤ w.heap.size) (h1 : u.oneCell' = true)
    (hn : (xs.length + 1) * bytes ≤ 140737488355328) (hm : xs.length + 1 ≤ maxLen)
    (h : ∀ A' c' w', xs.length + 1 ≤ c' → c' ≤ maxLen → Own w' base e (.slice A' (xs.length + 1) c') (xs ++ [u]) → w.grownBy w' v.ownBlock → Below B W w' → w.heap.size < w'.heap.size →
      (Value.ownBlock (.slice A' (xs.length + 1) c') = v.ownBlock ∨ ∃ g, Value.ownBlock (.slice A' (xs.length + 1) c') = some g ∧ w.heap.size ≤ g) → wpList P ops Q rest (a.put o.dst (.slice A' (xs.length + 1) c')) w') :
    wpList P ops Q (o :: rest) a (w.alloc (.cells #[u] e)) := by
  obtain ⟨i, hi, hz0, hz1, hz2⟩ := info_parts E.hi
  refine wpList_append_own_at _ hgd s x t ho base e i z 1 bytes E.ht hi hz0 hz1 hz2 E.hz (by omega) v xs.length xs hs (World.ownsRow.alloc hown _) ⟨w.heap.size, 0, none⟩ 1 1 [u] hx rfl (cell_one_new _ _ _) (by simpa using h1) hm hn (by simp; omega) ?_
  intro v' w' hown' hg _ hat
  have hxl : (xs ++ [u]).length = xs.length + 1 := by simp
  have hown2 : Own w' base e v' (xs ++ [u]) := by unfold Own; rw [hxl]; exact hown'
  obtain ⟨A', c', rfl, hc1, hc2⟩ := hown2.slice
  rw [hxl] at hc1 hown2 hat ⊢
  have hg2 : w.grownBy w' v.ownBlock := (World.grownBy_alloc w (.cells #[u] e) v.ownBlock).trans hg
  have hsz := hg.size
  simp at hsz
  refine h A' c' w' hc1 hc2 hown2 hg2 (hb.grown hg2 (Nat.le_trans hbB hbase) (fun k hk => by have := (hown.lt k hk).1; omega)) (by omega) ?_
  rcases hat with e1 | e1
  · exact .inl e1
  · exact .inr ⟨_, e1, by simp⟩

/-- append(s, xs...) onto a row of the call's own. -/
theorem wpList_pushes {w : World} {t e : TypeId} {z : Value} {bytes : Nat} (E : ElT P t e z 1 bytes) (hgd : o.guard = none) (s x : Operand)
    (ho : o.op = .call { callee := .builtin .append, args := #[s, x], argTypes := #[t, t] })
    {W : World} {B base : Nat} {v : Value} {xs news : List Value} {A : Option Addr} {m c : Nat} (hown : Own w base e v xs) (hr : Reads w w.heap.size 1 A m news) (hs : a.eval s = v) (hx : a.eval x = .slice A m c)
    (hb : Below B W w) (hbB : B ≤ base) (hbase : base ≤ w.heap.size) (h1 : ∀ u ∈ news, u.oneCell' = true)
    (hn : (xs.length + m) * bytes ≤ 140737488355328) (hm : xs.length + m ≤ maxLen)
    (h : ∀ A' c' w', xs.length + m ≤ c' → c' ≤ maxLen → Own w' base e (.slice A' (xs.length + m) c') (xs ++ news) → w.grownBy w' v.ownBlock → Below B W w' →
      (Value.ownBlock (.slice A' (xs.length + m) c') = v.ownBlock ∨ ∃ g, Value.ownBlock (.slice A' (xs.length + m) c') = some g ∧ w.heap.size ≤ g) → wpList P ops Q rest (a.put o.dst (.slice A' (xs.length + m) c')) w') :
    wpList P ops Q (o :: rest) a w := by
  obtain ⟨i, hi, hz0, hz1, hz2⟩ := info_parts E.hi
  have hl : news.length = m := by have := hr.1; omega
  have hxl : (xs ++ news).length = xs.length + m := by simp [hl]
  rcases A with _ | ad
  · have hm0 : m = 0 := by
      rcases Nat.eq_zero_or_pos m with h0 | h0
      · exact h0
      · obtain ⟨ad, h', _⟩ := hr.2 h0
        cases h'
    subst hm0
    have hn0 : news = [] := List.eq_nil_of_length_eq_zero hl
    subst hn0
    have hrun : ∀ ty, (Builtin.append_ #[t, t] ty #[v, .slice none 0 c]).run P w = .ok v w := by
      intro ty
      rcases hown.2 with ⟨rfl, hx0⟩ | ⟨g, cap, cur, rfl, _, _, hnc, _⟩
      · simp [Builtin.append_, run_underlying E.ht, sizeOf, typeInfo, hi, Builtin.lenOf, Builtin.firstCells]
      · simp [Builtin.append_, run_underlying E.ht, sizeOf, typeInfo, hi, Builtin.lenOf, Builtin.firstCells, hnc, storeCells]
    refine wpList_plain hgd fun K hK => ?_
    unfold Oper.wp execOp
    simp only [ho, resolve, invoke, builtin, Sem.run_bind, Sem.run_pure, Result.andThen_ok, List.map_toArray, List.map_cons, List.map_nil, hs, hx, hrun]
    obtain ⟨A', c', rfl, hc1, hc2⟩ := hown.slice
    exact hK _ _ (h A' c' w hc1 hc2 (by simpa using hown) (World.grownBy.refl w _) hb (.inl rfl))
  · have hcells : ∀ j u, news[j]? = some u → w.cell? (ad.add j) = some u := by
      intro j u hu
      rcases Nat.eq_zero_or_pos m with h0 | h0
      · subst h0
        have hn : news = [] := List.eq_nil_of_length_eq_zero hl
        subst hn
        simp at hu
      · obtain ⟨ad', h', _, hc⟩ := hr.2 h0
        injection h' with h'
        subst h'
        exact hc j u hu
    refine wpList_append_own_at _ hgd s x t ho base e i z 1 bytes E.ht hi hz0 hz1 hz2 E.hz (by omega) v xs.length xs hs hown ad m c news hx (by omega) hcells h1 hm hn hbase ?_
    intro v' w' hown' hg _ hat
    have hown2 : Own w' base e v' (xs ++ news) := by unfold Own; rw [hxl]; exact hown'
    obtain ⟨A', c', rfl, hc1, hc2⟩ := hown2.slice
    rw [hxl] at hc1 hown2 hat ⊢
    refine h A' c' w' hc1 hc2 hown2 hg (hb.grown hg (Nat.le_trans hbB hbase) (fun k hk => by have := (hown.lt k hk).1; omega)) ?_
    rcases hat with e1 | e1
    · exact .inl e1
    · exact .inr ⟨_, e1, Nat.le_refl _⟩

/-- make([]T, l, c), T of one cell: the row is the call's own. -/
theorem wpList_mk {w : World} {t e : TypeId} {z : Value} {bytes : Nat} (E : ElT P t e z 1 bytes) (hgd : o.guard = none) (lo co : Operand) (ho : o.op = Op.makeSlice t lo co)
    {W : World} {B : Nat} {kl kc : IntKind} {L C : Int} (l c : Nat) (hl : a.eval lo = .int kl L) (hc : a.eval co = .int kc C) (hL : L = (l : Int)) (hC : C = (c : Int)) (hlc : l ≤ c) (hb : Below B W w) (hbase : B ≤ w.heap.size)
    (hz1 : z.oneCell' = true) (hn : c * bytes ≤ 140737488355328) (hm : c ≤ maxLen)
    (h : ∀ w', Own w' w.heap.size e (.slice (some ⟨w.heap.size, 0, none⟩) l c) (List.replicate l z) → w.grownBy w' none → Below B W w' → w'.heap.size = w.heap.size + 1 → wpList P ops Q rest (a.put o.dst (.slice (some ⟨w.heap.size, 0, none⟩) l c)) w') :
    wpList P ops Q (o :: rest) a w := by
  obtain ⟨i, hi, hz0, hs1, hb1⟩ := info_parts E.hi
  subst hL hC
  have hzc : z.cells = #[z] := by
    revert hz1; unfold Value.oneCell' Value.cells
    cases z <;> simp
  have hmC : (c : Int) ≤ 9223372036854775807 := by have h := hm; simp only [maxLen] at h; omega
  have hbC : (i.bytes : Int) * (c : Int) ≤ 281474976710656 := by
    have h : ((i.bytes * c : Nat) : Int) ≤ 281474976710656 := by rw [hb1, Nat.mul_comm]; omega
    rwa [Int.natCast_mul] at h
  have hrun := run_make (P := P) w t e i z E.ht hi hz0 kl kc (l : Int) (c : Int) (by omega) (by omega) hbC hmC
  rw [Int.toNat_natCast, Int.toNat_natCast, hs1, Nat.mul_one, hzc] at hrun
  refine wpList_plain hgd fun K hK => ?_
  unfold Oper.wp
  simp [execOp, ho, hl, hc, hrun, Result.andThen]
  refine hK _ _ (h _ ?_ (World.grownBy_alloc _ _ _) (hb.alloc hbase _) (by simp))
  refine ⟨by simp, .inr ⟨_, c, _, by simp, Nat.le_refl _, heap_alloc_new w _, by simpa using hlc, hm, by simp [size_madeCells], ?_⟩⟩
  rw [toList_madeCells_one]
  simp [Nat.min_eq_left hlc]

/-- copy onto the head of a row of the call's own. -/
theorem wpList_cp {w : World} {t e : TypeId} {z : Value} {bytes : Nat} (E : ElT P t e z 1 bytes) (hgd : o.guard = none) (d s : Operand)
    (ho : o.op = .call { callee := .builtin .copy, args := #[d, s], argTypes := #[t, t] })
    {W : World} {B base : Nat} {xs ys : List Value} {D A : Option Addr} {m c n cd : Nat} (hown : Own w base e (.slice D n cd) xs) (hr : Reads w w.heap.size 1 A m ys) (hd : a.eval d = .slice D n cd) (hs : a.eval s = .slice A m c)
    (r : Nat) (hmr : Nat.min m n = r) (hb : Below B W w) (hbB : B ≤ base) (h1 : ∀ u ∈ ys, u.oneCell' = true)
    (h : ∀ w', Own w' base e (.slice D n cd) (ys.take n ++ xs.drop m) → w.grownBy w' (Value.ownBlock (.slice D n cd)) → Below B W w' → w'.heap.size = w.heap.size → wpList P ops Q rest (a.put o.dst (.int .i64 (r : Int))) w') :
    wpList P ops Q (o :: rest) a w := by
  subst hmr
  obtain ⟨i, hi, hz0, hs1, hb1⟩ := info_parts E.hi
  have hsz : (P.info? e).map (·.size) = some 1 := by simp [hi, hs1]
  have hln := hown.len
  have hym : ys.length = m := by have := hr.1; omega
  by_cases h0 : Nat.min m n = 0
  · have hrun : ∀ ty, (Builtin.copy_ #[t, t] ty #[.slice D n cd, .slice A m c]).run P w = .ok (goInt 0) w := fun ty => run_copy_none w t t ty e D A n cd m c E.ht hsz h0
    refine wpList_plain hgd fun K hK => ?_
    unfold Oper.wp execOp
    simp only [ho, resolve, invoke, builtin, Sem.run_bind, Sem.run_pure, Result.andThen_ok, List.map_toArray, List.map_cons, List.map_nil, hd, hs, hrun]
    have hx : ys.take n ++ xs.drop m = xs := by
      rcases Nat.min_eq_zero_iff.1 h0 with hm | hn
      · subst hm
        have : ys = [] := List.eq_nil_of_length_eq_zero hym
        subst this
        simp
      · subst hn
        have : xs = [] := List.eq_nil_of_length_eq_zero hln.symm
        subst this
        simp
    have := h w (by rw [hx]; exact hown) (World.grownBy.refl w _) hb rfl
    rw [h0] at this
    exact hK _ _ this
  · have hmin : 0 < m ∧ 0 < n := by
      constructor
      · rcases Nat.eq_zero_or_pos m with e' | e'
        · subst e'; exact absurd (Nat.zero_min n) h0
        · exact e'
      · rcases Nat.eq_zero_or_pos n with e' | e'
        · subst e'; exact absurd (Nat.min_zero m) h0
        · exact e'
    obtain ⟨ad, rfl, _, hcell⟩ := hr.2 hmin.1
    rcases hown.2 with ⟨hv, hx0⟩ | ⟨g, cap, cur, hv, hbg, hgg, hnc, hcm, hcs, htake⟩
    · omega
    · injection hv with e1 e2 e3
      subst e1 e3
      have hcl : (ys.take n).length = Nat.min m n := by rw [List.length_take, hym, Nat.min_comm]
      have hmn : Nat.min m n ≤ n := Nat.min_le_right m n
      have hcl2 : (ys.take n).length ≤ n := by rw [hcl]; exact hmn
      have hsrc : ∀ j v, (ys.take n)[j]? = some v → w.cell? (ad.add j) = some v := fun j v hv => hcell j v (by
          rw [List.getElem?_take] at hv
          split at hv
          · exact hv
          · cases hv)
      have hrun : ∀ ty, (Builtin.copy_ #[t, t] ty #[.slice (some ⟨g, 0, none⟩) n cd, .slice (some ad) m c]).run P w =
          .ok (goInt (ys.take n).length) (w.setRow g (cur.toList.take 0 ++ ys.take n ++ cur.toList.drop (0 + (ys.take n).length)).toArray) := fun ty =>
        run_copy_row P w t t ty e g 0 n cd ad m c cur e (ys.take n) E.ht hsz hgg hcl hsrc (by rw [hcl]; omega) (fun v hv => h1 v (List.mem_of_mem_take hv))
      refine wpList_plain hgd fun K hK => ?_
      unfold Oper.wp execOp
      simp only [ho, resolve, invoke, builtin, Sem.run_bind, Sem.run_pure, Result.andThen_ok, List.map_toArray, List.map_cons, List.map_nil, hd, hs, hrun, hcl]
      have hlen : (ys.take n ++ xs.drop m).length = xs.length := by
        rw [List.length_append, hcl, List.length_drop, ← hln]
        simp only [Nat.min_def]
        split <;> omega
      refine hK _ _ (h _ ?_ ⟨rfl, rfl, rfl, by simp [World.setRow], fun k _ hk => setRow_other w g k _ (fun e => hk (by simp [Value.ownBlock, e]))⟩ (below_setRow hb (Nat.le_trans hbB hbg) _) (by simp [World.setRow]))
      refine ⟨by simp, .inr ⟨g, cd, _, by rw [hlen, hln], hbg, setRow_heap w g cur _ e _ hgg, by rw [hlen]; exact hnc, hcm, ?_, ?_⟩⟩
      · simp only [List.take_zero, List.nil_append, Nat.zero_add, List.size_toArray, List.length_append, hcl, List.length_drop, Array.length_toList]
        omega
      · rw [hlen, Nat.mul_one]
        simp only [List.take_zero, List.nil_append, Nat.zero_add]
        rw [Nat.mul_one] at htake
        rw [List.take_append, hcl, List.take_of_length_le (by omega)]
        congr 1
        rw [List.take_drop, show Nat.min m n + (xs.length - Nat.min m n) = xs.length by omega, htake]
        by_cases hmn' : m ≤ n
        · rw [show Nat.min m n = m from Nat.min_eq_left hmn']
        · rw [show Nat.min m n = n from Nat.min_eq_right (by omega), List.drop_eq_nil_of_le (by omega), List.drop_eq_nil_of_le (by omega)]

/-- append(s, x) of numbers: the list of numbers grows by one. -/
theorem wpList_pushN {w : World} {t e : TypeId} {z : Value} {bytes : Nat} (E : ElT P t e z 1 bytes) (hgd : o.guard = none) (s x : Operand)
    (ho : o.op = .call { callee := .builtin .append, args := #[s, x], argTypes := #[t, t] })
    {W : World} {B base n c : Nat} {A : Option Addr} {u : Value} {k : IntKind} {l : List Nat} (hown : Own w base e (.slice A n c) (nums k l)) (hs : a.eval s = .slice A n c) (hx : a.eval x = .slice (some ⟨w.heap.size, 0, none⟩) 1 1)
    (y : Nat) (hu : u = .int k (y : Int)) (hb : Below B W w) (hbB : B ≤ base) (hbase : base ≤ w.heap.size)
    (hn : (n + 1) * bytes ≤ 140737488355328) (hm : n + 1 ≤ maxLen)
    (h : ∀ A' c' w', n + 1 ≤ c' → c' ≤ maxLen → Own w' base e (.slice A' (n + 1) c') (nums k (l ++ [y])) → w.grownBy w' (Value.ownBlock (.slice A n c)) → Below B W w' → w.heap.size < w'.heap.size →
      (Value.ownBlock (.slice A' (n + 1) c') = Value.ownBlock (.slice A n c) ∨ ∃ g, Value.ownBlock (.slice A' (n + 1) c') = some g ∧ w.heap.size ≤ g) → wpList P ops Q rest (a.put o.dst (.slice A' (n + 1) c')) w') :
    wpList P ops Q (o :: rest) a (w.alloc (.cells #[u] e)) := by
  obtain rfl : n = l.length := by have := hown.len; rwa [nums_length] at this
  subst hu
  refine wpList_push E hgd s x ho hown hs hx hb hbB hbase rfl (by rw [nums_length]; exact hn) (by rw [nums_length]; exact hm) ?_
  rw [nums_length, nums_append, nums_one] at *
  exact h

/-- append(s, xs...) of numbers. -/
theorem wpList_pushesN {w : World} {t e : TypeId} {z : Value} {bytes : Nat} (E : ElT P t e z 1 bytes) (hgd : o.guard = none) (s x : Operand)
    (ho : o.op = .call { callee := .builtin .append, args := #[s, x], argTypes := #[t, t] })
    {W : World} {B base n c m c2 : Nat} {A A2 : Option Addr} {k : IntKind} {l l2 : List Nat} (hown : Own w base e (.slice A n c) (nums k l)) (hr : Reads w w.heap.size 1 A2 m (nums k l2)) (hs : a.eval s = .slice A n c) (hx : a.eval x = .slice A2 m c2)
    (hb : Below B W w) (hbB : B ≤ base) (hbase : base ≤ w.heap.size) (hn : (n + m) * bytes ≤ 140737488355328) (hm : n + m ≤ maxLen)
    (h : ∀ A' c' w', n + m ≤ c' → c' ≤ maxLen → Own w' base e (.slice A' (n + m) c') (nums k (l ++ l2)) → w.grownBy w' (Value.ownBlock (.slice A n c)) → Below B W w' →
      (Value.ownBlock (.slice A' (n + m) c') = Value.ownBlock (.slice A n c) ∨ ∃ g, Value.ownBlock (.slice A' (n + m) c') = some g ∧ w.heap.size ≤ g) → wpList P ops Q rest (a.put o.dst (.slice A' (n + m) c')) w') :
    wpList P ops Q (o :: rest) a w := by
  obtain rfl : n = l.length := by have := hown.len; rwa [nums_length] at this
  refine wpList_pushes E hgd s x ho hown hr hs hx hb hbB hbase (nums_oneCell _ _) (by rw [nums_length]; exact hn) (by rw [nums_length]; exact hm) ?_
  rw [nums_length, nums_append] at *
  exact h

end

end Go.Hm
/- A region that draws its order, walked once: what only reads is carried out as soon as it may be, its value holding in every later world; what makes or turns memory comes up in one order alone. No program is named here. -/

namespace Go.Hm
open Go.RowKit

section
variable {P : Program} {ops : Array Oper} {Q : Exit → Act → World → Prop}

theorem wpAnyH_weaken {S S' : World → Prop} (h : ∀ w, S w → S' w) : ∀ (fuel : Nat) (listed : Array Bool) (a : Act) (w : World), wpAnyH P .any ops Q S fuel listed a w → wpAnyH P .any ops Q S' fuel listed a w
  | 0, _, _, _, hh => hh
  | fuel + 1, _, _, _, hh => ⟨hh.1, fun i hi => wpOp_mono (fun a' w' h' => ⟨h w' h'.1, wpAnyH_weaken h fuel _ a' w' h'.2⟩) (hh.2 i hi)⟩

/-- The order is one that may be gone through so: 'true': only reads; 'false': alone ready. -/
def upOk (ops : Array Oper) : Array Bool → List (Bool × Nat) → Bool
  | listed, [] => (Region.ready .any ops listed).isEmpty
  | listed, (true, i) :: r => (Region.ready .any ops listed).contains i && (Region.free .any ops listed i && upOk ops (listed.setIfInBounds i true) r)
  | listed, (false, i) :: r => decide (Region.ready .any ops listed = [i]) && upOk ops (listed.setIfInBounds i true) r

def wpUp (P : Program) (ops : Array Oper) (R : World → World → Prop) (Q : Exit → Act → World → Prop) : List (Bool × Nat) → Act → World → Prop
  | [], a, w => Q .normal a w
  | (true, i) :: r, a, w => ∃ o v, ops[i]? = some o ∧ ((Region.wanted o (yielded ops a.tmps) = true ∧ ∀ w', R w w' → (execOp a.eval o).run P w' = .ok (.value v) w') ∨ (Region.wanted o (yielded ops a.tmps) = false ∧ v = undef)) ∧ wpUp P ops R Q r (a.put o.dst v) w
  | (false, i) :: r, a, w => ∃ o, ops[i]? = some o ∧ if Region.wanted o (yielded ops a.tmps) then o.wp P a w (fun a' w' => R w w' ∧ wpUp P ops R Q r a' w') (NoPanic Q) else wpUp P ops R Q r (a.put o.dst undef) w

variable {R : World → World → Prop}
theorem wpAnyH_of_up (hrefl : ∀ w, R w w) (htrans : ∀ {x y z}, R x y → R y z → R x z) (hs : Region.noSelect ops = true) :
    ∀ (ord : List (Bool × Nat)) (fuel : Nat) (listed : Array Bool) (a : Act) (w : World), ord.length ≤ fuel → upOk ops listed ord = true → wpUp P ops R Q ord a w → wpAnyH P .any ops (NoPanic Q) (R w) fuel listed a w := by
  intro ord
  induction ord with
  | nil =>
    intro fuel listed a w _ hok h
    exact wpAnyH_done (by simpa [upOk] using hok) (NoPanic.normal h) fuel
  | cons x r ih =>
    obtain ⟨b, i⟩ := x
    intro fuel listed a w hl hok h
    obtain ⟨fuel, rfl⟩ : ∃ k, fuel = k + 1 := ⟨fuel - 1, by simp at hl; omega⟩
    have hl' : r.length ≤ fuel := by simp at hl; omega
    cases b with
    | true =>
      obtain ⟨o, v, ho, hv, hr⟩ := h
      simp only [upOk, Bool.and_eq_true] at hok
      obtain ⟨h1, h2, h3⟩ := hok
      exact wpAnyH_take ho hs h2 h1 (fun _ _ _ hp => hp) hv (hrefl w) (ih fuel _ _ w hl' h3 hr)
    | false =>
      obtain ⟨o, ho, hc⟩ := h
      simp only [upOk, Bool.and_eq_true, decide_eq_true_eq] at hok
      obtain ⟨h1, h3⟩ := hok
      refine wpAnyH_all h1 (by simp) ?_
      intro j hj
      obtain rfl : j = i := by simpa using hj
      unfold wpOp
      simp only [ho]
      split
      · rename_i hw
        rw [if_pos hw] at hc
        exact .inl (Oper.wp_mono (fun a' w' hh => ⟨hh.1, wpAnyH_weaken (fun z hz => htrans hh.1 hz) fuel _ a' w' (ih fuel _ a' w' hl' h3 hh.2)⟩) hc)
      · rename_i hw
        rw [if_neg hw] at hc
        exact ⟨hrefl w, ih fuel _ _ w hl' h3 hc⟩

theorem wp_region_up {id : Nat} {a : Act} {w : World} (R : World → World → Prop) (ord : List (Bool × Nat)) (hrefl : ∀ w, R w w) (htrans : ∀ {x y z}, R x y → R y z → R x z) (hm : P.follows .mixedOrders = true)
    (hs : Region.noSelect ops = true) (hl : decide (ord.length ≤ ops.size) = true) (hok : upOk ops (Array.replicate ops.size false) ord = true) (h : wpUp P ops R Q ord a w.drew) : (Code.region id ops true).wp P Q a w :=
  wp_region_noPanic (wp_region_held hm (wpAnyH_of_up hrefl htrans hs ord ops.size _ a _ (by simpa using hl) hok h))

/-- Only new memory. -/
abbrev New (w w' : World) : Prop := Below w.heap.size w w'
theorem New.refl (w : World) : New w w := Below.refl _ _
theorem New.trans {x y z : World} (h : New x y) (k : New y z) : New x z := Below.trans h (Below.mono k h.size)
theorem New.drew (w : World) : New w w.drew := (Below.refl _ _).drew

/-- Only block g, and new memory. -/
abbrev Far (g : Nat) (w w' : World) : Prop := w.grownBy w' (some g)
theorem Far.refl (g : Nat) (w : World) : Far g w w := World.grownBy.refl w _
theorem Far.trans {g : Nat} {x y z : World} (h : Far g x y) (k : Far g y z) : Far g x z := World.grownBy.trans h k
theorem Far.drew (g : Nat) (w : World) : Far g w w.drew := ⟨rfl, rfl, rfl, Nat.le_refl _, fun _ _ _ => rfl⟩
theorem Far.of_new {g : Nat} {w w' : World} (h : New w w') : Far g w w' := ⟨h.os, h.tape, h.output, h.size, fun k hk _ => h.block k hk⟩
theorem Far.below {g B : Nat} {a w w' : World} (h : Below B a w) (hg : Far g w w') (hB : B ≤ g) (hBw : B ≤ a.heap.size) : Below B a w' := below_gr h hg hB hBw

variable {i : Nat} {r : List (Bool × Nat)} {a : Act} {w : World} {o : Oper} {v : Value}
theorem up_nil (h : Q .normal a w) : wpUp P ops R Q [] a w := h

section
variable {dst : Option Tmp} {op : Op} {ty : TypeId} {pos : String} {af : Array Edge} {gd : Option (Nat × Bool)}
theorem up_quiet (ho : ops[i]? = some ⟨dst, op, ty, pos, af, gd⟩) (hw : Region.wanted ⟨dst, op, ty, pos, af, gd⟩ (yielded ops a.tmps) = true) (hv : ∀ w', R w w' → (execOp a.eval ⟨dst, op, ty, pos, af, gd⟩).run P w' = .ok (.value v) w') (h : wpUp P ops R Q r (a.put dst v) w) : wpUp P ops R Q ((true, i) :: r) a w :=
  ⟨_, v, ho, .inl ⟨hw, hv⟩, h⟩
theorem up_skip {b : Bool} (ho : ops[i]? = some ⟨dst, op, ty, pos, af, gd⟩) (hw : Region.wanted ⟨dst, op, ty, pos, af, gd⟩ (yielded ops a.tmps) = false) (h : wpUp P ops R Q r (a.put dst undef) w) : wpUp P ops R Q ((b, i) :: r) a w := by
  cases b
  · exact ⟨_, ho, by rw [if_neg (by simp [hw])]; exact h⟩
  · exact ⟨_, undef, ho, .inr ⟨hw, rfl⟩, h⟩
theorem up_call (ho : ops[i]? = some ⟨dst, op, ty, pos, af, gd⟩) (hw : Region.wanted ⟨dst, op, ty, pos, af, gd⟩ (yielded ops a.tmps) = true) (h : ∀ K : Act → World → Prop, (∀ a' w', R w w' → wpUp P ops R Q r a' w' → K a' w') → Oper.wp P ⟨dst, op, ty, pos, af, gd⟩ a w K (NoPanic Q)) : wpUp P ops R Q ((false, i) :: r) a w :=
  ⟨_, ho, by rw [if_pos hw]; exact h _ fun _ _ h1 h2 => ⟨h1, h2⟩⟩
/-- string(x). -/
theorem up_str {src dst' e : TypeId} {x : Operand} {A : Option Addr} {n c : Nat} {l : List Nat} (hs : P.underlying src = some (.slice e)) (he : P.underlying e = some (.int .u8)) (hd : P.underlying dst' = some .string)
    (ho : ops[i]? = some ⟨dst, .convert src dst' x, ty, pos, af, gd⟩) (hw : Region.wanted ⟨dst, .convert src dst' x, ty, pos, af, gd⟩ (yielded ops a.tmps) = true) (hx : a.eval x = .slice A n c) {w0 : World} (hr : Reads w0 w0.heap.size 1 A n (nums .u8 l)) (hU : New w0 w)
    (h : wpUp P ops New Q r (a.put dst (.string (bstr l))) w) : wpUp P ops New Q ((true, i) :: r) a w :=
  up_quiet ho hw (fun w' hb => by
    have := run_str (c := c) hs he hd (hr.below (New.trans hU hb))
    simp [execOp, hx, this, Result.andThen]) h
end
end

theorem run_sadd (P : Program) (l m : List Nat) (h : l.length + m.length ≤ 9223372036854775807) (w : World) : (Op.stringOp .add (bstr l) (bstr m)).run P w = .ok (.string (bstr (l ++ m))) w := by
  rw [run_string_add_sum (P := P) w (bstr l) (bstr m) (by rw [bstr_size, bstr_size]; exact h), bstr_append]

end Go.Hm
/- Plain functions on lists of numbers that the contracts speak of, and what holds of them. No program is named here. -/

namespace Go.Hm

/-- The bytes of a number, seven bits each, the lowest first. -/
def vp (n : Nat) : List Nat := if _h : n < 128 then [n] else (n % 128 + 128) :: vp (n / 128)
theorem vp_lt {n : Nat} (h : n < 128) : vp n = [n] := by rw [vp, dif_pos h]
theorem vp_ge {n : Nat} (h : ¬ n < 128) : vp n = (n % 128 + 128) :: vp (n / 128) := by rw [vp, dif_neg h]
theorem vp_len (k : Nat) : ∀ n, n < 128 ^ (k + 1) → (vp n).length ≤ k + 1 := by
  induction k with
  | zero => intro n h; rw [vp_lt (by omega)]; simp
  | succ k ih =>
    intro n h
    by_cases hn : n < 128
    · rw [vp_lt hn]; simp
    · rw [vp_ge hn]
      have := ih (n / 128) (Nat.div_lt_of_lt_mul (by rw [Nat.pow_succ] at h; omega))
      simp; omega
theorem vp_len10 {n : Nat} (h : n < 18446744073709551616) : (vp n).length ≤ 10 := vp_len 9 n (by omega)
theorem vp_pos (n : Nat) : 0 < (vp n).length := by
  by_cases hn : n < 128
  · rw [vp_lt hn]; simp
  · rw [vp_ge hn]; simp

/-- So many bytes of a number, the lowest first. -/
def low (n : Nat) : Nat → List Nat
  | 0 => []
  | k + 1 => low n k ++ [n / 256 ^ k % 256]
theorem low_len (n k : Nat) : (low n k).length = k := by induction k <;> simp_all [low]

/-- The number of bytes, the lowest first. -/
def num : List Nat → Nat
  | [] => 0
  | b :: l => b + 256 * num l
theorem num_snoc (l : List Nat) (b : Nat) : num (l ++ [b]) = num l + b * 256 ^ l.length := by
  induction l with
  | nil => simp [num]
  | cons a l ih => simp only [List.cons_append, num, ih, List.length_cons, Nat.pow_succ]; rw [Nat.mul_add, Nat.add_assoc]; congr 2; rw [Nat.mul_left_comm, Nat.mul_comm 256]
theorem num_lt (l : List Nat) (h : ∀ x ∈ l, x < 256) : num l < 256 ^ l.length := by
  induction l with
  | nil => simp [num]
  | cons a l ih =>
    have h1 := ih fun x hx => h x (by simp [hx])
    have h2 := h a (by simp)
    simp only [num, List.length_cons, Nat.pow_succ]
    omega
theorem take_snoc {α : Type} (l : List α) (k : Nat) (d : α) (h : k < l.length) : l.take (k + 1) = l.take k ++ [l.getD k d] := by
  rw [List.take_add_one, List.getElem?_eq_getElem h]
  simp [h]
theorem num_low (n k : Nat) : num (low n k) = n % 256 ^ k := by
  induction k with
  | zero => simp [low, num, Nat.mod_one]
  | succ k ih =>
    rw [low, num_snoc, ih, low_len, Nat.pow_succ, Nat.mod_mul, Nat.mul_comm (256 ^ k)]
theorem low_lt (n k : Nat) : ∀ x ∈ low n k, x < 256 := by
  induction k with
  | zero => intro x hx; simp [low] at hx
  | succ k ih =>
    intro x hx
    simp only [low, List.mem_append, List.mem_singleton] at hx
    rcases hx with hx | hx
    · exact ih x hx
    · subst hx; exact Nat.mod_lt _ (by omega)

/-- Numbers of eight bytes, one behind the other. -/
def cat8 (l : List Nat) : List Nat := l.flatMap fun x => low x 8
theorem cat8_nil : cat8 [] = [] := rfl
theorem cat8_cons (x : Nat) (l : List Nat) : cat8 (x :: l) = low x 8 ++ cat8 l := rfl
theorem cat8_append (l m : List Nat) : cat8 (l ++ m) = cat8 l ++ cat8 m := by simp [cat8]
theorem cat8_len (l : List Nat) : (cat8 l).length = 8 * l.length := by
  induction l with
  | nil => rfl
  | cons x l ih => rw [cat8_cons, List.length_append, low_len, ih, List.length_cons]; omega
theorem cat8_lt (l : List Nat) : ∀ x ∈ cat8 l, x < 256 := by
  intro x hx
  simp only [cat8, List.mem_flatMap] at hx
  obtain ⟨y, _, hy⟩ := hx
  exact low_lt y 8 x hy
theorem drop_cons_getD {α : Type} (l : List α) (k : Nat) (d : α) (h : k < l.length) : l.drop k = l.getD k d :: l.drop (k + 1) := by
  rw [List.drop_eq_getElem_cons h]; simp [h]
theorem num_low_of_lt {n k : Nat} (h : n < 256 ^ k) : num (low n k) = n := by rw [num_low, Nat.mod_eq_of_lt h]

end Go.Hm
/- More lemmas on memory and numbers for walks. No program is named here. -/

namespace Go.Hm
open Go.RowKit

/-- One element of a row of the call's own that begins a known block. -/
theorem Own.at0 {w : World} {base : Nat} {e : TypeId} {g n c i : Nat} {xs : List Value} (h : Own w base e (.slice (some ⟨g, 0, none⟩) n c) xs) (hi : i < n) :
    ∃ u, xs[i]? = some u ∧ base ≤ g ∧ g < w.heap.size ∧ w.cell? ⟨g, i, none⟩ = some u ∧ w.frozen? ⟨g, i, none⟩ = false ∧
      ∀ u' : Value, Own (w.setCell ⟨g, i, none⟩ u') base e (.slice (some ⟨g, 0, none⟩) n c) (xs.set i u') := by
  obtain ⟨g', u, he, h1, h2, h3, h4, h5, h6⟩ := h.at_ hi
  injection he with he
  injection he with he
  subst he
  exact ⟨u, h3, h1, h2, h4, h5, h6⟩
theorem Own.num0 {w : World} {base : Nat} {e : TypeId} {g n c i : Nat} {k : IntKind} {l : List Nat} (h : Own w base e (.slice (some ⟨g, 0, none⟩) n c) (nums k l)) (hi : i < n) :
    base ≤ g ∧ g < w.heap.size ∧ w.cell? ⟨g, i, none⟩ = some (.int k ((l.getD i 0 : Nat) : Int)) ∧ w.frozen? ⟨g, i, none⟩ = false ∧
      ∀ y : Nat, Own (w.setCell ⟨g, i, none⟩ (.int k (y : Int))) base e (.slice (some ⟨g, 0, none⟩) n c) (nums k (l.set i y)) := by
  have hn := h.len
  rw [nums_length] at hn
  obtain ⟨u, h3, h1, h2, h4, h5, h6⟩ := h.at0 hi
  rw [nums_at k l i (by omega)] at h3
  injection h3 with h3
  subst h3
  exact ⟨h1, h2, h4, h5, fun y => by rw [← nums_set]; exact h6 _⟩
theorem divN (a b : Nat) (ha : a ≤ 9223372036854775807) : IntKind.i64.wrap ((a : Int) / (b : Int)) = ((a / b : Nat) : Int) := by
  rw [← Int.natCast_ediv]
  have : a / b ≤ a := Nat.div_le_self _ _
  generalize a / b = q at *
  exact IntWalk.i64_in _ (by omega)
/-- Eighths: the byte and the bit of a place. -/
theorem eighths (a : Nat) (ha : a ≤ 9223372036854775807) : ∃ q r : Nat, Hid (q = a / 8 ∧ r = a % 8) ∧ 8 * q ≤ a ∧ r < 8 ∧ a < 8 * q + 8 ∧ IntKind.i64.wrap ((a : Int) / 8) = (q : Int) ∧ (a : Int).tmod 8 = (r : Int) :=
  ⟨a / 8, a % 8, Lib.hid ⟨rfl, rfl⟩, by omega, by omega, by omega, divN a 8 ha, by rw [Int.tmod_eq_emod_of_nonneg (by omega)]; omega⟩
/-- One bit of a number. -/
theorem bit64 (y j : Nat) (hy : y ≤ 18446744073709551615) : ∃ t : Nat, Hid (t = y / 2 ^ j % 2) ∧ t ≤ 1 ∧ bits .and .u64 ((y : Int) / 2 ^ j) 1 = (t : Int) ∧ IntKind.u8.wrap (t : Int) = (t : Int) := by
  refine ⟨y / 2 ^ j % 2, Lib.hid rfl, by omega, ?_, by rw [IntKind.wrap_u8]; omega⟩
  have h1 : y / 2 ^ j ≤ y := Nat.div_le_self _ _
  have := u64_and_nat (y / 2 ^ j) 1 (by omega) (by omega)
  rw [Nat.and_one_is_mod] at this
  rw [← this]
  congr 1
theorem getD_mem {L : List Nat} {k : Nat} {P : Nat → Prop} (h : ∀ x ∈ L, P x) (hk : k < L.length) : P (L.getD k 0) := by
  rw [List.getD_eq_getElem?_getD, List.getElem?_eq_getElem hk]
  exact h _ (List.getElem_mem hk)
/-- The byte x, y's bit behind it, at 2^r. -/
theorem or_bit8 (b r q : Nat) (hb : b < 2 ^ r) (hc : q ≤ 1) (hr : r < 8) : bits .or .u8 (b : Int) ((q : Int) * 2 ^ r % 256) = ((b + q * 2 ^ r : Nat) : Int) := by
  have h7 : 2 ^ r ≤ 2 ^ 7 := Nat.pow_le_pow_right (by omega) (by omega)
  have hq : q * 2 ^ r ≤ 1 * 2 ^ r := Nat.mul_le_mul_right _ hc
  have e : ((q : Int) * 2 ^ r % 256) = ((q * 2 ^ r : Nat) : Int) := by
    have e2 : ((q * 2 ^ r : Nat) : Int) = (q : Int) * 2 ^ r := by simp
    rw [← e2]; omega
  rw [e, u8_or_nat _ _ (by omega) (by omega), Nat.or_comm, ← Nat.mul_comm (2 ^ r), ← Nat.two_pow_add_eq_or_of_lt hb, Nat.add_comm]

end Go.Hm
/- A world in which only some known blocks were turned, and new ones made. No program is named here. -/

namespace Go.Hm
open Go.RowKit
/-- Only the blocks of T, and new memory. -/
structure Turns (T : List Nat) (w w' : World) : Prop where
  os : w'.os = w.os
  tape : w'.tape = w.tape
  output : w'.output = w.output
  size : w.heap.size ≤ w'.heap.size
  block : ∀ k, k < w.heap.size → k ∉ T → w'.heap[k]? = w.heap[k]?

section
variable {T T' : List Nat} {w w' w2 : World}
theorem Turns.refl (T : List Nat) (w : World) : Turns T w w := ⟨rfl, rfl, rfl, Nat.le_refl _, fun _ _ _ => rfl⟩
theorem Turns.trans (h : Turns T w w') (k : Turns T w' w2) : Turns T w w2 :=
  ⟨k.os.trans h.os, k.tape.trans h.tape, k.output.trans h.output, Nat.le_trans h.size k.size, fun i hi hT => (k.block i (Nat.lt_of_lt_of_le hi h.size) hT).trans (h.block i hi hT)⟩
theorem Turns.more (h : Turns T w w') (hs : ∀ x ∈ T, x ∈ T') : Turns T' w w' := ⟨h.os, h.tape, h.output, h.size, fun i hi hT => h.block i hi fun hx => hT (hs i hx)⟩
theorem Turns.of_new (h : Below w.heap.size w w') : Turns T w w' := ⟨h.os, h.tape, h.output, h.size, fun k hk _ => h.block k hk⟩
theorem Turns.of_far {g : Nat} (h : w.grownBy w' (some g)) (hg : g ∈ T) : Turns T w w' :=
  ⟨h.os, h.tape, h.output, h.size, fun k hk hT => h.block k hk (fun e => by injection e with e; subst e; exact hT hg)⟩
theorem Turns.of_none (h : w.grownBy w' none) : Turns T w w' := ⟨h.os, h.tape, h.output, h.size, fun k hk _ => h.block k hk (by simp)⟩
theorem Turns.drew (T : List Nat) (w : World) : Turns T w w.drew := ⟨rfl, rfl, rfl, Nat.le_refl _, fun _ _ _ => rfl⟩
theorem Turns.drewN (T : List Nat) (w : World) (n : Nat) : Turns T w (w.drewN n) := ⟨rfl, rfl, rfl, Nat.le_refl _, fun _ _ _ => rfl⟩
theorem Turns.setCell {g i : Nat} (u : Value) (hg : g ∈ T) (w : World) : Turns T w (w.setCell ⟨g, i, none⟩ u) :=
  ⟨rfl, rfl, rfl, by simp [World.setCell], fun k _ hT => Below.heap_setCell _ _ _ _ (by rintro rfl; exact hT hg)⟩
theorem Turns.new_ {x : Nat} (h : Turns (x :: T) w w') (hx : w.heap.size ≤ x) : Turns T w w' :=
  ⟨h.os, h.tape, h.output, h.size, fun i hi hT => h.block i hi fun hm => by
    rcases List.mem_cons.1 hm with rfl | hm
    · omega
    · exact hT hm⟩
theorem Turns.below {B : Nat} {a : World} (h : Below B a w) (k : Turns T w w') (hT : ∀ x ∈ T, B ≤ x) (hB : B ≤ a.heap.size) : Below B a w' :=
  ⟨k.os.trans h.os, k.tape.trans h.tape, k.output.trans h.output, Nat.le_trans h.size k.size, fun i hi => (k.block i (by have := h.size; omega) (fun hm => by have := hT i hm; omega)).trans (h.block i hi)⟩
theorem Turns.new (k : Turns T w w') (hT : ∀ x ∈ T, w.heap.size ≤ x) : Below w.heap.size w w' := k.below (Below.refl _ _) hT (Nat.le_refl _)
theorem Blk.touch {g : Nat} {t : TypeId} {cs : Array Value} (h : Blk w g t cs) (k : Turns T w w') (hg : g ∉ T) : Blk w' g t cs := (k.block g h.lt hg).trans h
theorem Own.touch {base : Nat} {e : TypeId} {v : Value} {xs : List Value} (h : Own w base e v xs) (k : Turns T w w') (hT : ∀ x ∈ T, v.ownBlock ≠ some x) : Own w' base e v xs := by
  refine ⟨h.1, ?_⟩
  rcases h.2 with hn | ⟨g, cap, cur, rfl, hbg, hgg, rest⟩
  · exact .inl hn
  · refine .inr ⟨g, cap, cur, rfl, hbg, ?_, rest⟩
    rw [k.block g (Array.getElem?_eq_some_iff.1 hgg).1 (fun hm => hT g hm rfl)]
    exact hgg
theorem Reads.touch {B size n : Nat} {A : Option Addr} {xs : List Value} (h : Reads w B size A n xs) (k : Turns T w w') (hT : ∀ x ∈ T, B ≤ x) (hB : B ≤ w.heap.size) : Reads w' B size A n xs :=
  h.keep fun p hp => World.cell?_of_block (k.block p.block (by omega) (fun hm => by have := hT _ hm; omega))
theorem Turns.far {g : Nat} (h : Turns [g] w w') : w.grownBy w' (some g) := ⟨h.os, h.tape, h.output, h.size, fun k hk hne => h.block k hk (by intro hm; simp at hm; subst hm; exact hne rfl)⟩
theorem new_size {a : World} (h : Below a.heap.size a w) (k : Below w.heap.size w w') : a.heap.size ≤ w'.heap.size := Nat.le_trans h.size k.size
end
theorem Own.row {w : World} {base : Nat} {e : TypeId} {v : Value} {xs : List Value} (h : Own w base e v xs) : ∀ g, v.ownBlock = some g → ∃ cs, Blk w g e cs := by
  intro g hg
  rcases h.2 with ⟨rfl, _⟩ | ⟨g', cap, cur, rfl, _, hh, _⟩
  · simp [Value.ownBlock] at hg
  · have : g' = g := by simpa [Value.ownBlock] using hg
    subst this
    exact ⟨cur, hh⟩
theorem Blk.push {w w' : World} {g : Nat} {t e : TypeId} {cs : Array Value} {base : Nat} {v : Value} {xs : List Value} (h : Blk w g t cs) (o : Own w base e v xs) (hg : w.grownBy w' v.ownBlock) (hne : e ≠ t) : Blk w' g t cs :=
  h.grown hg (fun e' => o.blk_ne h hne e'.symm)
/-- A literal's cells are read. -/
theorem Reads.litV (w : World) (e : TypeId) (cs : Array Value) (n : Nat) (xs : List Value) (h : cs.toList = xs) (hn : n = xs.length) : Reads (w.alloc (.cells cs e)) (w.alloc (.cells cs e)).heap.size 1 (some ⟨w.heap.size, 0, none⟩) n xs := by
  subst hn
  refine ⟨by simp, fun _ => ⟨_, rfl, by simp, ?_⟩⟩
  have := World.news_of_block (heap_alloc_new w (.cells cs e))
  rwa [h] at this
theorem Reads.over {w : World} {A : Option Addr} {n s : Nat} {xs : List Value} (h : Reads w w.heap.size s A n xs) (o : Obj) : Reads (w.alloc o) (w.alloc o).heap.size s A n xs := (h.alloc (Nat.le_refl _) o).more (by simp)
theorem New.alloc {w w' : World} (o : Obj) (h : Below (w.alloc o).heap.size (w.alloc o) w') : New w w' := ((Below.refl _ w).alloc (Nat.le_refl _) o).trans (h.mono (by simp))
theorem drewN_add (w : World) (m n : Nat) : (w.drewN m).drewN n = w.drewN (m + n) := by simp [World.drewN, Nat.add_assoc]
theorem new_drewN (w : World) (k : Nat) : New w (w.drewN k) := ⟨rfl, rfl, rfl, Nat.le_refl _, fun _ _ => rfl⟩
/-- A slice that was read before is read later. -/
theorem Reads.later {w0 w : World} {A : Option Addr} {n s : Nat} {xs : List Value} (h : Reads w0 w0.heap.size s A n xs) (hb : Below w0.heap.size w0 w) : Reads w w.heap.size s A n xs := (h.below hb).more hb.size
theorem Own.later {w0 w : World} {base : Nat} {e : TypeId} {v : Value} {xs : List Value} (h : Own w0 base e v xs) (hb : Below w0.heap.size w0 w) : Own w base e v xs := h.below hb (Nat.le_refl _)

end Go.Hm
/- What the walk's operations on bits come to, as numbers. No program is named here. -/

namespace Go.Hm
open Go

theorem or_shl (x y k : Nat) (hy : y < 2 ^ k) : (x * 2 ^ k) ||| y = x * 2 ^ k + y := by
  rw [Nat.mul_comm, ← Nat.two_pow_add_eq_or_of_lt hy]
theorem or_add (x y k : Nat) (hy : y < 2 ^ k) (hx : x % 2 ^ k = 0) : x ||| y = x + y := nat_join k x y hx hy
theorem or128 (x : Nat) : bits .or .u8 ((x : Int) % 256) 128 = ((x % 128 + 128 : Nat) : Int) := by
  have h := u8_or_nat (x % 256) 128 (by omega) (by omega)
  rw [show ((x : Int) % 256) = ((x % 256 : Nat) : Int) from by omega, show (128 : Int) = ((128 : Nat) : Int) from rfl, h]
  congr 1
  by_cases hx : x % 256 < 128
  · rw [Nat.or_comm, or_add 128 (x % 256) 7 hx rfl]; omega
  · have e : x % 256 = 128 + x % 128 := by omega
    rw [e, Nat.or_comm, ← or_add 128 (x % 128) 7 (by omega) rfl, ← Nat.or_assoc, Nat.or_self, or_add 128 (x % 128) 7 (by omega) rfl]; omega

theorem num_take_lt (T : List Nat) (k : Nat) (hk : k ≤ T.length) (h8 : ∀ x ∈ T, x < 256) : num (T.take k) < 2 ^ (8 * k) := by
  have h := num_lt (T.take k) (fun x hx => h8 x (List.mem_of_mem_take hx))
  rw [List.length_take, Nat.min_eq_left hk, show (256 : Nat) = 2 ^ 8 from rfl, ← Nat.pow_mul] at h
  exact h
theorem getD_lt (T : List Nat) (k : Nat) (h8 : ∀ x ∈ T, x < 256) : T.getD k 0 < 256 := by
  by_cases hk : k < T.length
  · rw [List.getD_eq_getElem?_getD, List.getElem?_eq_getElem hk]
    exact h8 _ (List.getElem_mem hk)
  · rw [List.getD_eq_getElem?_getD, List.getElem?_eq_none (by omega)]
    simp
theorem num_step (T : List Nat) (k : Nat) (hk : k < T.length) (h8 : ∀ x ∈ T, x < 256) : num (T.take k) ||| (T.getD k 0 * 2 ^ (8 * k)) = num (T.take (k + 1)) := by
  rw [take_snoc T k 0 hk, num_snoc, List.length_take, Nat.min_eq_left (by omega), Nat.or_comm, or_shl _ _ _ (num_take_lt T k (by omega) h8), show (256 : Nat) = 2 ^ 8 from rfl, ← Nat.pow_mul, Nat.add_comm]
theorem mul_two_pow_lt {x k m : Nat} (hx : x < 256) (hk : 8 * (k + 1) ≤ m) : x * 2 ^ (8 * k) < 2 ^ m := by
  have h1 : x * 2 ^ (8 * k) < 256 * 2 ^ (8 * k) := Nat.mul_lt_mul_of_pos_right hx (Nat.two_pow_pos _)
  have h2 : 256 * 2 ^ (8 * k) = 2 ^ (8 * (k + 1)) := by rw [Nat.mul_add, Nat.pow_add, Nat.mul_comm]
  have h3 : 2 ^ (8 * (k + 1)) ≤ 2 ^ m := Nat.pow_le_pow_right (by omega) hk
  omega
theorem num_step_u8 (T : List Nat) (k : Nat) (hk : k < T.length) (hT : T.length ≤ 1) (h8 : ∀ x ∈ T, x < 256) :
    bits .or .u8 ((num (T.take k) : Nat) : Int) (((T.getD k 0 : Nat) : Int) * 2 ^ (8 * k) % 256) = ((num (T.take (k + 1)) : Nat) : Int) := by
  have hx := getD_lt T k h8
  have hm := mul_two_pow_lt (m := 8) hx (show 8 * (k + 1) ≤ 8 by omega)
  have hn := num_take_lt T k (by omega) h8
  have hn2 : 2 ^ (8 * k) ≤ 2 ^ 8 := Nat.pow_le_pow_right (by omega) (by omega)
  have e1 : (((T.getD k 0 : Nat) : Int) * 2 ^ (8 * k) % 256) = ((T.getD k 0 * 2 ^ (8 * k) : Nat) : Int) := by
    have e2 : ((T.getD k 0 * 2 ^ (8 * k) : Nat) : Int) = ((T.getD k 0 : Nat) : Int) * 2 ^ (8 * k) := by simp
    have e3 : ((T.getD k 0 * 2 ^ (8 * k) : Nat) : Int) < 256 := by
      have : T.getD k 0 * 2 ^ (8 * k) < 256 := hm
      omega
    rw [e2] at e3 ⊢
    skip
    exact Int.emod_eq_of_lt (by rw [← e2]; omega) e3
  rw [e1, u8_or_nat _ _ (Nat.lt_of_lt_of_le hn hn2) hm, num_step T k hk h8]
theorem num_step_u32 (T : List Nat) (k : Nat) (hk : k < T.length) (hT : T.length ≤ 4) (h8 : ∀ x ∈ T, x < 256) :
    bits .or .u32 ((num (T.take k) : Nat) : Int) (((T.getD k 0 : Nat) : Int) % 4294967296 * 2 ^ (8 * k) % 4294967296) = ((num (T.take (k + 1)) : Nat) : Int) := by
  have hx := getD_lt T k h8
  have hm := mul_two_pow_lt (m := 32) hx (show 8 * (k + 1) ≤ 32 by omega)
  have hn := num_take_lt T k (by omega) h8
  have hn2 : 2 ^ (8 * k) ≤ 2 ^ 32 := Nat.pow_le_pow_right (by omega) (by omega)
  have e1 : (((T.getD k 0 : Nat) : Int) % 4294967296 * 2 ^ (8 * k) % 4294967296) = ((T.getD k 0 * 2 ^ (8 * k) : Nat) : Int) := by
    have e2 : ((T.getD k 0 * 2 ^ (8 * k) : Nat) : Int) = ((T.getD k 0 : Nat) : Int) * 2 ^ (8 * k) := by simp
    have e3 : ((T.getD k 0 * 2 ^ (8 * k) : Nat) : Int) < 4294967296 := by
      have : T.getD k 0 * 2 ^ (8 * k) < 4294967296 := hm
      omega
    rw [e2] at e3 ⊢
    rw [Int.emod_eq_of_lt (a := ((T.getD k 0 : Nat) : Int)) (by omega) (by omega)]
    exact Int.emod_eq_of_lt (by rw [← e2]; omega) e3
  rw [e1, u32_or_nat _ _ (Nat.lt_of_lt_of_le hn hn2) hm, num_step T k hk h8]
theorem num_step_u64 (T : List Nat) (k : Nat) (hk : k < T.length) (hT : T.length ≤ 8) (h8 : ∀ x ∈ T, x < 256) :
    bits .or .u64 ((num (T.take k) : Nat) : Int) (IntKind.u64.wrap (IntKind.u64.wrap ((T.getD k 0 : Nat) : Int) * 2 ^ (8 * k))) = ((num (T.take (k + 1)) : Nat) : Int) := by
  rw [IntKind.wrap_u64, IntKind.wrap_u64]
  have hx := getD_lt T k h8
  have hm := mul_two_pow_lt (m := 64) hx (show 8 * (k + 1) ≤ 64 by omega)
  have hn := num_take_lt T k (by omega) h8
  have hn2 : 2 ^ (8 * k) ≤ 2 ^ 64 := Nat.pow_le_pow_right (by omega) (by omega)
  have e1 : (((T.getD k 0 : Nat) : Int) % 18446744073709551616 * 2 ^ (8 * k) % 18446744073709551616) = ((T.getD k 0 * 2 ^ (8 * k) : Nat) : Int) := by
    have e2 : ((T.getD k 0 * 2 ^ (8 * k) : Nat) : Int) = ((T.getD k 0 : Nat) : Int) * 2 ^ (8 * k) := by simp
    have e3 : ((T.getD k 0 * 2 ^ (8 * k) : Nat) : Int) < 18446744073709551616 := by
      have : T.getD k 0 * 2 ^ (8 * k) < 18446744073709551616 := hm
      omega
    rw [e2] at e3 ⊢
    rw [Int.emod_eq_of_lt (a := ((T.getD k 0 : Nat) : Int)) (by omega) (by omega)]
    exact Int.emod_eq_of_lt (by rw [← e2]; omega) e3
  rw [e1, u64_or_nat _ _ (Nat.lt_of_lt_of_le hn hn2) hm, num_step T k hk h8]
theorem byte_at (x k : Nat) : ((x : Int) / 2 ^ (8 * k) % 256) = ((x / 256 ^ k % 256 : Nat) : Int) := by
  rw [show (256 : Nat) ^ k = 2 ^ (8 * k) by rw [show (256 : Nat) = 2 ^ 8 from rfl, ← Nat.pow_mul]]
  simp

end Go.Hm
/- SHA-256 by the model's own operations, as plain functions. No program is named here. -/

namespace Go.Hm
open Go Go.RowKit
/-- A word of 32 bits. -/
def U32 (x : Int) : Prop := 0 ≤ x ∧ x < 4294967296
/-- A word, turned to the right. -/
def rot (x : Int) (n : Nat) : Int := (x / 2 ^ n + x * 2 ^ (32 - n) % 4294967296) % 4294967296
theorem rot_U (x : Int) (n : Nat) : U32 (rot x n) := by unfold rot U32; omega
theorem two_pow32 {n : Nat} (hn : n ≤ 32) : 2 ^ n * 2 ^ (32 - n) = 4294967296 := by
  rw [← Nat.pow_add, show n + (32 - n) = 32 by omega]
theorem or_rot {x : Int} {n : Nat} (hx : U32 x) (h2 : n ≤ 31) : bits .or .u32 (x / 2 ^ n) (x * 2 ^ (32 - n) % 4294967296) = rot x n := by
  obtain ⟨h0, h3⟩ := hx
  obtain ⟨X, rfl⟩ := Int.eq_ofNat_of_zero_le h0
  have hX : X < 4294967296 := by omega
  have hp := two_pow32 (show n ≤ 32 by omega)
  have hm : X * 2 ^ (32 - n) % 4294967296 = (X % 2 ^ n) * 2 ^ (32 - n) := by rw [← hp, Nat.mul_mod_mul_right]
  have hd : X / 2 ^ n < 2 ^ (32 - n) := Nat.div_lt_of_lt_mul (by rw [hp]; exact hX)
  have hp1 := Nat.two_pow_pos n
  have hr : X % 2 ^ n < 2 ^ n := Nat.mod_lt _ hp1
  have hs : X / 2 ^ n + (X % 2 ^ n) * 2 ^ (32 - n) < 4294967296 := by
    have h4 : (X % 2 ^ n + 1) * 2 ^ (32 - n) ≤ 2 ^ n * 2 ^ (32 - n) := Nat.mul_le_mul_right _ hr
    rw [hp, Nat.succ_mul] at h4
    omega
  have e1 : ((X : Int) / 2 ^ n) = ((X / 2 ^ n : Nat) : Int) := by simp
  have e2 : ((X : Int) * 2 ^ (32 - n) % 4294967296) = ((X * 2 ^ (32 - n) % 4294967296 : Nat) : Int) := by simp
  unfold rot
  rw [e1, e2, hm, u32_or_nat _ _ (by generalize X % 2 ^ n * 2 ^ (32 - n) = b at *; omega) (by generalize X / 2 ^ n = a at *; omega), Nat.or_comm, or_shl _ _ _ hd]
  clear e1 e2 hm hd hr hp
  generalize X / 2 ^ n = a at *
  generalize X % 2 ^ n * 2 ^ (32 - n) = b at *
  omega
/-- Four bytes as a word. -/
def wordI (a b c d : Nat) : Int := (((a * 256 + b) * 256 + c) * 256 + d : Nat)
theorem wordI_U {a b c d : Nat} (ha : a < 256) (hb : b < 256) (hc : c < 256) (hd : d < 256) : U32 (wordI a b c d) := by unfold wordI U32; omega
theorem or_word {a b c d : Nat} (ha : a < 256) (hb : b < 256) (hc : c < 256) (hd : d < 256) :
    bits .or .u32 (bits .or .u32 (bits .or .u32 (IntKind.u32.wrap (IntKind.u32.wrap (a : Int) * 16777216)) (IntKind.u32.wrap (IntKind.u32.wrap (b : Int) * 65536))) (IntKind.u32.wrap (IntKind.u32.wrap (c : Int) * 256))) (IntKind.u32.wrap (d : Int)) = wordI a b c d := by
  have e1 : IntKind.u32.wrap (IntKind.u32.wrap (a : Int) * 16777216) = ((a * 16777216 : Nat) : Int) := by rw [IntKind.wrap_u32', IntKind.wrap_u32']; omega
  have e2 : IntKind.u32.wrap (IntKind.u32.wrap (b : Int) * 65536) = ((b * 65536 : Nat) : Int) := by rw [IntKind.wrap_u32', IntKind.wrap_u32']; omega
  have e3 : IntKind.u32.wrap (IntKind.u32.wrap (c : Int) * 256) = ((c * 256 : Nat) : Int) := by rw [IntKind.wrap_u32', IntKind.wrap_u32']; omega
  have e4 : IntKind.u32.wrap (d : Int) = ((d : Nat) : Int) := by rw [IntKind.wrap_u32']; omega
  have p24 : (2 : Nat) ^ 24 = 16777216 := by decide
  have p16 : (2 : Nat) ^ 16 = 65536 := by decide
  have p8 : (2 : Nat) ^ 8 = 256 := by decide
  have o1 : a * 16777216 ||| b * 65536 = (a * 256 + b) * 65536 := by
    rw [← p24, or_shl a (b * 65536) 24 (by rw [p24]; omega), p24, Nat.add_mul, Nat.mul_assoc]
  have o2 : (a * 256 + b) * 65536 ||| c * 256 = ((a * 256 + b) * 256 + c) * 256 := by
    rw [← p16, or_shl (a * 256 + b) (c * 256) 16 (by rw [p16]; omega), p16, Nat.add_mul ((a * 256 + b) * 256), Nat.mul_assoc]
  have o3 : ((a * 256 + b) * 256 + c) * 256 ||| d = ((a * 256 + b) * 256 + c) * 256 + d := by
    have := or_shl ((a * 256 + b) * 256 + c) d 8 (by rw [p8]; exact hd)
    rwa [p8] at this
  rw [e1, e2, e3, e4, u32_or_nat _ _ (by omega) (by omega), o1, u32_or_nat _ _ (by omega) (by omega), o2, u32_or_nat _ _ (by omega) (by omega), o3]
  rfl
/-- The first sixteen words of a block. -/
def wordsI (B : List Nat) : List Int := (List.range 16).map fun k => wordI (B.getD (4 * k) 0) (B.getD (4 * k + 1) 0) (B.getD (4 * k + 2) 0) (B.getD (4 * k + 3) 0)
/-- The word behind those that are there. -/
def nextW (l : List Int) : Int :=
  IntKind.u32.wrap (IntKind.u32.wrap (IntKind.u32.wrap (l.getD (l.length - 16) 0 + bits .xor .u32 (bits .xor .u32 (rot (l.getD (l.length - 15) 0) 7) (rot (l.getD (l.length - 15) 0) 18)) (l.getD (l.length - 15) 0 / 8)) + l.getD (l.length - 7) 0)
    + bits .xor .u32 (bits .xor .u32 (rot (l.getD (l.length - 2) 0) 17) (rot (l.getD (l.length - 2) 0) 19)) (l.getD (l.length - 2) 0 / 1024))
def schedN (B : List Nat) : Nat → List Int
  | 0 => wordsI B
  | j + 1 => schedN B j ++ [nextW (schedN B j)]
/-- All words of a block. -/
def schedI (B : List Nat) : List Int := schedN B 48
theorem schedN_len (B : List Nat) (j : Nat) : (schedN B j).length = 16 + j := by
  induction j with
  | zero => simp [schedN, wordsI]
  | succ j ih => simp [schedN, ih]; omega
theorem wrap_U (x : Int) : U32 (IntKind.u32.wrap x) := by rw [IntKind.wrap_u32']; unfold U32; omega
theorem schedN_U (B : List Nat) (h8 : ∀ x ∈ B, x < 256) (j : Nat) : ∀ x ∈ schedN B j, U32 x := by
  induction j with
  | zero =>
    intro x hx
    simp only [schedN, wordsI, List.mem_map] at hx
    obtain ⟨k, _, rfl⟩ := hx
    exact wordI_U (getD_lt B _ h8) (getD_lt B _ h8) (getD_lt B _ h8) (getD_lt B _ h8)
  | succ j ih =>
    intro x hx
    simp only [schedN, List.mem_append, List.mem_singleton] at hx
    rcases hx with hx | rfl
    · exact ih x hx
    · exact wrap_U _
theorem getD_U {l : List Int} {k : Nat} (h : ∀ x ∈ l, U32 x) : U32 (l.getD k 0) := by
  by_cases hk : k < l.length
  · rw [List.getD_eq_getElem?_getD, List.getElem?_eq_getElem hk]
    exact h _ (List.getElem_mem hk)
  · rw [List.getD_eq_getElem?_getD, List.getElem?_eq_none (by omega)]
    simp [U32]
/-- So many of a row, the others being 0. -/
def padI (l : List Int) : List Int := l ++ List.replicate (64 - l.length) 0
theorem padI_len {l : List Int} (h : l.length ≤ 64) : (padI l).length = 64 := by simp [padI]; omega
theorem padI_set {l : List Int} (h : l.length < 64) (x : Int) : (padI l).set l.length x = padI (l ++ [x]) := by
  unfold padI
  rw [List.set_append_right _ _ (Nat.le_refl _), Nat.sub_self, show 64 - l.length = (64 - (l ++ [x]).length) + 1 by simp; omega, List.replicate_succ, List.set_cons_zero]
  simp
theorem padI_get {l : List Int} {k : Nat} (h : k < l.length) : (padI l).getD k 0 = l.getD k 0 := by
  unfold padI
  rw [List.getD_eq_getElem?_getD, List.getElem?_append_left h, ← List.getD_eq_getElem?_getD]
theorem padI_full {l : List Int} (h : l.length = 64) : padI l = l := by simp [padI, h]
theorem wordsI_take {B : List Nat} {k : Nat} (h : k < 16) : (wordsI B).take (k + 1) = (wordsI B).take k ++ [wordI (B.getD (4 * k) 0) (B.getD (4 * k + 1) 0) (B.getD (4 * k + 2) 0) (B.getD (4 * k + 3) 0)] := by
  have hl : (wordsI B).length = 16 := by simp [wordsI]
  rw [take_snoc _ k 0 (by omega)]
  congr 1
  simp [wordsI, h]
/-- A state: eight words. -/
abbrev S8 := Int × Int × Int × Int × Int × Int × Int × Int
def cellsS (s : S8) : Array Value := #[.int .u32 s.1, .int .u32 s.2.1, .int .u32 s.2.2.1, .int .u32 s.2.2.2.1, .int .u32 s.2.2.2.2.1, .int .u32 s.2.2.2.2.2.1, .int .u32 s.2.2.2.2.2.2.1, .int .u32 s.2.2.2.2.2.2.2]
def pI (e f g i k w : Int) : Int :=
  IntKind.u32.wrap (IntKind.u32.wrap (IntKind.u32.wrap (IntKind.u32.wrap (i + bits .xor .u32 (bits .xor .u32 (rot e 6) (rot e 11)) (rot e 25)) + bits .xor .u32 (bits .and .u32 e f) (bits .and .u32 (bits .xor .u32 (if IntKind.u32.signed = true then -1 else IntKind.u32.max) e) g)) + k) + w)
def qI (a b c : Int) : Int := (bits .xor .u32 (bits .xor .u32 (rot a 2) (rot a 13)) (rot a 22) + bits .xor .u32 (bits .xor .u32 (bits .and .u32 a b) (bits .and .u32 a c)) (bits .and .u32 b c)) % 4294967296
def stepS (k w : Int) (s : S8) : S8 :=
  match s with
  | (a, b, c, d, e, f, g, i) => ((pI e f g i k w + qI a b c) % 4294967296, a, b, c, (d + pI e f g i k w) % 4294967296, e, f, g)
/-- K0 to K63. -/
def kI : List Int := [1116352408, 1899447441, 3049323471, 3921009573, 961987163, 1508970993, 2453635748, 2870763221, 3624381080, 310598401, 607225278, 1426881987, 1925078388, 2162078206, 2614888103, 3248222580, 3835390401, 4022224774, 264347078, 604807628, 770255983, 1249150122, 1555081692, 1996064986, 2554220882, 2821834349, 2952996808, 3210313671, 3336571891, 3584528711, 113926993, 338241895, 666307205, 773529912, 1294757372, 1396182291, 1695183700, 1986661051, 2177026350, 2456956037, 2730485921, 2820302411, 3259730800, 3345764771, 3516065817, 3600352804, 4094571909, 275423344, 430227734, 506948616, 659060556, 883997877, 958139571, 1322822218, 1537002063, 1747873779, 1955562222, 2024104815, 2227730452, 2361852424, 2428436474, 2756734187, 3204031479, 3329325298]
def roundS (W : List Int) (s : S8) : Nat → S8
  | 0 => s
  | t + 1 => stepS (kI.getD t 0) (W.getD t 0) (roundS W s t)
def addS (s r : S8) : S8 := ((s.1 + r.1) % 4294967296, (s.2.1 + r.2.1) % 4294967296, (s.2.2.1 + r.2.2.1) % 4294967296, (s.2.2.2.1 + r.2.2.2.1) % 4294967296, (s.2.2.2.2.1 + r.2.2.2.2.1) % 4294967296, (s.2.2.2.2.2.1 + r.2.2.2.2.2.1) % 4294967296, (s.2.2.2.2.2.2.1 + r.2.2.2.2.2.2.1) % 4294967296, (s.2.2.2.2.2.2.2 + r.2.2.2.2.2.2.2) % 4294967296)
/-- The state behind a block. -/
def compS (s : S8) (B : List Nat) : S8 := addS s (roundS (schedI B) s 64)
/-- All words are such. -/
def OkS (s : S8) : Prop := U32 s.1 ∧ U32 s.2.1 ∧ U32 s.2.2.1 ∧ U32 s.2.2.2.1 ∧ U32 s.2.2.2.2.1 ∧ U32 s.2.2.2.2.2.1 ∧ U32 s.2.2.2.2.2.2.1 ∧ U32 s.2.2.2.2.2.2.2
theorem mod_U (x : Int) : U32 (x % 4294967296) := by unfold U32; omega
theorem compS_ok (s : S8) (B : List Nat) : OkS (compS s B) := ⟨mod_U _, mod_U _, mod_U _, mod_U _, mod_U _, mod_U _, mod_U _, mod_U _⟩
theorem roundS_ok {W : List Int} {s : S8} (h : OkS s) (t : Nat) : OkS (roundS W s t) := by
  induction t with
  | zero => exact h
  | succ t ih =>
    obtain ⟨h1, h2, h3, h4, h5, h6, h7, h8⟩ := ih
    exact ⟨mod_U _, h1, h2, h3, mod_U _, h5, h6, h7⟩
theorem schedI_U (B : List Nat) (h8 : ∀ x ∈ B, x < 256) : ∀ x ∈ schedI B, U32 x := schedN_U B h8 48
theorem schedI_len (B : List Nat) : (schedI B).length = 64 := schedN_len B 48
def firstS : S8 := (1779033703, 3144134277, 1013904242, 2773480762, 1359893119, 2600822924, 528734635, 1541459225)
theorem firstS_ok : OkS firstS := by unfold OkS firstS U32; simp
/-- How many bytes 0 stand behind the first byte. -/
def zerosN (n : Nat) : Nat := 63 - (n + 8) % 64
/-- A byte of the number of bits. -/
def bitB (n k : Nat) : Nat := 8 * n / 2 ^ (56 - 8 * k) % 256
def bitsB (n : Nat) : List Nat := (List.range 8).map (bitB n)
def padL (n : Nat) : List Nat := 128 :: (List.replicate (zerosN n) 0 ++ bitsB n)
theorem padL_len (n : Nat) : (padL n).length = 1 + zerosN n + 8 := by simp [padL, bitsB]; omega
theorem padL_lt (n : Nat) : ∀ x ∈ padL n, x < 256 := by
  intro x hx
  simp only [padL, List.mem_cons, List.mem_append, List.mem_replicate, bitsB, List.mem_map] at hx
  rcases hx with rfl | ⟨_, rfl⟩ | ⟨k, _, rfl⟩
  · omega
  · omega
  · unfold bitB; omega
theorem padL_mod (n : Nat) : (n + (padL n).length) % 64 = 0 := by rw [padL_len]; unfold zerosN; omega
/-- What stands behind a message of n bytes, if there may be one. -/
def padO (n : Int) : List Nat := if 0 ≤ n ∧ n ≤ 2147483647 then padL n.toNat else []

end Go.Hm
/- Facts off this program's tables. -/

namespace Go.Proofs.YtgfemjpeegbhhaaDoor
open Go.Hm
theorem Tryd.own : ownKnob Tryd.prog.godebug = none := by kernel_rfl
theorem Tryd.laidOut : laidOutB Tryd.prog = true := by kernel_rfl
theorem elB : ElT Tryd.prog 22 5 (.int .u8 0) 1 1 := ⟨by kernel_rfl, by kernel_rfl, rfl, by omega⟩
theorem run_strB {w : World} {B n c : Nat} {A : Option Addr} {l : List Nat} (h : Reads w B 1 A n (nums .u8 l)) : (convert 22 9 (.slice A n c)).run Tryd.prog w = .ok (.string (bstr l)) w :=
  run_str (e := 5) (by kernel_rfl) (by kernel_rfl) (by kernel_rfl) h

end Go.Proofs.YtgfemjpeegbhhaaDoor
/- Strings as lists of bytes: what the walk's operations come to. No program is named here. -/

namespace Go.Hm
open Go Go.RowKit

theorem bstr_extract (l : List Nat) (i j : Nat) : (bstr l).extract i j = bstr ((l.drop i).take (j - i)) := by
  refine ByteArray.ext ?_
  rw [ByteArray.data_extract]
  show ((l.map UInt8.ofNat).toArray).extract i j = (((l.drop i).take (j - i)).map UInt8.ofNat).toArray
  simp
theorem bstr_from (l : List Nat) (i : Nat) : (bstr l).extract i l.length = bstr (l.drop i) := by
  rw [bstr_extract, List.take_of_length_le (by rw [List.length_drop]; omega)]
theorem bstr_to (l : List Nat) (j : Nat) : (bstr l).extract 0 j = bstr (l.take j) := by
  rw [bstr_extract]; simp
theorem bstr_get (l : List Nat) (k : Nat) (h8 : ∀ x ∈ l, x < 256) (hk : k < (bstr l).size) : ((bstr l)[k]'hk).toNat = l.getD k 0 := by
  have hk' : k < l.length := by rwa [bstr_size] at hk
  show (((l.map UInt8.ofNat).toArray)[k]'(by simpa using hk')).toNat = _
  simp only [List.getElem_toArray, List.getElem_map, UInt8.toNat_ofNat']
  rw [List.getD_eq_getElem?_getD, List.getElem?_eq_getElem hk', Option.getD_some]
  exact Nat.mod_eq_of_lt (h8 _ (List.getElem_mem hk'))

section
variable {P : Program} {t : TypeId}
theorem run_idx (ht : P.underlying t = some .string) (l : List Nat) (h8 : ∀ x ∈ l, x < 256) (k : Nat) (hk : k < l.length) (w : World) :
    (Instr.index t (.string (bstr l)) (.int .i64 (k : Int))).run P w = .ok (.int .u8 ((l.getD k 0 : Nat) : Int)) w := by
  rw [run_index_string w t (bstr l) .i64 (k : Int) ht, dif_pos ⟨by omega, by rw [bstr_size]; omega⟩]
  rw [bstr_get l _ h8]
  simp
theorem run_from (ht : P.underlying t = some .string) (l : List Nat) (k : Nat) (hk : k ≤ l.length) (w : World) :
    (Instr.slice t (.string (bstr l)) (some (.int .i64 (k : Int))) none none).run P w = .ok (.string (bstr (l.drop k))) w := by
  rw [run_slice_string_from_if w t (bstr l) .i64 (k : Int) ht, if_pos ⟨by omega, by rw [bstr_size]; omega⟩, Int.toNat_natCast, bstr_size, bstr_from]
theorem run_to (ht : P.underlying t = some .string) (l : List Nat) (k : Nat) (hk : k ≤ l.length) (w : World) :
    (Instr.slice t (.string (bstr l)) none (some (.int .i64 (k : Int))) none).run P w = .ok (.string (bstr (l.take k))) w := by
  rw [run_slice_string_to_if w t (bstr l) .i64 (k : Int) ht, if_pos ⟨by omega, by rw [bstr_size]; omega⟩, Int.toNat_natCast, bstr_to]
theorem run_slen (ht : P.underlying t = some .string) (l : List Nat) (ty : TypeId) (w : World) : (Builtin.len_ #[t] ty #[.string (bstr l)]).run P w = .ok (goInt l.length) w := by
  rw [run_len_string w t ty (bstr l) ht, bstr_size]
end
theorem strCells_bstr (l : List Nat) (h8 : ∀ x ∈ l, x < 256) : Lib.strCells (bstr l) = nums .u8 l := by
  unfold Lib.strCells nums
  show ((l.map UInt8.ofNat).toArray.toList).map _ = _
  simp only [List.map_map]
  refine List.map_congr_left fun x hx => ?_
  simp only [Function.comp, UInt8.toNat_ofNat']
  rw [Nat.mod_eq_of_lt (by have := h8 x hx; omega)]
/-- Texts as values. -/
def strs (l : List (List Nat)) : List Value := l.map fun s => .string (bstr s)
theorem strs_length (l : List (List Nat)) : (strs l).length = l.length := by simp [strs]
theorem strs_nil : strs [] = [] := rfl
theorem strs_append (l m : List (List Nat)) : strs (l ++ m) = strs l ++ strs m := by simp [strs]
theorem strs_at (l : List (List Nat)) (i : Nat) (h : i < l.length) : (strs l)[i]? = some (.string (bstr (l.getD i []))) := by simp [strs, List.getElem?_eq_getElem h]
theorem strs_oneCell (l : List (List Nat)) : ∀ u ∈ strs l, u.oneCell' = true := by
  intro u hu
  simp only [strs, List.mem_map] at hu
  obtain ⟨z, _, rfl⟩ := hu
  rfl
theorem Reads.lenT {w : World} {B n : Nat} {A : Option Addr} {l : List (List Nat)} (h : Reads w B 1 A n (strs l)) : n = l.length := by
  have := h.1
  rw [strs_length] at this
  omega
theorem Reads.str {w : World} {B n : Nat} {A : Option Addr} {l : List (List Nat)} {i : Nat} (h : Reads w B 1 A n (strs l)) (hi : i < n) : ∃ ad, A = some ad ∧ ad.block < B ∧ w.cell? (ad.add i) = some (.string (bstr (l.getD i []))) := by
  obtain ⟨ad, u, e, hb, hu, hc⟩ := h.at_ hi
  have hl : i < l.length := by have := h.lenT; omega
  rw [strs_at l i hl] at hu
  injection hu with hu
  subst hu
  exact ⟨ad, e, hb, hc⟩
theorem getD_memT {L : List (List Nat)} {k : Nat} {Q : List Nat → Prop} (h : ∀ x ∈ L, Q x) (hk : k < L.length) : Q (L.getD k []) := by
  rw [List.getD_eq_getElem?_getD, List.getElem?_eq_getElem hk]
  exact h _ (List.getElem_mem hk)

section
variable {P : Program} {ops : Array Oper} {rest : List Oper} {o : Oper} {a : Act} {Q : Exit → Act → World → Prop}
/-- append(b, s...) of a text. -/
theorem wpList_pushStr {w : World} {t e ts : TypeId} (E : ElT P t e (.int .u8 0) 1 1) (hts : P.underlying ts = some .string) (hgd : o.guard = none) (s x : Operand)
    (ho : o.op = .call { callee := .builtin .append, args := #[s, x], argTypes := #[t, ts] })
    {W : World} {B base n c : Nat} {A : Option Addr} {l l2 : List Nat} (hown : Own w base e (.slice A n c) (nums .u8 l)) (h8 : ∀ x ∈ l2, x < 256) (hs : a.eval s = .slice A n c) (hx : a.eval x = .string (bstr l2))
    (hb : Below B W w) (hbB : B ≤ base) (hbase : base ≤ w.heap.size) (hn : n + l2.length ≤ 140737488355328)
    (h : ∀ A' c' w', n + l2.length ≤ c' → c' ≤ maxLen → Own w' base e (.slice A' (n + l2.length) c') (nums .u8 (l ++ l2)) → w.grownBy w' (Value.ownBlock (.slice A n c)) → Below B W w' → wpList P ops Q rest (a.put o.dst (.slice A' (n + l2.length) c')) w') :
    wpList P ops Q (o :: rest) a w := by
  obtain ⟨i, hi, hz0, hz1, hz2⟩ := info_parts E.hi
  have hln := hown.len
  rw [nums_length] at hln
  have hown' : w.ownsRow base e 1 (.slice A n c) n (nums .u8 l) := by
    unfold Own at hown
    rwa [nums_length, ← hln] at hown
  refine Lib.wpList_append_own_string w hgd s x t ts ho base e i E.ht hts hi hz0 hz1 hz2 _ n _ hs hown' (bstr l2) hx (by rw [bstr_size]; unfold maxLen; omega) (by rw [bstr_size]; exact hn) hbase ?_
  intro v' w' h1 h2 _
  rw [strCells_bstr l2 h8, ← nums_append, bstr_size] at h1
  have hown2 : Own w' base e v' (nums .u8 (l ++ l2)) := by
    unfold Own
    rw [nums_length, List.length_append, ← hln]
    exact h1
  obtain ⟨A', c', rfl, hc1, hc2⟩ := hown2.slice
  rw [nums_length, List.length_append, ← hln] at hc1 hown2 ⊢
  exact h A' c' w' hc1 hc2 hown2 h2 (hb.grown h2 (Nat.le_trans hbB hbase) (fun k hk => by have := (hown.lt k hk).1; omega))
end
theorem strs_inj {l m : List (List Nat)} (hl : ∀ s ∈ l, ∀ x ∈ s, x < 256) (hm : ∀ s ∈ m, ∀ x ∈ s, x < 256) (h : strs l = strs m) : l = m := by
  induction l generalizing m with
  | nil => cases m with
    | nil => rfl
    | cons => simp [strs] at h
  | cons s l ih =>
    cases m with
    | nil => simp [strs] at h
    | cons r m =>
      simp only [strs, List.map_cons, List.cons.injEq, Value.string.injEq] at h
      have e := bstr_beq (hl s (by simp)) (hm r (by simp))
      rw [h.1] at e
      simp at e
      rw [e, ih (fun x hx => hl x (by simp [hx])) (fun x hx => hm x (by simp [hx])) h.2]

end Go.Hm
/- What is answered with a truth beside: bytes, numbers, texts, or none. -/

namespace Go.Proofs.YtgfemjpeegbhhaaDoor
open Go.RowKit Go.Hm
theorem strT : Tryd.prog.underlying 9 = some .string := by kernel_rfl
/-- The answer v; only draws are counted. -/
def DrewPost (v : Value) (w : World) (e : Ending) (w' : World) : Prop := e = .returned v ∧ ∃ k, w' = w.drewN k
/-- The answer v; nothing that was is turned. -/
def NewPost (v : Value) (w : World) (e : Ending) (w' : World) : Prop := e = .returned v ∧ New w w'
/-- The answer v; nothing at all is turned. -/
def ValPost (v : Value) (w : World) (e : Ending) (w' : World) : Prop := e = .returned v ∧ w = w'
theorem DrewPost.new {v : Value} {w w' : World} {e : Ending} (h : DrewPost v w e w') : NewPost v w e w' := by
  obtain ⟨h1, k, rfl⟩ := h
  exact ⟨h1, new_drewN w k⟩
/-- Bytes or none, and whether there are any. -/
def OptB (o : Option (List Nat)) (w : World) (e : Ending) (w' : World) : Prop :=
  match o with
  | none => e = .returned (.tuple #[.slice none 0 0, .bool false]) ∧ Below w.heap.size w w'
  | some l => ∃ A n c, e = .returned (.tuple #[.slice A n c, .bool true]) ∧ Own w' w.heap.size 5 (.slice A n c) (nums .u8 l) ∧ Below w.heap.size w w'
theorem OptB.u {o : Option (List Nat)} {w w' : World} {e : Ending} (h : OptB o w e w') :
    ∃ A n c, e = .returned (.tuple #[.slice A n c, .bool o.isSome]) ∧ Own w' w.heap.size 5 (.slice A n c) (nums .u8 (o.getD [])) ∧ Below w.heap.size w w' := by
  cases o with
  | none => exact ⟨none, 0, 0, h.1, Own.nil_, h.2⟩
  | some l => exact h
def OptW (o : Option (List Nat)) (w : World) (e : Ending) (w' : World) : Prop :=
  match o with
  | none => e = .returned (.tuple #[.slice none 0 0, .bool false]) ∧ Below w.heap.size w w'
  | some l => ∃ A n c, e = .returned (.tuple #[.slice A n c, .bool true]) ∧ Own w' w.heap.size 64 (.slice A n c) (nums .u64 l) ∧ Below w.heap.size w w'
theorem OptW.u {o : Option (List Nat)} {w w' : World} {e : Ending} (h : OptW o w e w') :
    ∃ A n c, e = .returned (.tuple #[.slice A n c, .bool o.isSome]) ∧ Own w' w.heap.size 64 (.slice A n c) (nums .u64 (o.getD [])) ∧ Below w.heap.size w w' := by
  cases o with
  | none => exact ⟨none, 0, 0, h.1, Own.nil_, h.2⟩
  | some l => exact h

end Go.Proofs.YtgfemjpeegbhhaaDoor
/- Contracts on words that are turned: sha.turn, ref01.right. -/

namespace Go.Proofs.YtgfemjpeegbhhaaDoor
open Go.RowKit Go.Hm
set_option maxHeartbeats 1000000 in
set_option maxRecDepth 100000 in
theorem turn_any {w : World} (x : Int) (n : Nat) (hx : U32 x) (hn : 1 ≤ n ∧ n ≤ 31) :
    Calls Tryd.prog 66 #[.int .u32 x, .int .i64 (n : Int)] w (DrewPost (.int .u32 (rot x n)) w) := by
  obtain ⟨h1, h2⟩ := hn
  have HO := Lib.hid (or_rot hx h2)
  clear hx
  go_enter Tryd.func66, Tryd.ntmps66
  go_wp2
  go_quiet (fail)
  go_wp2
  go_ret
  exact ⟨by rw [← HO.out]; rfl, _, rfl⟩
set_option maxHeartbeats 1000000 in
set_option maxRecDepth 100000 in
theorem right_any {w : World} (x : Int) (n : Nat) (hn : 1 ≤ n ∧ n ≤ 31) :
    Calls Tryd.prog 73 #[.int .u32 x, .int .u64 (n : Int)] w (ValPost (.int .u32 (rot x n)) w) := by
  obtain ⟨h1, h2⟩ := hn
  go_enter Tryd.func73, Tryd.ntmps73
  go_wp2
  go_ret
  exact ⟨rfl, rfl⟩

end Go.Proofs.YtgfemjpeegbhhaaDoor
/- A region that draws its order, whose last part turns what was read: what reads is carried out first, its value holding till the operation t0 comes up, which waits for it. No program is named here. -/

namespace Go.Hm
open Go.RowKit

section
variable {P : Program} {ops : Array Oper} {Q : Exit → Act → World → Prop} {md : Region.Mode} {S : World → Prop} {t0 : Nat}

/-- Whatever order: S holds behind every operation till t0 has come up. -/
def wpAnyT (P : Program) (md : Region.Mode) (ops : Array Oper) (Q : Exit → Act → World → Prop) (t0 : Nat) (S : World → Prop) : Nat → Array Bool → Act → World → Prop
  | 0, listed, a, w => Region.ready md ops listed = [] ∧ Q .normal a w
  | fuel + 1, listed, a, w => (Region.ready md ops listed = [] → Q .normal a w) ∧
    ∀ i ∈ Region.ready md ops listed, wpOp P ops Q i (fun a' w' => ((listed.setIfInBounds i true).getD t0 false = true ∨ S w') ∧ wpAnyT P md ops Q t0 S fuel (listed.setIfInBounds i true) a' w') a w
theorem wpAny_of_T : ∀ (fuel : Nat) (listed : Array Bool) (a : Act) (w : World), wpAnyT P md ops Q t0 S fuel listed a w → wpAny P md ops Q fuel listed a w
  | 0, _, _, _, h => h
  | fuel + 1, _, _, _, h => ⟨h.1, fun i hi => wpOp_mono (fun a' w' h' => wpAny_of_T fuel _ a' w' h'.2) (h.2 i hi)⟩
theorem getD_set_keep {l : Array Bool} {i t : Nat} (h : l.getD t false = true) : (l.setIfInBounds i true).getD t false = true := by
  rw [Array.getD_eq_getD_getElem?] at h ⊢
  rw [Array.getElem?_setIfInBounds]
  split
  · split
    · rfl
    · rename_i e h2; subst e; rw [Array.getElem?_eq_none (by omega)] at h; simp at h
  · exact h
theorem getD_set_other {l : Array Bool} {i t : Nat} (hne : i ≠ t) : (l.setIfInBounds i true).getD t false = l.getD t false := by
  rw [Array.getD_eq_getD_getElem?, Array.getD_eq_getD_getElem?, Array.getElem?_setIfInBounds, if_neg hne]
theorem wpAnyT_weaken {S' : World → Prop} : ∀ (fuel : Nat) (listed : Array Bool) (a : Act) (w : World), (listed.getD t0 false = true ∨ ∀ w, S w → S' w) → wpAnyT P md ops Q t0 S fuel listed a w → wpAnyT P md ops Q t0 S' fuel listed a w
  | 0, _, _, _, _, hh => hh
  | fuel + 1, listed, _, _, h, hh => ⟨hh.1, fun i hi => wpOp_mono (fun a' w' h' => ⟨by
      rcases h with h | h
      · exact .inl (getD_set_keep h)
      · exact h'.1.imp id (h w'), wpAnyT_weaken fuel _ a' w' (h.imp getD_set_keep id) h'.2⟩) (hh.2 i hi)⟩
/-- Taken first. -/
theorem wpAnyT_first {i : Nat} {oi : Oper} {v : Value} (hi : ops[i]? = some oi) (hit : i ≠ t0) (hsel : ∀ (j : Nat) (o : Oper) cs b, ops[j]? = some o → o.op ≠ .select cs b)
    (hQ : ∀ c a w, Q (.panic c) (a.put oi.dst v) w → Q (.panic c) a w) (V : World → Prop)
    (hV : (∀ w, V w) ∨ ((∀ w, S w → V w) ∧ ∃ ot, ops[t0]? = some ot ∧ ∃ e ∈ ot.after, Region.binds md e = true ∧ e.on = i)) :
    ∀ (fuel : Nat) (listed : Array Bool) (a : Act) (w : World),
      (∀ j oj, ops[j]? = some oj → j ≠ i → listed.getD j true = false → (∀ e ∈ oj.after, Region.binds md e = true → e.on ≠ i) → oi.apart ops oj = true) →
      i ∈ Region.ready md ops listed → YieldsIf P ops V oi v a → (listed.getD t0 false = true ∨ S w) → ((∀ w, V w) ∨ listed.getD t0 false = false) →
      wpAnyT P md ops Q t0 S fuel (listed.setIfInBounds i true) (a.put oi.dst v) w → wpAnyT P md ops Q t0 S (fuel + 1) listed a w := by
  have hVw : ∀ (listed : Array Bool) (w : World), (listed.getD t0 false = true ∨ S w) → ((∀ w, V w) ∨ listed.getD t0 false = false) → V w := by
    intro listed w hS ht
    rcases ht with ht | ht
    · exact ht w
    · rcases hS with hS | hS
      · rw [ht] at hS; cases hS
      · rcases hV with hV | hV
        · exact hV w
        · exact hV.1 w hS
  intro fuel
  induction fuel with
  | zero =>
    intro listed a w _ hr hy hS ht H
    refine ⟨fun h => (by rw [h] at hr; cases hr), fun j hj => ?_⟩
    by_cases hji : j = i
    · subst hji
      exact hy.wpOp hi (hVw listed w hS ht) ⟨hS.imp getD_set_keep id, H⟩
    · have := ready_mono hj hji
      rw [H.1] at this
      cases this
  | succ fuel ih =>
    intro listed a w hfree hr hy hS ht H
    refine ⟨fun h => (by rw [h] at hr; cases hr), fun j hj => ?_⟩
    by_cases hji : j = i
    · subst hji
      exact hy.wpOp hi (hVw listed w hS ht) ⟨hS.imp getD_set_keep id, H⟩
    · have h1 := H.2 j (ready_mono hj hji)
      obtain ⟨hjun, oj, hoj, hall⟩ := mem_ready.1 hj
      have hnot : ∀ e ∈ oj.after, Region.binds md e = true → e.on ≠ i := fun e he hb heq => by
        have h1 := hall e he hb
        have h0 := (mem_ready.1 hr).1
        rw [heq] at h1
        rcases Nat.lt_or_ge i listed.size with h' | h'
        · simp [h'] at h0 h1; rw [h0] at h1; cases h1
        · simp [Array.getElem?_eq_none h'] at h1
      have h2 := wpOp_putIf hoj (hfree j oj hoj hji hjun hnot) (fun cs b => hsel i oi cs b hi) (fun cs b => hsel j oj cs b hoj) hQ hy h1
      have hfree' : ∀ k ok, ops[k]? = some ok → k ≠ i → (listed.setIfInBounds j true).getD k true = false →
          (∀ e ∈ ok.after, Region.binds md e = true → e.on ≠ i) → oi.apart ops ok = true := fun k ok hk hki hun hno => by
        refine hfree k ok hk hki ?_ hno
        by_cases hjk : j = k
        · subst hjk; exact hjun
        · rw [getD_set_ne true hjk] at hun; exact hun
      have ht' : (∀ w, V w) ∨ (listed.setIfInBounds j true).getD t0 false = false := by
        rcases hV with hV | ⟨_, ot, hot, e, he, hb, heq⟩
        · exact .inl hV
        · refine ht.imp id fun ht => ?_
          have hjt : j ≠ t0 := by
            rintro rfl
            rw [hoj] at hot
            injection hot with hot
            subst hot
            exact hnot e he hb heq
          rw [getD_set_other hjt]
          exact ht
      refine wpOp_mono (fun a' w' h3 => ?_) h2
      have hS' : (listed.setIfInBounds j true).getD t0 false = true ∨ S w' := by
        refine h3.2.1.imp (fun h4 => ?_) id
        rw [Array.setIfInBounds_comm _ _ (fun e => hji e.symm), getD_set_other hit] at h4
        exact h4
      refine ⟨hS', ih (listed.setIfInBounds j true) a' w' hfree' (ready_mono hr (Ne.symm hji)) h3.1 hS' ht' ?_⟩
      rw [Array.setIfInBounds_comm _ _ hji]
      exact h3.2.2
theorem wpAnyT_take {i : Nat} {oi : Oper} {v : Value} {fuel : Nat} {listed : Array Bool} {a : Act} {w : World} (V : World → Prop) (hi : ops[i]? = some oi) (hit : i ≠ t0)
    (hs : Region.noSelect ops = true) (hf : Region.free md ops listed i = true) (hr : (Region.ready md ops listed).contains i = true)
    (hQ : ∀ c a w, Q (.panic c) (a.put oi.dst v) w → Q (.panic c) a w)
    (hV : (∀ w, V w) ∨ ((∀ w, S w → V w) ∧ ∃ ot, ops[t0]? = some ot ∧ ∃ e ∈ ot.after, Region.binds md e = true ∧ e.on = i))
    (hy : YieldsIf P ops V oi v a) (hS : listed.getD t0 false = true ∨ S w) (ht : (∀ w, V w) ∨ listed.getD t0 false = false)
    (h : wpAnyT P md ops Q t0 S fuel (listed.setIfInBounds i true) (a.put oi.dst v) w) : wpAnyT P md ops Q t0 S (fuel + 1) listed a w :=
  wpAnyT_first hi hit (Region.noSelect_spec hs) hQ V hV fuel listed a w (Region.free_spec hi hf) (by simpa using hr) hy hS ht h

/-- Whether t0 waits for i. -/
def waitsB (md : Region.Mode) (ops : Array Oper) (t0 i : Nat) : Bool := match ops[t0]? with
  | some ot => ot.after.any fun e => Region.binds md e && e.on == i
  | none => false
/-- 0: reads, and t0 waits for it; 1: yields its value in whatever world; 2: comes up alone. -/
def upOkT (ops : Array Oper) (t0 : Nat) : Array Bool → List (Nat × Nat) → Bool
  | listed, [] => (Region.ready .any ops listed).isEmpty
  | listed, (0, i) :: r => (Region.ready .any ops listed).contains i && (Region.free .any ops listed i && (waitsB .any ops t0 i && (decide (i ≠ t0) && (!listed.getD t0 false && upOkT ops t0 (listed.setIfInBounds i true) r))))
  | listed, (1, i) :: r => (Region.ready .any ops listed).contains i && (Region.free .any ops listed i && (decide (i ≠ t0) && upOkT ops t0 (listed.setIfInBounds i true) r))
  | listed, (_, i) :: r => decide (Region.ready .any ops listed = [i]) && upOkT ops t0 (listed.setIfInBounds i true) r

def wpUpT (P : Program) (ops : Array Oper) (R : World → World → Prop) (Q : Exit → Act → World → Prop) (t0 : Nat) : List (Nat × Nat) → Bool → Act → World → Prop
  | [], _, a, w => Q .normal a w
  | (0, i) :: r, d, a, w => ∃ o v, ops[i]? = some o ∧ ((Region.wanted o (yielded ops a.tmps) = true ∧ ∀ w', R w w' → (execOp a.eval o).run P w' = .ok (.value v) w') ∨ (Region.wanted o (yielded ops a.tmps) = false ∧ v = undef)) ∧ wpUpT P ops R Q t0 r d (a.put o.dst v) w
  | (1, i) :: r, d, a, w => ∃ o v, ops[i]? = some o ∧ ((Region.wanted o (yielded ops a.tmps) = true ∧ ∀ w', (execOp a.eval o).run P w' = .ok (.value v) w') ∨ (Region.wanted o (yielded ops a.tmps) = false ∧ v = undef)) ∧ wpUpT P ops R Q t0 r d (a.put o.dst v) w
  | (_, i) :: r, d, a, w => ∃ o, ops[i]? = some o ∧ if Region.wanted o (yielded ops a.tmps) then o.wp P a w (fun a' w' => (d = true ∨ i = t0 ∨ R w w') ∧ wpUpT P ops R Q t0 r (d || i == t0) a' w') (NoPanic Q) else wpUpT P ops R Q t0 r (d || i == t0) (a.put o.dst undef) w

variable {R : World → World → Prop}
theorem waitsB_spec {i : Nat} (h : waitsB md ops t0 i = true) : ∃ ot, ops[t0]? = some ot ∧ ∃ e ∈ ot.after, Region.binds md e = true ∧ e.on = i := by
  unfold waitsB at h
  split at h
  · rename_i ot hot
    rw [Array.any_eq_true] at h
    obtain ⟨j, hj, h⟩ := h
    simp only [Bool.and_eq_true, beq_iff_eq] at h
    exact ⟨ot, hot, ot.after[j], Array.getElem_mem hj, h.1, h.2⟩
  · cases h
theorem wpAnyT_of_up (hrefl : ∀ w, R w w) (htrans : ∀ {x y z}, R x y → R y z → R x z) (hs : Region.noSelect ops = true) :
    ∀ (ord : List (Nat × Nat)) (fuel : Nat) (listed : Array Bool) (d : Bool) (a : Act) (w : World), (d = true → listed.getD t0 false = true) → (∀ i ∈ ord.map (·.2), i < listed.size) → ord.length ≤ fuel → upOkT ops t0 listed ord = true → wpUpT P ops R Q t0 ord d a w → wpAnyT P .any ops (NoPanic Q) t0 (R w) fuel listed a w := by
  intro ord
  induction ord with
  | nil =>
    intro fuel listed d a w _ _ _ hok h
    have hr : Region.ready .any ops listed = [] := by simpa [upOkT] using hok
    cases fuel with
    | zero => exact ⟨hr, NoPanic.normal h⟩
    | succ fuel => exact ⟨fun _ => NoPanic.normal h, by rw [hr]; simp⟩
  | cons x r ih =>
    obtain ⟨b, i⟩ := x
    intro fuel listed d a w hd hsz hl hok h
    obtain ⟨fuel, rfl⟩ : ∃ k, fuel = k + 1 := ⟨fuel - 1, by simp at hl; omega⟩
    have hl' : r.length ≤ fuel := by simp at hl; omega
    have hsz' : ∀ k ∈ r.map (·.2), k < (listed.setIfInBounds i true).size := fun k hk => by rw [Array.size_setIfInBounds]; exact hsz k (by simp at hk ⊢; exact .inr hk)
    have hi0 : i < listed.size := hsz i (by simp)
    match b with
    | 0 =>
      obtain ⟨o, v, ho, hv, hr⟩ := h
      simp only [upOkT, Bool.and_eq_true, decide_eq_true_eq, Bool.not_eq_true'] at hok
      obtain ⟨h1, h2, h3, h4, h5, h6⟩ := hok
      exact wpAnyT_take (R w) ho h4 hs h2 h1 (fun _ _ _ hp => hp) (.inr ⟨fun _ hh => hh, waitsB_spec h3⟩) hv (.inr (hrefl w)) (.inr h5) (ih fuel _ d _ w (fun e => getD_set_keep (hd e)) hsz' hl' h6 hr)
    | 1 =>
      obtain ⟨o, v, ho, hv, hr⟩ := h
      simp only [upOkT, Bool.and_eq_true, decide_eq_true_eq] at hok
      obtain ⟨h1, h2, h3, h4⟩ := hok
      exact wpAnyT_take (fun _ => True) ho h3 hs h2 h1 (fun _ _ _ hp => hp) (.inl fun _ => trivial) (hv.imp (fun hh => ⟨hh.1, fun w' _ => hh.2 w'⟩) id) (.inr (hrefl w)) (.inl fun _ => trivial) (ih fuel _ d _ w (fun e => getD_set_keep (hd e)) hsz' hl' h4 hr)
    | b + 2 =>
      obtain ⟨o, ho, hc⟩ := h
      simp only [upOkT, Bool.and_eq_true, decide_eq_true_eq] at hok
      obtain ⟨h1, h3⟩ := hok
      refine ⟨fun h0 => (by rw [h1] at h0; cases h0), fun j hj => ?_⟩
      rw [h1] at hj
      obtain rfl : j = i := by simpa using hj
      have hd' : (d || j == t0) = true → (listed.setIfInBounds j true).getD t0 false = true := by
        intro e
        rw [Bool.or_eq_true, beq_iff_eq] at e
        rcases e with e | rfl
        · exact getD_set_keep (hd e)
        · rw [Array.getD_eq_getD_getElem?, Array.getElem?_setIfInBounds, if_pos rfl, if_pos hi0]; rfl
      unfold wpOp
      simp only [ho]
      split
      · rename_i hw
        rw [if_pos hw] at hc
        refine .inl (Oper.wp_mono (fun a' w' hh => ?_) hc)
        obtain ⟨hR, hh⟩ := hh
        have hI := ih fuel _ _ a' w' hd' hsz' hl' h3 hh
        by_cases ht : (listed.setIfInBounds j true).getD t0 false = true
        · exact ⟨.inl ht, wpAnyT_weaken fuel _ a' w' (.inl ht) hI⟩
        · have hR' : R w w' := by
            rcases hR with hR | hR | hR
            · exact absurd (getD_set_keep (hd hR)) ht
            · exact absurd (hd' (by simp [hR])) ht
            · exact hR
          exact ⟨.inr hR', wpAnyT_weaken fuel _ a' w' (.inr fun z hz => htrans hR' hz) hI⟩
      · rename_i hw
        rw [if_neg hw] at hc
        exact ⟨.inr (hrefl w), ih fuel _ _ _ w hd' hsz' hl' h3 hc⟩

theorem wp_region_upT {id : Nat} {a : Act} {w : World} (R : World → World → Prop) (t0 : Nat) (ord : List (Nat × Nat)) (hrefl : ∀ w, R w w) (htrans : ∀ {x y z}, R x y → R y z → R x z) (hm : P.follows .mixedOrders = true)
    (hs : Region.noSelect ops = true) (hl : (decide (ord.length ≤ ops.size) && ord.all fun x => decide (x.2 < ops.size)) = true) (hok : upOkT ops t0 (Array.replicate ops.size false) ord = true) (h : wpUpT P ops R Q t0 ord false a w.drew) : (Code.region id ops true).wp P Q a w := by
  simp only [Bool.and_eq_true, decide_eq_true_eq, List.all_eq_true] at hl
  refine wp_region_noPanic (wp_region_any hm (wpAny_of_T _ _ _ _ (wpAnyT_of_up hrefl htrans hs ord ops.size _ false a _ (by simp) ?_ hl.1 hok h)))
  intro i hi
  simp only [List.mem_map] at hi
  obtain ⟨x, hx, rfl⟩ := hi
  rw [Array.size_replicate]
  exact hl.2 x hx

variable {i : Nat} {r : List (Nat × Nat)} {a : Act} {w : World} {d : Bool} {v : Value}
theorem upT_nil (h : Q .normal a w) : wpUpT P ops R Q t0 [] d a w := h

section
variable {dst : Option Tmp} {op : Op} {ty : TypeId} {pos : String} {af : Array Edge} {gd : Option (Nat × Bool)}
theorem upT_quiet (ho : ops[i]? = some ⟨dst, op, ty, pos, af, gd⟩) (hw : Region.wanted ⟨dst, op, ty, pos, af, gd⟩ (yielded ops a.tmps) = true) (hv : ∀ w', R w w' → (execOp a.eval ⟨dst, op, ty, pos, af, gd⟩).run P w' = .ok (.value v) w') (h : wpUpT P ops R Q t0 r d (a.put dst v) w) : wpUpT P ops R Q t0 ((0, i) :: r) d a w :=
  ⟨_, v, ho, .inl ⟨hw, hv⟩, h⟩
theorem upT_pure (ho : ops[i]? = some ⟨dst, op, ty, pos, af, gd⟩) (hw : Region.wanted ⟨dst, op, ty, pos, af, gd⟩ (yielded ops a.tmps) = true) (hv : ∀ w', (execOp a.eval ⟨dst, op, ty, pos, af, gd⟩).run P w' = .ok (.value v) w') (h : wpUpT P ops R Q t0 r d (a.put dst v) w) : wpUpT P ops R Q t0 ((1, i) :: r) d a w :=
  ⟨_, v, ho, .inl ⟨hw, hv⟩, h⟩
theorem upT_call (ho : ops[i]? = some ⟨dst, op, ty, pos, af, gd⟩) (hw : Region.wanted ⟨dst, op, ty, pos, af, gd⟩ (yielded ops a.tmps) = true) (h : ∀ K : Act → World → Prop, (∀ a' w', (d = true ∨ i = t0 ∨ R w w') → wpUpT P ops R Q t0 r (d || i == t0) a' w' → K a' w') → Oper.wp P ⟨dst, op, ty, pos, af, gd⟩ a w K (NoPanic Q)) : wpUpT P ops R Q t0 ((2, i) :: r) d a w :=
  ⟨_, ho, by rw [if_pos hw]; exact h _ fun _ _ h1 h2 => ⟨h1, h2⟩⟩
end
end

section
variable {P : Program} {o : Oper} {a : Act} {Q : Exit → Act → World → Prop} {K : Act → World → Prop}
/-- append(s, x) behind the block that x was laid in, at the operation. -/
theorem wp_push {w : World} {t e : TypeId} {z : Value} {bytes : Nat} (E : ElT P t e z 1 bytes) (s x : Operand)
    (ho : o.op = .call { callee := .builtin .append, args := #[s, x], argTypes := #[t, t] })
    {W : World} {B base : Nat} {v u : Value} {xs : List Value} (hown : Own w base e v xs) (hs : a.eval s = v) (hx : a.eval x = .slice (some ⟨w.heap.size, 0, none⟩) 1 1)
    (hb : Below B W w) (hbB : B ≤ base) (hbase : base ≤ w.heap.size) (h1 : u.oneCell' = true)
    (hn : (xs.length + 1) * bytes ≤ 140737488355328) (hm : xs.length + 1 ≤ maxLen)
    (h : ∀ A' c' w', xs.length + 1 ≤ c' → c' ≤ maxLen → Own w' base e (.slice A' (xs.length + 1) c') (xs ++ [u]) → w.grownBy w' v.ownBlock → Below B W w' → w.heap.size < w'.heap.size → K (a.put o.dst (.slice A' (xs.length + 1) c')) w') :
    Oper.wp P o a (w.alloc (.cells #[u] e)) K Q := by
  obtain ⟨i, hi, hz0, hz1, hz2⟩ := info_parts E.hi
  obtain ⟨v', w', hr, hown', hg, _, _⟩ := run_append_own_at (P := P) (w.alloc (.cells #[u] e)) base t o.type e i z 1 bytes E.ht hi hz0 hz1 hz2 E.hz (by omega) v xs.length xs (World.ownsRow.alloc hown _) ⟨w.heap.size, 0, none⟩ 1 1 [u] rfl (cell_one_new _ _ _) (by simpa using h1) hm hn (by simp; omega)
  have hxl : (xs ++ [u]).length = xs.length + 1 := by simp
  have hown2 : Own w' base e v' (xs ++ [u]) := by unfold Own; rw [hxl]; exact hown'
  obtain ⟨A', c', rfl, hc1, hc2⟩ := hown2.slice
  rw [hxl] at hc1 hown2 hr
  have hg2 : w.grownBy w' v.ownBlock := (World.grownBy_alloc w (.cells #[u] e) v.ownBlock).trans hg
  have hsz := hg.size
  simp at hsz
  unfold Oper.wp execOp
  simp only [ho, resolve, invoke, builtin, Sem.run_bind, Sem.run_pure, Result.andThen_ok, List.map_toArray, List.map_cons, List.map_nil, hs, hx, hr]
  exact h A' c' w' hc1 hc2 hown2 hg2 (hb.grown hg2 (Nat.le_trans hbB hbase) (fun k hk => by have := (hown.lt k hk).1; omega)) (by omega)
/-- append(s, xs...) onto a row of the call's own, at the operation. -/
theorem wp_pushes {w : World} {t e : TypeId} {z : Value} {bytes : Nat} (E : ElT P t e z 1 bytes) (s x : Operand)
    (ho : o.op = .call { callee := .builtin .append, args := #[s, x], argTypes := #[t, t] })
    {W : World} {B base m c : Nat} {v : Value} {xs news : List Value} {ad : Addr} (hown : Own w base e v xs) (hr : Reads w w.heap.size 1 (some ad) m news) (hm0 : 0 < m) (hs : a.eval s = v) (hx : a.eval x = .slice (some ad) m c)
    (hb : Below B W w) (hbB : B ≤ base) (hbase : base ≤ w.heap.size) (h1 : ∀ u ∈ news, u.oneCell' = true)
    (hn : (xs.length + m) * bytes ≤ 140737488355328) (hm : xs.length + m ≤ maxLen)
    (h : ∀ A' c' w', xs.length + m ≤ c' → c' ≤ maxLen → Own w' base e (.slice A' (xs.length + m) c') (xs ++ news) → w.grownBy w' v.ownBlock → Below B W w' → K (a.put o.dst (.slice A' (xs.length + m) c')) w') :
    Oper.wp P o a w K Q := by
  obtain ⟨i, hi, hz0, hz1, hz2⟩ := info_parts E.hi
  have hl : news.length = m := by have := hr.1; omega
  have hcells : ∀ j u, news[j]? = some u → w.cell? (ad.add j) = some u := by
    intro j u hu
    obtain ⟨ad', h', _, hc⟩ := hr.2 hm0
    injection h' with h'
    subst h'
    exact hc j u hu
  obtain ⟨v', w', hr', hown', hg, _, _⟩ := run_append_own_at (P := P) w base t o.type e i z 1 bytes E.ht hi hz0 hz1 hz2 E.hz (by omega) v xs.length xs hown ad m c news (by omega) hcells h1 hm hn hbase
  have hxl : (xs ++ news).length = xs.length + m := by simp [hl]
  have hown2 : Own w' base e v' (xs ++ news) := by unfold Own; rw [hxl]; exact hown'
  obtain ⟨A', c', rfl, hc1, hc2⟩ := hown2.slice
  rw [hxl] at hc1 hown2 hr'
  unfold Oper.wp execOp
  simp only [ho, resolve, invoke, builtin, Sem.run_bind, Sem.run_pure, Result.andThen_ok, List.map_toArray, List.map_cons, List.map_nil, hs, hx, hr']
  exact h A' c' w' hc1 hc2 hown2 hg (hb.grown hg (Nat.le_trans hbB hbase) (fun k hk => by have := (hown.lt k hk).1; omega))
end

end Go.Hm
