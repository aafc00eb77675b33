/- Messages, block by block; laws for whole arrays in drawn regions. No program is named here. -/
import Derived.Test.YtglghnnmfplmdaaDoorShaQ
import Derived.Deep.MidRow
import Derived.Laws.Cover3

namespace Go.Hm
open Go Go.RowKit
/-- The k-th block of so many bytes. -/
def blkN (M : List Nat) (k : Nat) : List Nat := (M.drop (64 * k)).take 64
/-- The state behind k blocks. -/
def foldK (M : List Nat) : Nat → S8
  | 0 => firstS
  | k + 1 => compS (foldK M k) (blkN M k)
theorem foldK_ok (M : List Nat) (k : Nat) : OkS (foldK M k) := by
  cases k with
  | zero => exact firstS_ok
  | succ k => exact compS_ok _ _
theorem blkN_len {M : List Nat} {k : Nat} (h : 64 * k + 64 ≤ M.length) : (blkN M k).length = 64 := by
  unfold blkN
  rw [List.length_take, List.length_drop]
  omega
theorem blkN_lt {M : List Nat} {k : Nat} (h : ∀ x ∈ M, x < 256) : ∀ x ∈ blkN M k, x < 256 := fun x hx => h x (List.mem_of_mem_drop (List.mem_of_mem_take hx))
/-- A message and what stands behind it. -/
def msgL (l : List Nat) : List Nat := l ++ padL l.length
theorem msgL_lt {l : List Nat} (h : ∀ x ∈ l, x < 256) : ∀ x ∈ msgL l, x < 256 := by
  intro x hx
  rcases List.mem_append.1 hx with hx | hx
  · exact h x hx
  · exact padL_lt _ x hx
theorem msgL_len (l : List Nat) : (msgL l).length = l.length + (padL l.length).length := by simp [msgL]
theorem msgL_mod (l : List Nat) : (msgL l).length % 64 = 0 := by rw [msgL_len]; exact padL_mod _
theorem blkN_head {l : List Nat} {k : Nat} (h : 64 * k + 64 ≤ l.length) : blkN (msgL l) k = (l.drop (64 * k)).take 64 := by
  unfold blkN msgL
  rw [List.drop_append_of_le_length (by omega), List.take_append_of_le_length (by rw [List.length_drop]; omega)]
/-- The state behind a message. -/
def sumS (l : List Nat) : S8 := foldK (msgL l) ((msgL l).length / 64)
def wordsL (s : S8) : List Int := [s.1, s.2.1, s.2.2.1, s.2.2.2.1, s.2.2.2.2.1, s.2.2.2.2.2.1, s.2.2.2.2.2.2.1, s.2.2.2.2.2.2.2]
theorem cellsS_words (s : S8) : cellsS s = (ints .u32 (wordsL s)).toArray := rfl
/-- A byte of a digest. -/
def digB (s : S8) (k : Nat) : Int := (wordsL s).getD (k / 4) 0 / 2 ^ (24 - k % 4 * 8) % 256
def digI (s : S8) : List Int := (List.range 32).map (digB s)
/-- The digest of bytes. -/
def sumI (l : List Nat) : List Int := digI (sumS l)
theorem digI_len (s : S8) : (digI s).length = 32 := by simp [digI]
theorem digI_take {s : S8} {k : Nat} (hk : k < 32) : (digI s).take (k + 1) = (digI s).take k ++ [digB s k] := by
  rw [take_snoc _ k 0 (by rw [digI_len]; exact hk)]
  congr 1
  simp [digI, hk]
def pad32 (l : List Int) : List Int := l ++ List.replicate (32 - l.length) 0
theorem pad32_len {l : List Int} (h : l.length ≤ 32) : (pad32 l).length = 32 := by simp [pad32]; omega
theorem pad32_set {l : List Int} (h : l.length < 32) (x : Int) : (pad32 l).set l.length x = pad32 (l ++ [x]) := by
  unfold pad32
  rw [List.set_append_right _ _ (Nat.le_refl _), Nat.sub_self, show 32 - l.length = (32 - (l ++ [x]).length) + 1 by simp; omega, List.replicate_succ, List.set_cons_zero]
  simp
theorem pad32_full {l : List Int} (h : l.length = 32) : pad32 l = l := by simp [pad32, h]

section
variable {P : Program} {w : World} {a : Act} {dst : Option Tmp} {tt : TypeId} {pos : String} {af : Array Edge} {gd : Option (Nat × Bool)}
theorem exec_load_row {ty t : TypeId} {x : Operand} {g : Nat} {cs : Array Value} {d : TypeDesc} (hx : a.eval x = .pointer (some ⟨g, 0, none⟩)) (B : Blk w g t cs) (hu : P.underlying ty = some d) (hd : d.isRow = true) (hi : (P.info? ty).map (·.size) = some cs.size) :
    (execOp a.eval ⟨dst, .load ty x, tt, pos, af, gd⟩).run P w = .ok (.value (.agg cs)) w := by
  unfold execOp
  simp only [hx, Instr.loadAt, Instr.sureAddr, Sem.run_bind, Sem.run_pure, Result.andThen_ok, run_loadVar_row w g t ty cs (0, 0) d B hu (by cases d <;> simp_all [TypeDesc.isRow]) hi]
theorem run_loadVar_at (w : World) (ad : Addr) (ty : TypeId) (cs : List Value) (d : TypeDesc) (hc : ∀ j v, cs[j]? = some v → w.cell? (ad.add j) = some v)
    (hu : P.underlying ty = some d) (hd : d.isRow = true) (hi : (P.info? ty).map (·.size) = some cs.length) :
    (loadVar ty ad).run P w = .ok (.agg cs.toArray) w := by
  have hl : (loadCells ad cs.length).run P w = .ok cs.toArray w := run_loadCells_list (P := P) w ad cs hc
  cases hq : P.info? ty with
  | none => simp [hq] at hi
  | some i =>
    have hs : i.size = cs.length := by simpa [hq] using hi
    have hagg : (isAgg ty).run P w = .ok true w := by
      unfold isAgg
      rw [Sem.run_bind, run_underlying hu w]
      cases d <;> simp_all
    simp [loadVar, Sem.run_bind, hagg, sizeOf, typeInfo, hq, hs, hl]
theorem exec_load_at {ty : TypeId} {x : Operand} {ad : Addr} {cs : List Value} {d : TypeDesc} (hx : a.eval x = .pointer (some ad)) (hc : ∀ j v, cs[j]? = some v → w.cell? (ad.add j) = some v) (hu : P.underlying ty = some d) (hd : d.isRow = true) (hi : (P.info? ty).map (·.size) = some cs.length) :
    (execOp a.eval ⟨dst, .load ty x, tt, pos, af, gd⟩).run P w = .ok (.value (.agg cs.toArray)) w := by
  unfold execOp
  simp only [hx, Instr.loadAt, Instr.sureAddr, Sem.run_bind, Sem.run_pure, Result.andThen_ok, run_loadVar_at w ad ty cs d hc hu hd hi]
theorem exec_arrayAt {arr e : TypeId} {x : Operand} {n len cap : Nat} {A : Option Addr} (hx : a.eval x = .slice A len cap) (h : P.underlying arr = some (.array n e)) (hn : n ≤ len) :
    (execOp a.eval ⟨dst, .sliceToArrayPointer arr x, tt, pos, af, gd⟩).run P w = .ok (.value (.pointer A)) w := by
  unfold execOp
  simp only [hx, Sem.run_bind, run_arrayAt w arr e n A len cap h hn, Result.andThen_ok, Sem.run_pure]
theorem exec_slice {t : TypeId} {x : Operand} {lo hi mx : Option Operand} {v : Value} (hv : (Instr.sliceAt t (a.eval x) (lo.map a.eval) (hi.map a.eval) (mx.map a.eval)).run P w = .ok v w) :
    (execOp a.eval ⟨dst, .slice t x lo hi mx, tt, pos, af, gd⟩).run P w = .ok (.value v) w := by
  unfold execOp
  simp only [Sem.run_bind, hv, Result.andThen_ok, Sem.run_pure]
theorem wpList_slice {ops : Array Oper} {rest : List Oper} {o : Oper} {Q : Exit → Act → World → Prop} (hgd : o.guard = none) (t : TypeId) (x : Operand) (lo hi mx : Option Operand) (ho : o.op = .slice t x lo hi mx) {v : Value}
    (hv : (Instr.sliceAt t (a.eval x) (lo.map a.eval) (hi.map a.eval) (mx.map a.eval)).run P w = .ok v w) (h : wpList P ops Q rest (a.put o.dst v) w) : wpList P ops Q (o :: rest) a w := by
  refine wpList_plain hgd fun K hK => ?_
  unfold Oper.wp execOp
  simp only [ho, Sem.run_bind, hv, Result.andThen_ok, Sem.run_pure]
  exact hK _ _ h
end

end Go.Hm
