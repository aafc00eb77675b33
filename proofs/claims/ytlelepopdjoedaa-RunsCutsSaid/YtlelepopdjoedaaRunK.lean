/- The contract of runs.Cut. -/
import Derived.RangeFuncBox
import Derived.RangeFuncWrites
import Derived.Maps.AppendAt
import Derived.Deep.Onto
import Derived.Test.YtlelepopdjoedaaRunI

namespace Go.Proofs.Ytlelepopdjoedaa
open Go.RowKit Go.Hm Go.Shelf
attribute [local go_sem] Oper.semAt_some
theorem KB.of_below {n0 bo : Nat} {W W' : World} (h : Below n0 W W') : KB n0 bo W W' := ⟨h.size, fun k h1 _ => h.block k h1⟩
/-- The sizes of spans. -/
def szs {n : Nat} (pre : List (Sp n)) : List Nat := pre.map fun x => x.1.2 - x.1.1
theorem KB.appended {n0 bo : Nat} {W w1 : World} {e : TypeId} {size k : Nat} {v v' : Value} {xs : List Value} {tmp : Obj} (hrow : W.ownsRow n0 e size v k xs) (hn : n0 ≤ W.heap.size) (hgrow : (W.alloc tmp).grownBy w1 v.ownBlock) : KB n0 bo W (w1.setCell ⟨bo, 0, none⟩ v') := by
  refine ⟨?_, fun i h1 h2 => ?_⟩
  · have := hgrow.size
    have h2 := (KeepsWalks.setCell w1 ⟨bo, 0, none⟩ v').size
    rw [World.size_alloc] at this
    omega
  · refine (Below.heap_setCell _ _ _ i h2).trans ((hgrow.block i (by rw [World.size_alloc]; omega) ?_).trans (Below.heap_alloc _ _ _ (by omega)))
    rcases hrow.2 with ⟨rfl, _⟩ | ⟨g, cap, cur, rfl, hb, _, _⟩
    · simp [Value.ownBlock]
    · intro e
      obtain rfl : i = g := by simpa [Value.ownBlock] using e
      omega
theorem szs_snoc {n : Nat} (pre : List (Sp n)) (x : Sp n) : szs (pre ++ [x]) = szs pre ++ [x.1.2 - x.1.1] := by simp [szs]
theorem szs_len {n : Nat} (pre : List (Sp n)) : (szs pre).length = pre.length := by simp [szs]
def CutPost (L : List Nat) (w : World) (e : Ending) (w' : World) : Prop := ∃ v, e = .returned v ∧ Go.Hm.Own w' w.heap.size 3 v (nums .i64 (cuts L)) ∧ Below w.heap.size w w'
theorem tI_info : (Try.prog.info? 3).map (fun i => (i.zero, i.size, i.bytes)) = some (some (.int .i64 0), 1, 8) := by kernel_rfl
theorem szs_all {L : List Nat} {ys : List (Sp L.length)} (h : ys.map Subtype.val = spansR L 0 0) : szs ys = cuts L := by
  unfold cuts szs
  rw [← spansR_pcs, ← h, List.map_map, List.map_map]
  refine List.map_congr_left fun x _ => ?_
  simp only [Function.comp]
  rw [seg_len x.2.2]
theorem spansR_few {L : List Nat} : ∀ (k f a : Nat), L.length - a ≤ k → f ≤ a → a ≤ L.length → (spansR L f a).length ≤ 2 * (L.length - a) + 1 := by
  intro k
  induction k with
  | zero =>
    intro f a hk hf ha
    rw [spansR_end (by omega)]
    split <;> simp
  | succ k ih =>
    intro f a hk hf ha
    by_cases he : L.length ≤ a
    · rw [spansR_end he]
      split <;> simp
    have hp := st_pos (l := L.drop a) (by rw [List.length_drop]; omega)
    have hb := (st_spec (L.drop a)).1
    rw [List.length_drop] at hb
    by_cases h4 : 4 ≤ st (L.drop a)
    · rw [spansR_run (by omega) h4, List.length_append, List.length_cons]
      have := ih (a + st (L.drop a)) (a + st (L.drop a)) (by omega) (Nat.le_refl _) (by omega)
      split <;> simp <;> omega
    · rw [spansR_rest (by omega) h4]
      have := ih f (a + st (L.drop a)) (by omega) (by omega) (by omega)
      omega
set_option maxRecDepth 100000 in
set_option maxHeartbeats 2000000 in
theorem cut_any {w : World} {A : Option Addr} {c : Nat} {L : List Nat} (h : Reads w w.heap.size 1 A L.length (nums .u64 L)) (hc : L.length ≤ c) (hL : L.length ≤ 1000000) :
    Calls Try.prog 13 #[.slice A L.length c] w (CutPost L w) := by
  obtain ⟨i0, hi, hz0, hz1, hz2⟩ := info_parts tI_info
  have hfew := spansR_few (L := L) L.length 0 0 (by omega) (Nat.le_refl _) (Nat.zero_le _)
  refine (callsIn_wide (n := 6)).1 ?_
  refine callsIn_of_wp_marks Try.func13 rfl trivial ?_ rfl
  simp only [Try.ntmps13, List.size_toArray, List.length_cons, List.length_nil, Nat.reduceAdd, Nat.reduceSub, Array.replicate_succ, Array.replicate_zero, List.push_toArray, List.append_toArray, List.nil_append, List.cons_append]
  gi_wp2_with fail
  refine ⟨trivial, ?_⟩
  refine (callsIn_wide.2 (pieces_any A L.length c _)).mono ?_
  rintro e w' ⟨rfl, rfl⟩
  gi_wp2_with fail
  have bO := Boxed.new w 27 (.slice none 0 0)
  have bN := Boxed.new (w.alloc (.cells #[.slice none 0 0] 27)) 22 (.slice A L.length c)
  rw [World.size_alloc] at bN
  have hB0 : Below w.heap.size w ((w.alloc (.cells #[.slice none 0 0] 27)).alloc (.cells #[.slice A L.length c] 22)) := ((Below.refl _ w).alloc (Nat.le_refl _) _).alloc (by simp) _
  obtain ⟨W0, hW0⟩ : ∃ W, W = (w.alloc (.cells #[.slice none 0 0] 27)).alloc (.cells #[.slice A L.length c] 22) := ⟨_, rfl⟩
  have hz : W0.heap.size = w.heap.size + 2 := by rw [hW0]; simp
  rw [← hW0] at bN hB0 ⊢
  have bO0 : Boxed W0 w.heap.size 27 (.slice none 0 0) := by rw [hW0]; exact bO.alloc _
  have hrd : Reads W0 (w.heap.size + 2) 1 A L.length (nums .u64 L) := (h.keep fun p hp => hB0.cell hp).more (by omega)
  have hAo : 0 < L.length → ∀ ad, A = some ad → ad.block ≠ w.heap.size := by
    intro h0 ad e
    obtain ⟨ad', e', hb, -⟩ := h.2 h0
    rw [e] at e'
    cases e'
    omega
  clear hW0 bO
  refine wpIn_rangeFunc_ownG rfl (by omega) (gf := 38) (lb := #[.pointer (some ⟨w.heap.size + 1, 0, none⟩)]) rfl trivial (enters_of Try.func38 (by kernel_rfl) rfl)
    (pieces_stops (n0 := w.heap.size + 2) (bo := w.heap.size) (by omega) hc hL (by omega) (by omega) (by omega) hAo bN.cell hrd) KB.trans (fun W l o o' h1 h2 h3 h4 => KB.of_below (belowK_b (w := W0) (by omega) W l o o' h1 h2 h3 h4)) (Below.refl _ _) (fun _ => rfl)
    (fun pre W => (∃ v, Boxed W w.heap.size 27 v ∧ W.ownsRow (w.heap.size + 2) 3 1 v (szs pre).length (nums .i64 (szs pre)) ∧ True) ∧ Below w.heap.size W0 W)
    (fun _ _ _ => False)
    (OwnFrom.and (Go.Own.from (holdsRow_own (w.heap.size + 2) w.heap.size 27 3 1 (fun pre : List (Sp L.length) => (szs pre).length) (fun pre => nums .i64 (szs pre)) (fun _ _ => True)) _) (ownFrom_below (by omega) (by omega)))
    (fun _ _ _ _ _ hs _ _ => hs)
    ⟨⟨_, bO0, World.ownsRow_nil _ _ _ _, trivial⟩, Below.refl _ _⟩
    (fun x => { tmps := #[.slice A L.length c, undef, .slice none 0 0, .pointer (some ⟨w.heap.size, 0, none⟩), slV A c x.1.1 x.1.2, .slice A L.length c, .func (.func 38) #[] #[.pointer (some ⟨w.heap.size + 1, 0, none⟩)], slV A c x.1.1 x.1.2, undef, undef, undef, undef, undef, undef], defers := [] }) ?assign ?body ?done ?stop
  case assign =>
    intro l x W K hK
    gi_wp2
    exact hK
  case body =>
    rintro l pre x W ⟨⟨v, hv, hrow, -⟩, hB⟩ hlt
    have hcl := hv.cell
    have hzW : w.heap.size + 2 ≤ W.heap.size := by have := hB.size; omega
    unfold slV
    generalize (if c = x.1.1 then A else A.map (·.add x.1.1)) = AS
    have hx := x.2
    have hpl := Nat.le_of_eq (szs_len pre)
    gi_wp2_with (gi_at_builtin; refine wpListIn_append_own _ rfl _ _ 27 rfl (w.heap.size + 2) 3 i0 (.int .i64 0) 1 8 (by kernel_rfl) hi hz0 hz1 hz2 rfl (by decide) _ _ _ rfl (hrow.alloc _) ⟨W.heap.size, 0, none⟩ 1 1 [.int .i64 ((x.1.2 - x.1.1 : Nat) : Int)] rfl rfl (cell_one_new _ _ _) (by simp [Value.oneCell']) (by simp only [maxLen]; omega) (by omega) (by simp; omega) ?_; intro v' w1 hown' hgrow _; obtain ⟨g', cap', rfl⟩ := ownsRow_succ hown'; obtain ⟨hv1, hv2, hr2, hk2, hb2⟩ := hv.appended (by decide) (hrow.mono (Nat.le_add_right _ 2)) (by omega) (Nat.le_refl _) (hown'.mono (Nat.le_add_right _ 2)) hgrow; have hkb := KB.appended (bo := w.heap.size) (v' := .slice (some ⟨g', 0, none⟩) ((szs pre).length + 1) cap') hrow hzW hgrow; have hc1 := hv1.cell; have hf1 := hv1.frozen)
    exact ⟨hk2.from _, hkb, ⟨_, hv2, by rw [szs_snoc]; simpa [nums] using hown'.kept (grownBy_setCell' w1 w.heap.size _) (.inr (hv1.not_row (by decide) hown').symm), trivial⟩, hB.trans hb2⟩
  case done =>
    rintro D ys W hD hys ⟨⟨v, hv, hrow, -⟩, hB⟩ hK
    have hcl := hv.cell
    have hsz := szs_all hys
    gi_wp2
    refine ⟨by simp, .inl ⟨_, _, rfl, run_takeDeferred hK, ?_⟩⟩
    refine ⟨_, results_tmp rfl _ _ _, v, rfl, ?_, (hB0.trans hB).trans (belowK_b (w := w) (Nat.le_refl _) W D _ _ (by omega) hK rfl rfl)⟩
    rw [← hsz]
    have := ownsRow_putObj (hrow.mono (Nat.le_add_right _ 2)) (.deferred none) hK rfl
    unfold Go.Hm.Own
    rw [nums_length]
    exact this
  case stop =>
    rintro D c pre W _ _ h _
    exact h.elim

end Go.Proofs.Ytlelepopdjoedaa
