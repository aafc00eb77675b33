/- Texts merged, for a claim has at most 60 files: RunI, RunK, RunL, RunB, RunD, RunV, RunY, DicC, DicD, SmallDi. -/
import Derived.Deep.Onto
import Derived.Laws.OwnMore
import Derived.LoopIn
import Derived.LoopNIn
import Derived.Maps.AppendAt
import Derived.OrdersIn
import Derived.OwnWalkIn
import Derived.RangeFuncBound
import Derived.RangeFuncBox
import Derived.RangeFuncCalls
import Derived.RangeFuncLeaves
import Derived.RangeFuncNested
import Derived.RangeFuncWrites
import Derived.Shelf.Abstract
import Derived.Shelf.RegionOpen
import Derived.TacticsInMore
import Derived.Test.YtnghjkihdcmoiaaBun2
import Derived.Test.YtnghjkihdcmoiaaBun3
import Derived.Test.YtnghjkihdcmoiaaBun4
import Derived.WalkKit
/- The iterator over runs and rests: runs.pieces. -/

namespace Go.Hm
/-- Some of a row. -/
def seg (l : List Nat) (a b : Nat) : List Nat := (l.drop a).take (b - a)
theorem seg_len {l : List Nat} {a b : Nat} (h : b ≤ l.length) : (seg l a b).length = b - a := by
  unfold seg
  rw [List.length_take, List.length_drop]
  omega
/-- Where the pieces are, rests from f on, what was not looked at from a on. -/
def spansR (l : List Nat) (f a : Nat) : List (Nat × Nat) :=
  if _h : l.length ≤ a then (if f < l.length then [(f, l.length)] else [])
  else if 4 ≤ st (l.drop a) then (if f < a then [(f, a)] else []) ++ ((a, a + st (l.drop a)) :: spansR l (a + st (l.drop a)) (a + st (l.drop a)))
  else spansR l f (a + st (l.drop a))
termination_by l.length - a
decreasing_by
  · have := st_pos (l := l.drop a) (by rw [List.length_drop]; omega)
    omega
  · have := st_pos (l := l.drop a) (by rw [List.length_drop]; omega)
    omega
theorem spansR_end {l : List Nat} {f a : Nat} (h : l.length ≤ a) : spansR l f a = if f < l.length then [(f, l.length)] else [] := by rw [spansR, dif_pos h]
theorem spansR_run {l : List Nat} {f a : Nat} (h : a < l.length) (h4 : 4 ≤ st (l.drop a)) : spansR l f a = (if f < a then [(f, a)] else []) ++ ((a, a + st (l.drop a)) :: spansR l (a + st (l.drop a)) (a + st (l.drop a))) := by
  rw [spansR, dif_neg (by omega), if_pos h4]
theorem spansR_rest {l : List Nat} {f a : Nat} (h : a < l.length) (h4 : ¬ 4 ≤ st (l.drop a)) : spansR l f a = spansR l f (a + st (l.drop a)) := by
  rw [spansR, dif_neg (by omega), if_neg h4]
theorem seg_next {l : List Nat} {f a k : Nat} (h : f ≤ a) : seg l f a ++ (l.drop a).take k = seg l f (a + k) := by
  unfold seg
  have e : (l.drop f).take (a + k - f) = (l.drop f).take (a - f) ++ ((l.drop f).drop (a - f)).take k := by
    rw [show a + k - f = (a - f) + k by omega, List.take_add]
  rw [e, List.drop_drop, show f + (a - f) = a by omega]
theorem seg_nil {l : List Nat} {a : Nat} : seg l a a = [] := by simp [seg]
/-- Pieces, and where they are. -/
theorem spansR_cut {l : List Nat} : ∀ (k f a : Nat), l.length - a ≤ k → f ≤ a → a ≤ l.length → (spansR l f a).map (fun p => seg l p.1 p.2) = cutP (seg l f a) (l.drop a) := by
  intro k
  induction k with
  | zero =>
    intro f a hk hf ha
    obtain rfl : a = l.length := by omega
    have hs : (seg l f l.length).length = l.length - f := seg_len (Nat.le_refl _)
    rw [spansR_end (Nat.le_refl _), List.drop_length, cutP_nil]
    unfold restL
    by_cases h : f < l.length
    · rw [if_pos h, if_neg (by omega)]
      rfl
    · rw [if_neg h, if_pos (by omega)]
      rfl
  | succ k ih =>
    intro f a hk hf ha
    by_cases he : a = l.length
    · subst he
      exact ih f l.length (by omega) hf (Nat.le_refl _)
    have hl : (l.drop a).length = l.length - a := List.length_drop
    have hp := st_pos (l := l.drop a) (by omega)
    have hb := (st_spec (l.drop a)).1
    by_cases h4 : 4 ≤ st (l.drop a)
    · rw [spansR_run (by omega) h4, cutP_run (by omega) h4, List.map_append, List.map_cons, ih _ _ (by omega) (Nat.le_refl _) (by omega), seg_nil, List.drop_drop]
      have e1 : seg l a (a + st (l.drop a)) = (l.drop a).take (st (l.drop a)) := by unfold seg; rw [Nat.add_sub_cancel_left]
      have hs : (seg l f a).length = a - f := seg_len ha
      rw [e1]
      unfold restL
      by_cases h : f < a
      · rw [if_pos h, if_neg (by omega)]
        rfl
      · rw [if_neg h, if_pos (by omega)]
        rfl
    · rw [spansR_rest (by omega) h4, cutP_rest (by omega) h4, ih _ _ (by omega) (by omega) (by omega), seg_next hf, List.drop_drop]
theorem spansR_pcs (l : List Nat) : (spansR l 0 0).map (fun p => seg l p.1 p.2) = pcs l := by
  have := spansR_cut (l := l) l.length 0 0 (by omega) (Nat.le_refl _) (Nat.zero_le _)
  rw [seg_nil, List.drop_zero] at this
  exact this
/-- Spans of a row. -/
abbrev Sp (n : Nat) := { p : Nat × Nat // p.1 ≤ p.2 ∧ p.2 ≤ n }

end Go.Hm

namespace Go.Proofs.Ytnghjkihdcmoiaa
open Go.RowKit Go.Hm Go.Shelf
attribute [local go_sem] Oper.semAt_some
theorem sU : Try.prog.underlying 33 = some (.slice (Try.prog.elem 33)) := by kernel_rfl
theorem zU (w : World) : (sizeOf (Try.prog.elem 33)).run Try.prog w = .ok 1 w := by kernel_rfl
def slV (A : Option Addr) (c f t : Nat) : Value := .slice (if c = f then A else A.map (·.add f)) (t - f) (c - f)
theorem uslice_lh (A : Option Addr) (n c l h : Nat) (h1 : l ≤ h) (h2 : h ≤ c) (w : World) : (Instr.sliceAt 33 (.slice A n c) (some (.int .i64 (l : Int))) (some (.int .i64 (h : Int))) none).run Try.prog w = .ok (slV A c l h) w := by
  rw [run_sliceAt_slice w _ _ _ _ _ sU, run_slice_lh w _ A n c sU .i64 .i64 (l : Int) (h : Int) (by omega) (by omega) (by omega), zU]
  simp [Result.andThen, sliced, slV]
theorem uslice_l (A : Option Addr) (n c l : Nat) (h1 : l ≤ n) (w : World) : (Instr.sliceAt 33 (.slice A n c) (some (.int .i64 (l : Int))) none none).run Try.prog w = .ok (slV A c l n) w := by
  rw [run_sliceAt_slice w _ _ _ _ _ sU, run_slice_l w _ A n c sU .i64 (l : Int) (by omega) (by omega), zU]
  simp [Result.andThen, sliced, slV]
theorem reads_seg {w : World} {A : Option Addr} {c f t B : Nat} {L : List Nat} (h : Reads w B 1 A L.length (nums .u64 L)) (hc : L.length ≤ c) (h1 : f ≤ t) (h2 : t ≤ L.length) : Reads w B 1 (if c = f then A else A.map (·.add f)) (seg L f t).length (nums .u64 (seg L f t)) := by
  have a := h.cut (k := f) (cap := c) (by omega) hc
  rw [nums_drop] at a
  have b := a.take (k := t - f) (by omega)
  rw [nums_take] at b
  simp only [Nat.mul_one] at b
  rw [seg_len h2]
  exact b
/-- What lay below n0 lies as it lay, but for one block. -/
def KB (n0 bo : Nat) (W W' : World) : Prop := W.heap.size ≤ W'.heap.size ∧ ∀ k, k < n0 → k ≠ bo → W'.heap[k]? = W.heap[k]?
theorem KB.refl (n0 bo : Nat) (W : World) : KB n0 bo W W := ⟨Nat.le_refl _, fun _ _ _ => rfl⟩
theorem KB.trans {n0 bo : Nat} {a b c : World} (h : KB n0 bo a b) (k : KB n0 bo b c) : KB n0 bo a c := ⟨Nat.le_trans h.1 k.1, fun i h1 h2 => (k.2 i h1 h2).trans (h.2 i h1 h2)⟩
theorem KB.new {n0 bo : Nat} {W W' : World} (h : New W W') (hn : n0 ≤ W.heap.size) : KB n0 bo W W' := ⟨h.size, fun k h1 _ => h.block k (by omega)⟩
theorem KB.cell {n0 bo : Nat} {W W' : World} (h : KB n0 bo W W') {p : Addr} (h1 : p.block < n0) (h2 : p.block ≠ bo) : W'.cell? p = W.cell? p := World.cell?_of_block (h.2 _ h1 h2)
theorem KB.reads {n0 bo n : Nat} {W W' : World} {A : Option Addr} {xs : List Value} (h : KB n0 bo W W') (r : Reads W n0 1 A n xs) (hA : 0 < n → ∀ ad, A = some ad → ad.block ≠ bo) : Reads W' n0 1 A n xs :=
  ⟨r.1, fun hn => by
    obtain ⟨ad, e, hb, hc⟩ := r.2 hn
    exact ⟨ad, e, hb, fun j u hu => (h.cell (by rw [block_of_add]; exact hb) (by rw [block_of_add]; exact hA hn ad e)).trans (hc j u hu)⟩⟩
theorem grown_new0 {w w' : World} (h : New w w') : w.grownBy w' none := ⟨h.os, h.tape, h.output, h.size, fun k hk _ => h.block k hk⟩
theorem seg_drop {L : List Nat} {a : Nat} : seg L a L.length = L.drop a := by
  unfold seg
  exact List.take_of_length_le (by rw [List.length_drop]; exact Nat.le_refl _)
def PcPost {n : Nat} (L : List Nat) (J Jx : List (Sp n) → World → Prop) (e : Ending) (W' : World) : Prop :=
  (∃ v, e = .returned v) ∧ ((∃ ys : List (Sp n), ys.map Subtype.val = spansR L 0 0 ∧ J ys W') ∨ (∃ pre, Jx pre W'))
set_option maxRecDepth 100000 in
set_option maxHeartbeats 4000000 in
theorem pieces1_in {m l bx bo n0 c : Nat} {A : Option Addr} {L : List Nat} (hm : 1 ≤ m) (hc : L.length ≤ c) (hL : L.length ≤ 1000000) (J Jx : List (Sp L.length) → World → Prop) (hJ : ∀ s W W', J s W → New W W' → J s W')
    (hY : ∀ pre x W, J pre W → pre.length < (spansR L 0 0).length → YieldAt Fence.wide (m - 1) Try.prog l #[slV A c x.1.1 x.1.2] W fun e W' =>
      (e = .returned (.bool true) ∧ J (pre ++ [x]) W' ∧ KB n0 bo W W') ∨ (e = .returned (.bool false) ∧ Jx (pre ++ [x]) W'))
    (W : World) (hn0 : n0 ≤ W.heap.size) (hbx : bx < n0) (hbo : bx ≠ bo) (hA : 0 < L.length → ∀ ad, A = some ad → ad.block ≠ bo) (hcx : W.cell? ⟨bx, 0, none⟩ = some (.slice A L.length c)) (hr : Reads W n0 1 A L.length (nums .u64 L)) (h0 : J [] W) :
    CallsIn Fence.wide m Try.prog 47 #[.func (.yield l) #[] #[], .pointer (some ⟨bx, 0, none⟩)] W (PcPost L J Jx) := by
  have HJ := Lib.hid hJ
  have HY := Lib.hid hY
  have HR := Lib.hid hr
  have HA := Lib.hid hA
  clear hJ hY hr hA
  refine callsIn_of_wp Try.func47 rfl trivial ?_ rfl
  simp only [Try.ntmps47, List.size_toArray, List.length_cons, List.length_nil, Nat.reduceAdd, Nat.reduceSub, Array.replicate_succ, Array.replicate_zero, List.push_toArray, List.append_toArray, List.nil_append, List.cons_append]
  gi_wp2
  gi_loopw [3, 4] (fun vf va wr => ∃ (f a : Nat) (pre : List (Sp L.length)), vf = .int .i64 (f : Int) ∧ va = .int .i64 (a : Int) ∧ f ≤ a ∧ a ≤ L.length ∧ Hid (pre.map Subtype.val ++ spansR L f a = spansR L 0 0) ∧ Hid (J pre wr) ∧ KB n0 bo W wr)
    (fun _ va _ => L.length - (intOf va).toNat)
  case atStart => exact ⟨0, 0, [], rfl, rfl, Nat.le_refl _, Nat.zero_le _, Lib.hid rfl, Lib.hid h0, KB.refl _ _ _⟩
  case round =>
    obtain ⟨f, a, pre, rfl, rfl, hfa, haL, hsp, hJs, hnx⟩ := hrel
    have hcr : wr.cell? ⟨bx, 0, none⟩ = some (.slice A L.length c) := (hnx.cell (p := ⟨bx, 0, none⟩) hbx hbo).trans hcx
    by_cases hlt : a < L.length
    · have hp := st_pos (l := L.drop a) (by rw [List.length_drop]; omega)
      have hb := (st_spec (L.drop a)).1
      rw [List.length_drop] at hb
      have sr := spansR_run (l := L) (f := f) hlt
      have ss := spansR_rest (l := L) (f := f) hlt
      obtain ⟨ad, hA, -⟩ := HR.out.2 (by omega)
      subst hA
      have hsz : n0 ≤ wr.heap.size := Nat.le_trans hn0 hnx.1
      have hca : ¬ c = a := by omega
      have rs := reads_seg ((hnx.reads HR.out HA.out).more hsz) hc (f := a) (t := L.length) (by omega) (Nat.le_refl _)
      rw [if_neg hca, seg_drop] at rs
      have ST := stretch_any (c := c - a) rs (by rw [List.length_drop]; omega)
      rw [List.length_drop] at ST
      have ST := Lib.hid (show CallsIn Fence.wide (m - 1) Try.prog 48 #[.slice (some (ad.add a)) (L.length - a) (c - a)] wr _ from callsIn_wide.2 ST)
      have hcf : ¬ c = f := by omega
      obtain ⟨n1, hn1⟩ : ∃ n, n = st (L.drop a) := ⟨_, rfl⟩
      rw [← hn1] at hp hb sr ss ST
      have HN1 := Lib.hid hn1
      have SR := Lib.hid sr
      have SS := Lib.hid ss
      clear hn1 sr ss rs
      by_cases h4 : 4 ≤ n1
      · have d4 : decide ((4 : Int) ≤ (n1 : Int)) = true := decide_eq_true (by omega)
        have hsp' := SR.out h4
        by_cases hf : f < a
        · rw [if_pos hf] at hsp'
          have hsp1 := Lib.hid (show pre.map Subtype.val ++ [(f, a)] ++ [(a, a + n1)] ++ spansR L (a + n1) (a + n1) = spansR L 0 0 by
            rw [← hsp.out, hsp', List.append_assoc, List.append_assoc]
            rfl)
          clear hsp'
          gi_wp2_with fail
          refine ⟨trivial, ?_⟩
          refine ST.out.mono ?_
          rintro e w2 ⟨rfl, b2⟩
          have hJ2 := HJ.out _ _ _ hJs.out b2
          have hcr2 : w2.cell? ⟨bx, 0, none⟩ = some (.slice (some ad) L.length c) := (Below.cell b2 (p := ⟨bx, 0, none⟩) (by show bx < wr.heap.size; omega)).trans hcr
          have hpl : pre.length < (spansR L 0 0).length := by
            have := congrArg List.length hsp1.out
            simp only [List.length_append, List.length_map, List.length_cons, List.length_nil] at this
            omega
          obtain ⟨fn, tmps, assign, body, hy, hR⟩ := HY.out pre ⟨(f, a), by omega, by omega⟩ w2 hJ2 hpl
          unfold slV at hy
          rw [if_neg hcf] at hy
          dsimp only [Option.map_some] at hy
          have b20 := hnx.trans (KB.new b2 hsz)
          gi_wp2_with fail
          refine hR.mono ?_
          rintro e w3 (⟨rfl, hJ3, hk3⟩ | ⟨rfl, hJx3⟩)
          rotate_left
          · gi_wp2
            refine ⟨fun _ h => (by cases h), ?_⟩
            gi_wp2
            refine bodyPost_ret (results_none rfl _ _ _) rfl ?_
            exact ⟨⟨_, rfl⟩, .inr ⟨_, hJx3⟩⟩
          have b30 := b20.trans hk3
          clear hy hR hcr2
          have hcr3 : w3.cell? ⟨bx, 0, none⟩ = some (.slice (some ad) L.length c) := (b30.cell (p := ⟨bx, 0, none⟩) hbx hbo).trans hcx
          have hpl2 : (pre ++ [(⟨(f, a), by omega, by omega⟩ : Sp L.length)]).length < (spansR L 0 0).length := by
            have := congrArg List.length hsp1.out
            simp only [List.length_append, List.length_map, List.length_cons, List.length_nil] at this ⊢
            omega
          obtain ⟨fn2, tmps2, assign2, body2, hy2, hR2⟩ := HY.out (pre ++ [(⟨(f, a), by omega, by omega⟩ : Sp L.length)]) ⟨(a, a + n1), by omega, by omega⟩ w3 hJ3 hpl2
          unfold slV at hy2
          rw [if_neg hca] at hy2
          dsimp only [Option.map_some] at hy2
          rw [Nat.add_sub_cancel_left] at hy2
          gi_wp2_with fail
          refine hR2.mono ?_
          rintro e w4 (⟨rfl, hJ4, hk4⟩ | ⟨rfl, hJx4⟩)
          · have b40 := b30.trans hk4
            gi_wp2
            go_roundw
            case rel => exact ⟨a + n1, a + n1, _, by go_num, by go_num, Nat.le_refl _, by omega, Lib.hid (by simpa using hsp1.out), Lib.hid hJ4, b40⟩
            case measure => simp [intOf]; omega
          · gi_wp2
            refine bodyPost_ret (results_none rfl _ _ _) rfl ?_
            exact ⟨⟨_, rfl⟩, .inr ⟨_, hJx4⟩⟩
        · rw [if_neg hf] at hsp'
          have hsp1 := Lib.hid (show pre.map Subtype.val ++ [(a, a + n1)] ++ spansR L (a + n1) (a + n1) = spansR L 0 0 by
            rw [← hsp.out, hsp', List.append_assoc]
            rfl)
          clear hsp'
          gi_wp2_with fail
          refine ⟨trivial, ?_⟩
          refine ST.out.mono ?_
          rintro e w2 ⟨rfl, b2⟩
          have hJ2 := HJ.out _ _ _ hJs.out b2
          have b20 := hnx.trans (KB.new b2 hsz)
          have hcr3 : w2.cell? ⟨bx, 0, none⟩ = some (.slice (some ad) L.length c) := (b20.cell (p := ⟨bx, 0, none⟩) hbx hbo).trans hcx
          have hpl2 : (pre).length < (spansR L 0 0).length := by
            have := congrArg List.length hsp1.out
            simp only [List.length_append, List.length_map, List.length_cons, List.length_nil] at this ⊢
            omega
          obtain ⟨fn2, tmps2, assign2, body2, hy2, hR2⟩ := HY.out (pre) ⟨(a, a + n1), by omega, by omega⟩ w2 hJ2 hpl2
          unfold slV at hy2
          rw [if_neg hca] at hy2
          dsimp only [Option.map_some] at hy2
          rw [Nat.add_sub_cancel_left] at hy2
          gi_wp2_with fail
          refine ⟨fun _ h => (by cases h), ?_⟩
          gi_wp2_with fail
          refine hR2.mono ?_
          rintro e w4 (⟨rfl, hJ4, hk4⟩ | ⟨rfl, hJx4⟩)
          · have b40 := b20.trans hk4
            gi_wp2
            go_roundw
            case rel => exact ⟨a + n1, a + n1, _, by go_num, by go_num, Nat.le_refl _, by omega, Lib.hid (by simpa using hsp1.out), Lib.hid hJ4, b40⟩
            case measure => simp [intOf]; omega
          · gi_wp2
            refine bodyPost_ret (results_none rfl _ _ _) rfl ?_
            exact ⟨⟨_, rfl⟩, .inr ⟨_, hJx4⟩⟩
      · have hsp' := Lib.hid (show pre.map Subtype.val ++ spansR L f (a + n1) = spansR L 0 0 by rw [← SS.out h4]; exact hsp.out)
        have d4 : decide ((4 : Int) ≤ (n1 : Int)) = false := decide_eq_false (by omega)
        gi_wp2_with fail
        refine ⟨trivial, ?_⟩
        refine ST.out.mono ?_
        rintro e w2 ⟨rfl, b2⟩
        have hJ2 := Lib.hid (HJ.out _ _ _ hJs.out b2)
        have b20 := Lib.hid (hnx.trans (KB.new b2 hsz))
        clear SR SS HN1 b2 ST hsp
        gi_wp2
        go_roundw
        case rel => exact ⟨f, a + n1, pre, rfl, by go_num, by omega, by omega, hsp', hJ2, b20.out⟩
        case measure => simp [intOf]; omega
    · obtain rfl : a = L.length := by omega
      have se := spansR_end (l := L) (f := f) (Nat.le_refl _)
      by_cases hf : f < L.length
      · rw [if_pos hf] at se
        have hsp1 := Lib.hid (show pre.map Subtype.val ++ [(f, L.length)] = spansR L 0 0 by rw [← se]; exact hsp.out)
        have hpl : pre.length < (spansR L 0 0).length := by
          have := congrArg List.length hsp1.out
          simp only [List.length_append, List.length_map, List.length_cons, List.length_nil] at this
          omega
        obtain ⟨ad, hA, -⟩ := HR.out.2 (by omega)
        subst hA
        have hcf : ¬ c = f := by omega
        obtain ⟨fn, tmps, assign, body, hy, hR⟩ := HY.out pre ⟨(f, L.length), by omega, by omega⟩ wr hJs.out hpl
        unfold slV at hy
        rw [if_neg hcf] at hy
        dsimp only [Option.map_some] at hy
        clear se hsp
        gi_wp2_with fail
        refine hR.mono ?_
        rintro e W3 (⟨rfl, hJ3, hk3⟩ | ⟨rfl, hJx3⟩)
        · gi_wp2
          go_end0
          exact ⟨⟨_, rfl⟩, .inl ⟨_, by simpa using hsp1.out, hJ3⟩⟩
        · gi_wp2
          go_end0
          exact ⟨⟨_, rfl⟩, .inr ⟨_, hJx3⟩⟩
      · rw [if_neg hf] at se
        have hsp1 := Lib.hid (show pre.map Subtype.val = spansR L 0 0 by rw [← hsp.out, se, List.append_nil])
        clear se hsp
        gi_wp2
        go_end0
        exact ⟨⟨_, rfl⟩, .inl ⟨_, hsp1.out, hJs.out⟩⟩
def PiecesPost (A : Option Addr) (n c : Nat) (w : World) (e : Ending) (w' : World) : Prop := e = .returned (.func (.func 47) #[] #[.pointer (some ⟨w.heap.size, 0, none⟩)]) ∧ w' = w.alloc (.cells #[.slice A n c] 33)
theorem pieces_any (A : Option Addr) (n c : Nat) (w : World) : Calls Try.prog 30 #[.slice A n c] w (PiecesPost A n c w) := by
  have hmf : ∀ (fn : Fn) (first cap : Array Value) (w : World), (Instr.makeFunc fn first cap).run Try.prog w = .ok (.func fn first cap) w := fun _ _ _ _ => rfl
  go_enter Try.func30, Try.ntmps30
  go_wp2
  go_ret
  exact ⟨by simp, rfl⟩
theorem pieces_stops {m bx bo n0 c : Nat} {A : Option Addr} {L : List Nat} (hm : 1 ≤ m) (hc : L.length ≤ c) (hL : L.length ≤ 1000000) {w : World} (hn0 : n0 ≤ w.heap.size) (hbx : bx < n0) (hbo : bx ≠ bo) (hA : 0 < L.length → ∀ ad, A = some ad → ad.block ≠ bo) (hcx : w.cell? ⟨bx, 0, none⟩ = some (.slice A L.length c)) (hr : Reads w n0 1 A L.length (nums .u64 L)) :
    SeqStopsK Fence.wide m Try.prog 47 #[.pointer (some ⟨bx, 0, none⟩)] (fun x : Sp L.length => #[slV A c x.1.1 x.1.2]) (KB n0 bo) (fun ys => ys.map Subtype.val = spansR L 0 0) (fun _ => True) (spansR L 0 0).length w := fun l J Jx W hW hJ _ hY h0 => by
  refine (pieces1_in (n0 := n0) (bo := bo) hm hc hL J Jx (fun s W1 W2 hj hn => hJ s W1 W2 none hj (grown_new0 hn) (fun _ e => by cases e)) hY W (Nat.le_trans hn0 hW.size) hbx hbo hA ((hW.cell (p := ⟨bx, 0, none⟩) (by show bx < _; omega)).trans hcx) (hr.keep fun p hp => hW.cell (by omega)) h0).mono ?_
  rintro e W' ⟨he, ⟨ys, h1, h2⟩ | ⟨pre, h⟩⟩
  · exact ⟨he, .inl ⟨ys, h1, h2⟩⟩
  · exact ⟨he, .inr ⟨pre, trivial, h⟩⟩

end Go.Proofs.Ytnghjkihdcmoiaa
/- The contract of runs.Cut. -/

namespace Go.Proofs.Ytnghjkihdcmoiaa
open Go.RowKit Go.Hm Go.Shelf
attribute [local go_sem] Oper.semAt_some
theorem KB.of_below {n0 bo : Nat} {W W' : World} (h : Below n0 W W') : KB n0 bo W W' := ⟨h.size, fun k h1 _ => h.block k h1⟩
/-- The sizes of spans. -/
def szs {n : Nat} (pre : List (Sp n)) : List Nat := pre.map fun x => x.1.2 - x.1.1
theorem KB.appended {n0 bo : Nat} {W w1 : World} {e : TypeId} {size k : Nat} {v v' : Value} {xs : List Value} {tmp : Obj} (hrow : W.ownsRow n0 e size v k xs) (hn : n0 ≤ W.heap.size) (hgrow : (W.alloc tmp).grownBy w1 v.ownBlock) : KB n0 bo W (w1.setCell ⟨bo, 0, none⟩ v') := by
  refine ⟨?_, fun i h1 h2 => ?_⟩
  · have := hgrow.size
    have h2 := (KeepsWalks.setCell w1 ⟨bo, 0, none⟩ v').size
    rw [World.size_alloc] at this
    omega
  · refine (Below.heap_setCell _ _ _ i h2).trans ((hgrow.block i (by rw [World.size_alloc]; omega) ?_).trans (Below.heap_alloc _ _ _ (by omega)))
    rcases hrow.2 with ⟨rfl, _⟩ | ⟨g, cap, cur, rfl, hb, _, _⟩
    · simp [Value.ownBlock]
    · intro e
      obtain rfl : i = g := by simpa [Value.ownBlock] using e
      omega
theorem szs_snoc {n : Nat} (pre : List (Sp n)) (x : Sp n) : szs (pre ++ [x]) = szs pre ++ [x.1.2 - x.1.1] := by simp [szs]
theorem szs_len {n : Nat} (pre : List (Sp n)) : (szs pre).length = pre.length := by simp [szs]
def CutPost (L : List Nat) (w : World) (e : Ending) (w' : World) : Prop := ∃ v, e = .returned v ∧ Go.Hm.Own w' w.heap.size 3 v (nums .i64 (cuts L)) ∧ Below w.heap.size w w'
theorem tI_info : (Try.prog.info? 3).map (fun i => (i.zero, i.size, i.bytes)) = some (some (.int .i64 0), 1, 8) := by kernel_rfl
theorem szs_all {L : List Nat} {ys : List (Sp L.length)} (h : ys.map Subtype.val = spansR L 0 0) : szs ys = cuts L := by
  unfold cuts szs
  rw [← spansR_pcs, ← h, List.map_map, List.map_map]
  refine List.map_congr_left fun x _ => ?_
  simp only [Function.comp]
  rw [seg_len x.2.2]
theorem spansR_few {L : List Nat} : ∀ (k f a : Nat), L.length - a ≤ k → f ≤ a → a ≤ L.length → (spansR L f a).length ≤ 2 * (L.length - a) + 1 := by
  intro k
  induction k with
  | zero =>
    intro f a hk hf ha
    rw [spansR_end (by omega)]
    split <;> simp
  | succ k ih =>
    intro f a hk hf ha
    by_cases he : L.length ≤ a
    · rw [spansR_end he]
      split <;> simp
    have hp := st_pos (l := L.drop a) (by rw [List.length_drop]; omega)
    have hb := (st_spec (L.drop a)).1
    rw [List.length_drop] at hb
    by_cases h4 : 4 ≤ st (L.drop a)
    · rw [spansR_run (by omega) h4, List.length_append, List.length_cons]
      have := ih (a + st (L.drop a)) (a + st (L.drop a)) (by omega) (Nat.le_refl _) (by omega)
      split <;> simp <;> omega
    · rw [spansR_rest (by omega) h4]
      have := ih f (a + st (L.drop a)) (by omega) (by omega) (by omega)
      omega

end Go.Proofs.Ytnghjkihdcmoiaa
/- What runs.layRest lays; regions that draw their order, in a round of a loop over a function. -/

namespace Go.Hm
open Go.RowKit

section
variable {P : Program} {ops : Array Oper} {Q : Exit → Act → World → Prop} {l n : Nat}
theorem upon_in {o : Oper} {a : Act} {K : Act → World → Prop} : ∀ {r : Result Next}, o.upon P a K Q r → o.uponIn (Fence.wide.inRound l) n P a K Q r
  | .ok (.value _) _, h => h
  | .ok .skip _, h => h
  | .ok (.defer _) _, h => h
  | .ok (.enter _ _) _, h => ⟨fun e => (by cases e), CallsIn.inRound l (callsIn_wide.2 h)⟩
  | .ok (.row _ _) _, h => ⟨fun e => (by cases e), fun c cs _ => (match h c cs with | ⟨v, w', r, s⟩ => ⟨v, w', r, stepsIn_wide.2 s⟩)⟩
  | .ok (.round _ _ _ _ _) _, h => h.elim
  | .halt (.panic _) _, h => h
  | .halt (.unsupported _) _, h => h.elim
  | .halt .blocked _, h => h.elim
  | .halt .waiting _, h => h.elim
  | .halt _ _, h => by
    revert h
    rename_i x w
    cases x <;> intro h <;> first | exact h | exact h.elim
def noDef (ops : Array Oper) : Bool := ops.all fun o => match o.op with
  | .defer _ => false
  | _ => true
theorem noDef_spec (h : noDef ops = true) {i : Nat} {o : Oper} (hi : ops[i]? = some o) : ∀ c, o.op ≠ .defer c := by
  intro c hc
  unfold noDef at h
  rw [Array.all_eq_true] at h
  obtain ⟨hlt, rfl⟩ := Array.getElem?_eq_some_iff.1 hi
  have := h i hlt
  rw [hc] at this
  cases this
theorem op_in {o : Oper} {a : Act} {w : World} {K : Act → World → Prop} (hd : ∀ c, o.op ≠ .defer c) (h : o.wp P a w K Q) : o.wpIn (Fence.wide.inRound l) n P a w K Q :=
  ⟨fun _ _ => trivial, by rw [Oper.semAt_plain _ _ _ hd]; exact upon_in h⟩
theorem any_in {md : Region.Mode} (hno : ¬ LetsOut Q) (hd : noDef ops = true) : ∀ (fuel : Nat) (listed : Array Bool) (a : Act) (w : World), wpAny P md ops Q fuel listed a w → wpAnyIn (Fence.wide.inRound l) n P md ops Q fuel listed a w
  | 0, _, _, _, h => h
  | fuel + 1, listed, a, w, h => ⟨h.1, fun i hi => by
    have h1 := h.2 i hi
    unfold wpOp at h1
    unfold wpOpIn
    cases ho : ops[i]? with
    | none =>
      rw [ho] at h1
      exact any_in hno hd fuel _ _ _ h1
    | some o =>
      rw [ho] at h1
      dsimp only at h1 ⊢
      split
      · rename_i hw
        rw [if_pos hw] at h1
        rcases h1 with h1 | h1
        · exact Oper.wpIn_mono (fun a w h => any_in hno hd fuel _ a w h) (op_in (noDef_spec hd ho) h1)
        · exact absurd h1.2 hno
      · rename_i hw
        rw [if_neg hw] at h1
        exact ⟨fun _ _ => trivial, any_in hno hd fuel _ _ _ h1⟩⟩
theorem wpIn_region_upT {id : Nat} {a : Act} {w : World} (R : World → World → Prop) (t0 : Nat) (ord : List (Nat × Nat)) (hrefl : ∀ w, R w w) (htrans : ∀ {x y z}, R x y → R y z → R x z) (hm : P.follows .mixedOrders = true)
    (hno : ∀ a w, ¬ Q .outgrown a w) (hd : noDef ops = true) (hs : Region.noSelect ops = true) (hl : (decide (ord.length ≤ ops.size) && ord.all fun x => decide (x.2 < ops.size)) = true) (hok : upOkT ops t0 (Array.replicate ops.size false) ord = true) (h : wpUpT P ops R Q t0 ord false a w.drew) : (Code.region id ops true).wpIn (Fence.wide.inRound l) n P Q a w := by
  simp only [Bool.and_eq_true, decide_eq_true_eq, List.all_eq_true] at hl
  refine wpIn_mono (wpIn_region_any (Q := NoPanic Q) hm (any_in ?_ hd _ _ _ _ (wpAny_of_T _ _ _ _ (wpAnyT_of_up hrefl htrans hs ord ops.size _ false a _ (by simp) ?_ hl.1 hok h)))) NoPanic.imp
  · rintro ⟨a, w, h⟩
    exact hno a w h
  · intro i hi
    simp only [List.mem_map] at hi
    obtain ⟨x, hx, rfl⟩ := hi
    rw [Array.size_replicate]
    exact hl.2 x hx
end

end Go.Hm

namespace Go.Proofs.Ytnghjkihdcmoiaa
open Go.RowKit Go.Hm
/-- A rest's bytes behind the number of its length. -/
def restB (L : List Nat) : List Nat := wid L :: low (pk (wid L) L) ((wid L * L.length + 7) / 8)
set_option maxRecDepth 100000 in
theorem layRest_any {w : World} {A : Option Addr} {c : Nat} {L : List Nat} (h : Reads w w.heap.size 1 A L.length (nums .u64 L)) (hL : ∀ x ∈ L, x ≤ 18446744073709551615) (hl : L.length ≤ 65536) :
    Calls Try.prog 32 #[.slice A L.length c] w (OptB (some (restB L)) w) := by
  have W := Lib.hid (width_any (c := c) h hL (by omega))
  have hw := wid_le L hL
  have PO := packO_some L (wid L) hw hl (Nat.le_refl _)
  have hn : (wid L * L.length + 7) / 8 ≤ 524288 := by
    have := Nat.mul_le_mul hw hl
    omega
  have K := Lib.hid (pack_any (c := c) (wid L : Int) h hL (by omega) (by omega) (by omega))
  rw [PO] at K
  have hlen : (low (pk (wid L) L) ((wid L * L.length + 7) / 8)).length = (wid L * L.length + 7) / 8 := low_len _ _
  have HP : Hid (restB L = [wid L] ++ low (pk (wid L) L) ((wid L * L.length + 7) / 8)) := Lib.hid rfl
  clear PO hL
  generalize restB L = RB at *
  generalize low (pk (wid L) L) ((wid L * L.length + 7) / 8) = B at *
  generalize (wid L * L.length + 7) / 8 = m at *
  generalize wid L = q at *
  subst hlen
  go_enter Try.func32, Try.ntmps32
  go_wp2_with fail
  refine W.out.mono ?_
  rintro e w1 ⟨rfl, rfl⟩
  go_wp2_with fail
  refine K.out.mono ?_
  rintro e w2 ⟨A2, n2, c2, rfl, o2, b2⟩
  obtain rfl : n2 = B.length := by have := o2.len; rwa [nums_length] at this
  clear W K
  have hwq : IntKind.u8.wrap (q : Int) = (q : Int) := by rw [IntKind.wrap_u8]; omega
  go_wp2_with (first
    | (refine wpList_pushesN elB rfl (.tmp 17) (.tmp 18) rfl (W := w) (B := w.heap.size) (k := .u8) (l := [q]) (l2 := B) (c2 := c2) (World.ownsRow_lit (e := 5) (size := 1) (base := w.heap.size) w2 #[.int .u8 (q : Int)] 1 b2.size (by decide) rfl) ((o2.reads.alloc (Nat.le_refl _) _).more (by simp)) rfl rfl (b2.alloc b2.size _) (Nat.le_refl _) (by have := b2.size; simp; omega) (by omega) (by simp only [maxLen]; omega) ?_
       intro A3 c3 w3 _ _ o3 _ b3 _))
  go_ret2
  refine ⟨A3, _, c3, rfl, ?_, b3⟩
  rw [HP.out]
  exact o3

end Go.Proofs.Ytnghjkihdcmoiaa
/- The contract of runs.Encode. -/

namespace Go.Proofs.Ytnghjkihdcmoiaa
open Go.RowKit Go.Hm Go.Shelf
attribute [local go_sem] Oper.semAt_some
/-- What a box that holds a row of one's own keeps. -/
structure BStep (n0 B : Nat) (W W' : World) : Prop where
  ko : KeepsOthers W W'
  kb : KB n0 B W W'
  be : Below B W W'
theorem BStep.trans {n0 B : Nat} {a b c : World} (h : BStep n0 B a b) (k : BStep n0 B b c) : BStep n0 B a c := ⟨h.ko.trans k.ko, h.kb.trans k.kb, h.be.trans k.be⟩
theorem keeps_new {W w1 : World} (h : New W w1) : KeepsOthers W w1 := ⟨h.size, fun k _ hk _ => (h.block k (Array.getElem?_eq_some_iff.1 hk).1).trans hk⟩
theorem BStep.new {n0 B : Nat} {W w1 : World} (h : New W w1) (hn : n0 ≤ W.heap.size) (hB : B < n0) : BStep n0 B W w1 := ⟨keeps_new h, KB.new h hn, Below.mono h (by omega)⟩
/-- A row of one's own in a box. -/
def BRow (n0 B : Nat) (xs : List Nat) (W : World) : Prop := ∃ v, Boxed W B 25 v ∧ Go.Hm.Own W n0 5 v (nums .u8 xs)
theorem brow_put {W w1 w2 : World} {n0 B : Nat} {v v' : Value} {xs ys : List Nat} (hv : Boxed W B 25 v) (ho : Go.Hm.Own W n0 5 v (nums .u8 xs)) (hn : n0 ≤ W.heap.size) (hB : B < n0) (h1 : New W w1)
    (o2 : Go.Hm.Own w2 n0 5 v' (nums .u8 ys)) (g : w1.grownBy w2 v.ownBlock) : Boxed w2 B 25 v ∧ BRow n0 B ys (w2.setCell ⟨B, 0, none⟩ v') ∧ BStep n0 B W (w2.setCell ⟨B, 0, none⟩ v') := by
  have hte : 25 ≠ 5 := by decide
  have hv1 : Boxed w1 B 25 v := (h1.block B hv.lt).trans hv
  have ho1 : Go.Hm.Own w1 n0 5 v (nums .u8 xs) := ho.later h1
  have hv2 : Boxed w2 B 25 v := hv1.kept g (hv1.not_row hte ho1)
  have hlt := ho1.lt
  refine ⟨hv2, ⟨v', hv2.set v', o2.kept (grownBy_setCell' w2 B v') (.inr (hv2.not_row hte o2).symm)⟩, ?_, ?_, ?_⟩
  · refine ((keeps_new h1).trans (KeepsOthers.of_grownBy g fun j o ej hj => ?_)).trans (KeepsOthers.setCell _ _ _)
    rcases ho1.2 with ⟨rfl, _⟩ | ⟨q, cap, cur, rfl, _, hgb, _⟩
    · simp [Value.ownBlock] at ej
    · obtain rfl : q = j := by simpa [Value.ownBlock] using ej
      rw [hgb] at hj; cases hj; rfl
  · refine ⟨?_, fun i i1 i2 => ?_⟩
    · have a := h1.size
      have b := g.size
      have d := (KeepsWalks.setCell w2 ⟨B, 0, none⟩ v').size
      omega
    · refine (Below.heap_setCell _ _ _ i i2).trans ((g.block i (by have := h1.size; omega) ?_).trans (h1.block i (by omega)))
      intro e
      have := (hlt i e.symm).1
      omega
  · have hb1 : Below B W w1 := Below.mono h1 (by omega)
    have hs1 := h1.size
    have hb2 : Below B W w2 := hb1.grown g (by omega) (fun k e => by have := (hlt k e).1; omega)
    exact hb2.setCell (p := ⟨B, 0, none⟩) (Nat.le_refl _) v'
theorem BRow.later {n0 B : Nat} {xs : List Nat} {W w1 : World} (h : BRow n0 B xs W) (n : New W w1) : BRow n0 B xs w1 := by
  obtain ⟨v, hv, ho⟩ := h
  exact ⟨v, (n.block B hv.lt).trans hv, ho.later n⟩
theorem BRow.opened {n0 B : Nat} {xs : List Nat} {W : World} (h : BRow n0 B xs W) : ∃ A c, Boxed W B 25 (.slice A xs.length c) ∧ Go.Hm.Own W n0 5 (.slice A xs.length c) (nums .u8 xs) := by
  obtain ⟨v, hv, ho⟩ := h
  obtain ⟨A, c, rfl, -, -⟩ := ho.slice
  rw [nums_length] at *
  exact ⟨A, c, hv, ho⟩
theorem KB.grown {n0 bo base : Nat} {W W' : World} {v : Value} {e : TypeId} {xs : List Value} (ho : Go.Hm.Own W base e v xs) (h : n0 ≤ base) (hn : n0 ≤ W.heap.size) (g : W.grownBy W' v.ownBlock) : KB n0 bo W W' :=
  ⟨g.size, fun i i1 _ => g.block i (by omega) (fun e => by have := (ho.lt i e.symm).1; omega)⟩
theorem own_more {W : World} {base : Nat} {e : TypeId} {v : Value} {xs ys : List Nat} {k : IntKind} (h : W.ownsRow base e 1 v ((nums k xs).length + ys.length) (nums k xs ++ nums k ys)) : Go.Hm.Own W base e v (nums k (xs ++ ys)) := by
  unfold Go.Hm.Own
  rw [nums_append, List.length_append, nums_length k ys]
  exact h
theorem own_apart {W1 W2 : World} {base : Nat} {e e' : TypeId} {u v : Value} {xs ys : List Value} (h2 : Go.Hm.Own W2 W1.heap.size e u xs) (h1 : Go.Hm.Own W1 base e' v ys) : u.ownBlock = none ∨ u.ownBlock ≠ v.ownBlock := by
  rcases hu : u.ownBlock with _ | k
  · exact .inl rfl
  · refine .inr fun e => ?_
    have a := (h2.lt k hu).1
    have b := (h1.lt k e.symm).2
    omega
theorem own_far {W : World} {base B : Nat} {e : TypeId} {u : Value} {xs : List Value} (h : Go.Hm.Own W base e u xs) (hB : B < base) : u.ownBlock = none ∨ u.ownBlock ≠ some B :=
  .inr fun e => by have := (h.lt B e).1; omega
theorem ownFrom_KB {β : Type} {n0 bo : Nat} {W0 : World} (h0 : n0 ≤ W0.heap.size) : OwnFrom n0 (fun (_ : β) W => KB n0 bo W0 W) :=
  fun _ A B row hs hg hr => ⟨Nat.le_trans hs.1 hg.size, fun k h1 h2 => (hg.block k (Nat.lt_of_lt_of_le h1 (Nat.le_trans h0 hs.1)) (fun e => by have := (hr k e.symm).1; omega)).trans (hs.2 k h1 h2)⟩
theorem encP_len {p : List Nat} (hw : ∀ x ∈ p, x ≤ 18446744073709551615) (hl : p.length ≤ 65536) : (encP p).length ≤ 600000 := by
  have a := wid_le p hw
  have e1 := vp_len10 (n := 2 * p.length) (by omega)
  have e2 := vp_len10 (n := 2 * p.length + 1) (by omega)
  have e3 : (vp (p.getD 0 0)).length ≤ 10 := by
    refine vp_len10 ?_
    rw [List.getD_eq_getElem?_getD]
    cases h : p[0]? with
    | none => simp
    | some x =>
      have := hw x (List.mem_of_getElem? h)
      simp
      omega
  have m := Nat.mul_le_mul a hl
  unfold encP
  split
  · rw [List.length_append]; omega
  · rw [List.length_append, List.length_cons, low_len]; omega
/-- The bytes of pieces. -/
def encX {n : Nat} (L : List Nat) (pre : List (Sp n)) : List Nat := pre.flatMap fun x => encP (seg L x.1.1 x.1.2)
theorem encX_snoc {n : Nat} (L : List Nat) (pre : List (Sp n)) (x : Sp n) : encX L (pre ++ [x]) = encX L pre ++ encP (seg L x.1.1 x.1.2) := by simp [encX]
theorem encX_all {L : List Nat} {ys : List (Sp L.length)} (h : ys.map Subtype.val = spansR L 0 0) : encX L ys = encL L := by
  unfold encX encL
  rw [← spansR_pcs, ← h, List.map_map, List.flatMap_map]
  rfl
theorem seg_words {L : List Nat} (hL : ∀ x ∈ L, x ≤ 18446744073709551615) {f t : Nat} : ∀ x ∈ seg L f t, x ≤ 18446744073709551615 := fun x hx => hL x (List.mem_of_mem_drop (List.mem_of_mem_take hx))
theorem encX_len {n : Nat} {L : List Nat} (hL : ∀ x ∈ L, x ≤ 18446744073709551615) (hl : L.length ≤ 65536) (pre : List (Sp n)) : (encX L pre).length ≤ pre.length * 600000 := by
  induction pre with
  | nil => simp [encX]
  | cons x pre ih =>
    have a := encP_len (p := seg L x.1.1 x.1.2) (seg_words hL) (by unfold seg; rw [List.length_take, List.length_drop]; omega)
    have e : encX L (x :: pre) = encP (seg L x.1.1 x.1.2) ++ encX L pre := rfl
    rw [e, List.length_append, List.length_cons]
    omega
set_option maxRecDepth 100000 in
set_option maxHeartbeats 4000000 in
theorem encode_any {w : World} {A : Option Addr} {c : Nat} {L : List Nat} (h : Reads w w.heap.size 1 A L.length (nums .u64 L)) (hc : L.length ≤ c) (hL : ∀ x ∈ L, x ≤ 18446744073709551615) (hl : L.length ≤ 65536) :
    Calls Try.prog 14 #[.slice A L.length c] w (OptB (some (encL L)) w) := by
  have hfew := spansR_few (L := L) L.length 0 0 (by omega) (Nat.le_refl _) (Nat.zero_le _)
  have HL := Lib.hid hL
  clear hL
  refine (callsIn_wide (n := 6)).1 ?_
  refine callsIn_of_wp_marks Try.func14 rfl trivial ?_ rfl
  simp only [Try.ntmps14, List.size_toArray, List.length_cons, List.length_nil, Nat.reduceAdd, Nat.reduceSub, Array.replicate_succ, Array.replicate_zero, List.push_toArray, List.append_toArray, List.nil_append, List.cons_append]
  gi_wp2_with fail
  refine ⟨trivial, ?_⟩
  refine (callsIn_wide.2 (pieces_any A L.length c _)).mono ?_
  rintro e w' ⟨rfl, rfl⟩
  gi_wp2_with fail
  obtain ⟨W0, hW0⟩ : ∃ W, W = (((w.alloc (.cells #[.slice none 0 0] 25)).alloc (.cells #[.bool false] 4)).alloc (.cells #[.slice none 0 0] 25)).alloc (.cells #[.slice A L.length c] 33) := ⟨_, rfl⟩
  have hz : W0.heap.size = w.heap.size + 4 := by rw [hW0]; simp
  have hB0 : Below w.heap.size w W0 := by rw [hW0]; exact ((((Below.refl _ w).alloc (Nat.le_refl _) _).alloc (by simp) _).alloc (by simp; omega) _).alloc (by simp; omega) _
  have b0 : Boxed W0 w.heap.size 25 (.slice none 0 0) := by
    rw [hW0]
    exact (((Boxed.new w _ _).alloc _).alloc _).alloc _
  have b1 : Boxed W0 (w.heap.size + 1) 4 (.bool false) := by
    have := ((Boxed.new (w.alloc (.cells #[.slice none 0 0] 25)) 4 (.bool false)).alloc (.cells #[.slice none 0 0] 25)).alloc (.cells #[.slice A L.length c] 33)
    rw [World.size_alloc, ← hW0] at this
    exact this
  have b2 : Boxed W0 (w.heap.size + 2) 25 (.slice none 0 0) := by
    have := (Boxed.new ((w.alloc (.cells #[.slice none 0 0] 25)).alloc (.cells #[.bool false] 4)) 25 (.slice none 0 0)).alloc (.cells #[.slice A L.length c] 33)
    rw [World.size_alloc, World.size_alloc, ← hW0] at this
    exact this
  have b3 : Boxed W0 (w.heap.size + 3) 33 (.slice A L.length c) := by
    have := Boxed.new (((w.alloc (.cells #[.slice none 0 0] 25)).alloc (.cells #[.bool false] 4)).alloc (.cells #[.slice none 0 0] 25)) 33 (.slice A L.length c)
    rw [World.size_alloc, World.size_alloc, World.size_alloc, ← hW0] at this
    exact this
  have hrd : Reads W0 (w.heap.size + 4) 1 A L.length (nums .u64 L) := (h.keep fun p hp => hB0.cell hp).more (by omega)
  have hAo : 0 < L.length → ∀ ad, A = some ad → ad.block ≠ w.heap.size + 2 := by
    intro h0 ad e
    obtain ⟨ad', e', hb, -⟩ := h.2 h0
    rw [e] at e'
    cases e'
    omega
  rw [← hW0]
  clear hW0
  refine wpIn_rangeFunc_ownG rfl (by omega) (gf := 47) (lb := #[.pointer (some ⟨w.heap.size + 1 + 1 + 1, 0, none⟩)]) rfl trivial (enters_of Try.func47 (by kernel_rfl) rfl)
    (pieces_stops (n0 := w.heap.size + 4) (bo := w.heap.size + 2) (by omega) hc (by omega) (by omega) (by omega) (by omega) hAo b3.cell hrd) KB.trans (fun W l o o' h1 h2 h3 h4 => KB.of_below (belowK_b (w := W0) (by omega) W l o o' h1 h2 h3 h4)) (Below.refl _ _) (fun _ => rfl)
    (fun pre W => (∃ v, Boxed W (w.heap.size + 2) 25 v ∧ W.ownsRow (w.heap.size + 4) 5 1 v (nums .u8 (encX L pre)).length (nums .u8 (encX L pre)) ∧ True) ∧ KB (w.heap.size + 4) (w.heap.size + 2) W0 W ∧ Below (w.heap.size + 2) W0 W)
    (fun _ _ _ => False)
    (OwnFrom.and (Go.Own.from (holdsRow_own (w.heap.size + 4) (w.heap.size + 2) 25 5 1 (fun pre : List (Sp L.length) => (nums .u8 (encX L pre)).length) (fun pre => nums .u8 (encX L pre)) (fun _ _ => True)) _) (OwnFrom.and (by rw [hz]; exact ownFrom_KB (by omega)) (ownFrom_below (by omega) (by omega))))
    (fun _ _ _ _ _ hs _ _ => hs)
    ⟨⟨_, b2, World.ownsRow_nil _ _ _ _, trivial⟩, KB.refl _ _ _, Below.refl _ _⟩
    (fun x => { tmps := #[.slice A L.length c, undef, .pointer (some ⟨w.heap.size, 0, none⟩), .pointer (some ⟨w.heap.size + 1, 0, none⟩), .pointer (some ⟨w.heap.size + 1 + 1, 0, none⟩), slV A c x.1.1 x.1.2, undef, undef, undef, .slice A L.length c, .int .i64 (L.length : Int), .bool (decide ((65536 : Int) < (L.length : Int))), .slice A L.length c, .func (.func 47) #[] #[.pointer (some ⟨w.heap.size + 1 + 1 + 1, 0, none⟩)], slV A c x.1.1 x.1.2, undef, undef, undef, undef, undef, undef, undef, undef, undef, undef, undef, undef, undef, undef, undef, undef, undef, undef, undef, undef, undef, undef, undef, undef, undef, undef, undef, undef, undef, undef, undef, undef], defers := [] }) ?assign ?body ?done ?stop
  case assign =>
    intro l x W K hK
    gi_wp2
    exact hK
  case body =>
    rintro l pre x W ⟨⟨v, hv, hrow, -⟩, hK, hB⟩ hlt
    have hx := x.2
    have hzW : w.heap.size + 4 ≤ W.heap.size := by have := hB.size; omega
    have hrW := reads_seg (hK.reads hrd hAo) hc hx.1 hx.2
    have hpl := seg_len (l := L) (a := x.1.1) hx.2
    have hsn := encX_snoc L pre x
    have hp65 : (seg L x.1.1 x.1.2).length ≤ 65536 := by omega
    have hw := seg_words HL.out (f := x.1.1) (t := x.1.2)
    have hxs := encX_len HL.out hl pre
    have HRS := Lib.hid (fun W' (k : KB (w.heap.size + 4) (w.heap.size + 2) W0 W') => reads_seg (k.reads hrd hAo) hc hx.1 hx.2)
    unfold slV
    rw [← hpl]
    generalize (if c = x.1.1 then A else A.map (·.add x.1.1)) = AS at *
    generalize seg L x.1.1 x.1.2 = p at *
    generalize c - x.1.1 = cp
    generalize encX L pre = xs at *
    have hxs2 : xs.length ≤ 78643800000 := by omega
    have hbr : BRow (w.heap.size + 4) (w.heap.size + 1 + 1) xs W := ⟨v, hv, hrow⟩
    have HS := Lib.hid hsn
    have HK := Lib.hid hK
    have HB := Lib.hid hB
    have HW := Lib.hid hw
    have HRd := Lib.hid (hrW.more hzW)
    have IR := Lib.hid (isRun_any (c := cp) HRd.out (by omega))
    clear hsn hK hB hw hrW hv hrow hx hpl hxs hrd hAo b0 b1 b2 b3 hB0 h
    gi_wp2_with fail
    refine ⟨trivial, ?_⟩
    refine (CallsIn.inRound l (callsIn_wide.2 IR.out)).mono ?_
    rintro e w1 ⟨rfl, n1⟩
    have hbr1 := hbr.later n1
    have HN1 := Lib.hid n1
    have hz1 : w.heap.size + 4 ≤ w1.heap.size := Nat.le_trans hzW n1.size
    clear IR n1
    by_cases h4 : 4 ≤ st p
    · have d4 : decide (4 ≤ st p) = true := decide_eq_true h4
      rw [d4]
      gi_wp2_with fail
      obtain ⟨N, hN⟩ : ∃ N : Nat, (2 * (p.length : Int)) = (N : Int) ∧ N = 2 * p.length := ⟨2 * p.length, by omega, rfl⟩
      rw [hN.1]
      have hNb : N ≤ 131072 := by omega
      have hpos1 := vp_pos N
      have hln1 := vp_len10 (n := N) (by omega)
      have hp0 : 0 < p.length := Nat.lt_of_lt_of_le (by omega) (st_spec p).1
      have hEP : Hid (encP p = vp N ++ vp (p.getD 0 0)) := Lib.hid (by unfold encP; rw [if_pos h4, hN.2])
      have hg0 : p.getD 0 0 ≤ 18446744073709551615 := by rw [List.getD_eq_getElem?_getD, List.getElem?_eq_getElem hp0]; exact HW.out _ (List.getElem_mem hp0)
      have hpos2 := vp_pos (p.getD 0 0)
      have hln2 := vp_len10 (n := p.getD 0 0) (by omega)
      clear hN
      refine wpIn_region_upT (KB (w.heap.size + 4) (w.heap.size + 4)) 4 [(0, 0), (1, 1), (2, 2), (2, 3), (2, 4)] (KB.refl _ _) KB.trans (by kernel_rfl) (fun _ _ h => h) (by kernel_rfl) (by kernel_rfl) (by kernel_rfl) (by kernel_rfl) ?_
      have nd1 := New.drew w1
      generalize w1.drew = d1 at nd1 ⊢
      obtain ⟨Av1, cv1, hv1, ho1⟩ := (hbr1.later nd1).opened
      have zd1 : w.heap.size + 4 ≤ d1.heap.size := Nat.le_trans hz1 nd1.size
      have P1 := Lib.hid (put_any none 0 0 [] N d1 Reads.none_ (by omega) (by omega))
      refine upT_quiet rfl rfl (v := ?_) (fun W' hW => ?_) ?_
      rotate_left
      · have hcl := (hW.cell (p := ⟨w.heap.size + 1 + 1, 0, none⟩) (by show w.heap.size + 1 + 1 < _; omega) (by show w.heap.size + 1 + 1 ≠ _; omega)).trans hv1.cell
        go_simp <;> with_reducible rfl
      simp only [Act.put, List.setIfInBounds_toArray, List.set_cons_zero, List.set_cons_succ]
      refine upT_pure rfl rfl (v := ?_) (fun W' => ?_) ?_
      rotate_left
      · go_simp <;> with_reducible rfl
      simp only [Act.put, List.setIfInBounds_toArray, List.set_cons_zero, List.set_cons_succ]
      refine upT_call rfl rfl (fun K hK => ?_)
      go_simp
      with_reducible refine P1.out.mono ?_
      rintro e w1 ⟨A1, n1, c1, rfl, o1, b1⟩
      refine hK _ _ (.inr (.inr (KB.new b1 zd1))) ?_
      clear hK P1
      rw [List.nil_append] at o1
      obtain rfl : n1 = (vp N).length := by have := o1.len; rwa [nums_length] at this
      obtain ⟨ad1, rfl, -⟩ := o1.reads.2 hpos1
      refine upT_call rfl rfl (fun K hK => ?_)
      refine wp_pushes elB (.tmp 21) (.tmp 23) rfl (W := w1) (B := w.heap.size + 4) (ho1.later b1) o1.reads hpos1 rfl rfl (Below.refl _ _) (Nat.le_refl _) (Nat.le_trans zd1 b1.size) (nums_oneCell _ _) (by rw [nums_length]; omega) (by rw [nums_length]; simp only [maxLen]; omega) ?_
      intro A1' c1' w1' _ _ o1' g1' _
      refine hK _ _ (.inr (.inr (KB.grown (ho1.later b1) (Nat.le_refl _) (Nat.le_trans zd1 b1.size) g1'))) ?_
      clear hK
      rw [← nums_append] at o1'
      obtain ⟨hx1, hbr1, st1⟩ := brow_put hv1 ho1 zd1 (by omega) b1 o1' g1'
      have x1 := hx1.cell
      have y1 := hx1.frozen
      refine upT_call rfl rfl (fun K hK => ?_)
      go_simp
      refine hK _ _ (.inr (.inl rfl)) ?_
      clear hK
      refine upT_nil ?_
      generalize World.setCell w1' _ _ = s1 at hbr1 st1 ⊢
      have zs1 : w.heap.size + 4 ≤ s1.heap.size := Nat.le_trans zd1 st1.ko.size
      clear hx1 x1 y1 o1' g1' o1 b1 hv1 ho1
      obtain ⟨ap, rfl, hap, hcp⟩ := (HRS.out s1 (HK.out.trans ((KB.new HN1.out hzW).trans ((KB.new nd1 hz1).trans st1.kb)))).num hp0
      have hcp : s1.cell? ap = some (.int .u64 ((p.getD 0 0 : Nat) : Int)) := hcp
      generalize p.getD 0 0 = x0 at *
      gi_wp2_with fail
      refine wpIn_region_upT (KB (w.heap.size + 4) (w.heap.size + 4)) 6 [(0, 0), (1, 1), (1, 2), (0, 3), (2, 4), (2, 5), (2, 6)] (KB.refl _ _) KB.trans (by kernel_rfl) (fun _ _ h => h) (by kernel_rfl) (by kernel_rfl) (by kernel_rfl) (by kernel_rfl) ?_
      have nd2 := New.drew s1
      generalize s1.drew = d2 at nd2 ⊢
      obtain ⟨Av2, cv2, hv2, ho2⟩ := (hbr1.later nd2).opened
      rw [List.length_append] at hv2 ho2
      have zd2 : w.heap.size + 4 ≤ d2.heap.size := Nat.le_trans zs1 nd2.size
      have P2 := Lib.hid (put_any none 0 0 [] x0 d2 Reads.none_ (by omega) (by omega))
      have hcp2 : d2.cell? ap = some (.int .u64 (x0 : Int)) := (nd2.cell (p := ap) (Nat.lt_of_lt_of_le hap zs1)).trans hcp
      refine upT_quiet rfl rfl (v := ?_) (fun W' hW => ?_) ?_
      rotate_left
      · have hcl := (hW.cell (p := ⟨w.heap.size + 1 + 1, 0, none⟩) (by show w.heap.size + 1 + 1 < _; omega) (by show w.heap.size + 1 + 1 ≠ _; omega)).trans hv2.cell
        go_simp <;> with_reducible rfl
      simp only [Act.put, List.setIfInBounds_toArray, List.set_cons_zero, List.set_cons_succ]
      refine upT_pure rfl rfl (v := ?_) (fun W' => ?_) ?_
      rotate_left
      · go_simp <;> with_reducible rfl
      simp only [Act.put, List.setIfInBounds_toArray, List.set_cons_zero, List.set_cons_succ]
      refine upT_pure rfl rfl (v := ?_) (fun W' => ?_) ?_
      rotate_left
      · go_simp <;> with_reducible rfl
      simp only [Act.put, List.setIfInBounds_toArray, List.set_cons_zero, List.set_cons_succ]
      refine upT_quiet rfl rfl (v := ?_) (fun W' hW => ?_) ?_
      rotate_left
      · have hcl := (hW.cell (p := ap) hap (by omega)).trans hcp2
        go_simp <;> with_reducible rfl
      simp only [Act.put, List.setIfInBounds_toArray, List.set_cons_zero, List.set_cons_succ]
      refine upT_call rfl rfl (fun K hK => ?_)
      go_simp
      with_reducible refine P2.out.mono ?_
      rintro e w2 ⟨A2, n2, c2, rfl, o2, b2⟩
      refine hK _ _ (.inr (.inr (KB.new b2 zd2))) ?_
      clear hK P2
      rw [List.nil_append] at o2
      obtain rfl : n2 = (vp x0).length := by have := o2.len; rwa [nums_length] at this
      obtain ⟨ad2, rfl, -⟩ := o2.reads.2 hpos2
      refine upT_call rfl rfl (fun K hK => ?_)
      refine wp_pushes elB (.tmp 25) (.tmp 29) rfl (W := w2) (B := w.heap.size + 4) (ho2.later b2) o2.reads hpos2 rfl rfl (Below.refl _ _) (Nat.le_refl _) (Nat.le_trans zd2 b2.size) (nums_oneCell _ _) (by simp only [nums_length, List.length_append]; omega) (by simp only [nums_length, List.length_append, maxLen]; omega) ?_
      intro A2' c2' w2' _ _ o2' g2' _
      refine hK _ _ (.inr (.inr (KB.grown (ho2.later b2) (Nat.le_refl _) (Nat.le_trans zd2 b2.size) g2'))) ?_
      clear hK
      rw [← nums_append] at o2'
      obtain ⟨hx2, hbr2, st2⟩ := brow_put hv2 ho2 zd2 (by omega) b2 o2' g2'
      have x2 := hx2.cell
      have y2 := hx2.frozen
      refine upT_call rfl rfl (fun K hK => ?_)
      go_simp
      refine hK _ _ (.inr (.inl rfl)) ?_
      clear hK
      refine upT_nil ?_
      generalize World.setCell w2' _ _ = s2 at hbr2 st2 ⊢
      have zs2 : w.heap.size + 4 ≤ s2.heap.size := Nat.le_trans zd2 st2.ko.size
      clear hx2 x2 y2 o2' g2' o2 b2 hv2 ho2
      gi_wp2
      have ST := (BStep.new HN1.out hzW (by omega)).trans ((BStep.new nd1 hz1 (by omega)).trans (st1.trans ((BStep.new nd2 zs1 (by omega)).trans st2)))
      obtain ⟨v', hv', ho'⟩ := hbr2
      exact ⟨ST.ko.from _, ST.kb, ⟨v', hv', by rw [HS.out, hEP.out, ← List.append_assoc]; exact ho', trivial⟩, HK.out.trans ST.kb, HB.out.trans ST.be⟩
    · have d4 : decide (4 ≤ st p) = false := decide_eq_false h4
      rw [d4]
      obtain ⟨N, hN⟩ : ∃ N : Nat, (2 * (p.length : Int)) = (N : Int) ∧ N = 2 * p.length := ⟨2 * p.length, by omega, rfl⟩
      rw [hN.1]
      have hNb : N ≤ 131072 := by omega
      have hwr : IntKind.u64.wrap ((N : Int) + 1) = ((N + 1 : Nat) : Int) := by rw [IntKind.wrap_u64]; omega
      have hpos3 := vp_pos (N + 1)
      have hln3 := vp_len10 (n := N + 1) (by omega)
      have hEP : Hid (encP p = vp (N + 1) ++ restB p) := Lib.hid (by unfold encP restB; rw [if_neg h4, hN.2])
      clear hN
      have hrb : 0 < (restB p).length ∧ (restB p).length ≤ 600000 := by
        have a := wid_le p HW.out
        have m := Nat.mul_le_mul a hp65
        unfold restB
        rw [List.length_cons, low_len]
        omega
      have LR := Lib.hid (layRest_any (c := cp) ((HRS.out w1 (HK.out.trans (KB.new HN1.out hzW))).more hz1) HW.out hp65)
      generalize restB p = rb at *
      gi_wp2_with fail
      refine ⟨trivial, ?_⟩
      refine (CallsIn.inRound l (callsIn_wide.2 LR.out)).mono ?_
      rintro e w2 ⟨A2, n2, c2, rfl, o2, b2⟩
      obtain rfl : n2 = rb.length := by have := o2.len; rwa [nums_length] at this
      obtain ⟨ad2, rfl, -⟩ := o2.reads.2 hrb.1
      clear LR
      obtain ⟨Aw, cw, hvw, how⟩ := hbr1.opened
      have hvw2 : Boxed w2 (w.heap.size + 1 + 1) 25 _ := (b2.block _ hvw.lt).trans hvw
      have how2 := how.later b2
      have hz2 : w.heap.size + 4 ≤ w2.heap.size := Nat.le_trans hz1 b2.size
      gi_wp2_with fail
      refine wpIn_region_upT (KB (w.heap.size + 4) (w.heap.size + 4)) 5 [(0, 0), (1, 1), (1, 2), (2, 3), (2, 4), (2, 5)] (KB.refl _ _) KB.trans (by kernel_rfl) (fun _ _ h => h) (by kernel_rfl) (by kernel_rfl) (by kernel_rfl) (by kernel_rfl) ?_
      have nd3 := New.drew w2
      generalize w2.drew = d3 at nd3 ⊢
      have hv3 := (nd3.block _ hvw2.lt).trans hvw2
      have hv3 : Boxed d3 (w.heap.size + 1 + 1) 25 _ := hv3
      have ho3 := how2.later nd3
      have zd3 : w.heap.size + 4 ≤ d3.heap.size := Nat.le_trans hz2 nd3.size
      have P3 := Lib.hid (put_any none 0 0 [] (N + 1) d3 Reads.none_ (by omega) (by omega))
      refine upT_quiet rfl rfl (v := ?_) (fun W' hW => ?_) ?_
      rotate_left
      · have hcl := (hW.cell (p := ⟨w.heap.size + 1 + 1, 0, none⟩) (by show w.heap.size + 1 + 1 < _; omega) (by show w.heap.size + 1 + 1 ≠ _; omega)).trans hv3.cell
        go_simp <;> with_reducible rfl
      simp only [Act.put, List.setIfInBounds_toArray, List.set_cons_zero, List.set_cons_succ]
      refine upT_pure rfl rfl (v := ?_) (fun W' => ?_) ?_
      rotate_left
      · go_simp <;> with_reducible rfl
      simp only [Act.put, List.setIfInBounds_toArray, List.set_cons_zero, List.set_cons_succ]
      refine upT_pure rfl rfl (v := ?_) (fun W' => ?_) ?_
      rotate_left
      · go_simp <;> with_reducible rfl
      simp only [Act.put, List.setIfInBounds_toArray, List.set_cons_zero, List.set_cons_succ]
      refine upT_call rfl rfl (fun K hK => ?_)
      go_simp
      rw [show ((N : Int) + 1) = ((N + 1 : Nat) : Int) from rfl]
      with_reducible refine P3.out.mono ?_
      rintro e w3 ⟨A3, n3, c3, rfl, o3, b3⟩
      refine hK _ _ (.inr (.inr (KB.new b3 zd3))) ?_
      clear hK P3
      rw [List.nil_append] at o3
      obtain rfl : n3 = (vp (N + 1)).length := by have := o3.len; rwa [nums_length] at this
      obtain ⟨ad3, rfl, -⟩ := o3.reads.2 hpos3
      refine upT_call rfl rfl (fun K hK => ?_)
      refine wp_pushes elB (.tmp 38) (.tmp 41) rfl (W := w3) (B := w.heap.size + 4) (ho3.later b3) o3.reads hpos3 rfl rfl (Below.refl _ _) (Nat.le_refl _) (Nat.le_trans zd3 b3.size) (nums_oneCell _ _) (by rw [nums_length]; omega) (by rw [nums_length]; simp only [maxLen]; omega) ?_
      intro A3' c3' w3' _ _ o3' g3' _
      refine hK _ _ (.inr (.inr (KB.grown (ho3.later b3) (Nat.le_refl _) (Nat.le_trans zd3 b3.size) g3'))) ?_
      clear hK
      rw [← nums_append] at o3'
      obtain ⟨hx3, hbr3, st3⟩ := brow_put hv3 ho3 zd3 (by omega) b3 o3' g3'
      have x3 := hx3.cell
      have y3 := hx3.frozen
      have q3 := ((o2.later nd3).later b3).kept g3' (own_apart o2 how)
      have q3 := q3.kept (grownBy_setCell' w3' (w.heap.size + 1 + 1) (.slice A3' ((nums .u8 xs).length + (vp (N + 1)).length) c3')) (own_far q3 (by omega))
      refine upT_call rfl rfl (fun K hK => ?_)
      go_simp
      refine hK _ _ (.inr (.inl rfl)) ?_
      clear hK
      refine upT_nil ?_
      generalize World.setCell w3' _ _ = s3 at hbr3 st3 q3 ⊢
      have zs3 : w.heap.size + 4 ≤ s3.heap.size := Nat.le_trans zd3 st3.ko.size
      clear hx3 x3 y3 o3' g3' o3 b3 hv3 ho3
      obtain ⟨Ay, cy, hvy, hoy⟩ := hbr3.opened
      have hcy := hvy.cell
      have hfy := hvy.frozen
      rw [List.length_append] at hoy hvy hcy
      obtain ⟨ad', e', -, hcs⟩ := q3.reads.2 hrb.1
      cases e'
      obtain ⟨i5, hi5, hi0, hi1, hi2⟩ := info_parts elB.hi
      gi_wp2_with (gi_at_builtin; refine wpListIn_append_own _ rfl _ _ 25 rfl (w.heap.size + 4) 5 i5 (.int .u8 0) 1 1 (by kernel_rfl) hi5 hi0 hi1 hi2 rfl (by decide) _ _ _ rfl hoy ad2 rb.length c2 (nums .u8 rb) rfl (by rw [nums_length, Nat.mul_one]) hcs (nums_oneCell _ _) (by simp only [nums_length, List.length_append, maxLen]; omega) (by simp only [nums_length, List.length_append]; omega) zs3 ?_; intro v' w4 hown' hgrow _; have o4 := own_more hown'; rw [List.append_assoc] at o4; obtain ⟨A4, c4, rfl, -, -⟩ := o4.slice; obtain ⟨hx4, hbr4, st4⟩ := brow_put hvy hoy zs3 (by omega) (New.refl s3) o4 hgrow; have x4 := hx4.cell; have y4 := hx4.frozen)
      have ST := (BStep.new HN1.out hzW (by omega)).trans ((BStep.new b2 hz1 (by omega)).trans ((BStep.new nd3 hz2 (by omega)).trans (st3.trans st4)))
      obtain ⟨v', hv', ho'⟩ := hbr4
      exact ⟨ST.ko.from _, ST.kb, ⟨v', hv', by rw [HS.out, hEP.out]; exact ho', trivial⟩, HK.out.trans ST.kb, HB.out.trans ST.be⟩
  case done =>
    rintro D ys W hD hys ⟨⟨v, hv, hrow, -⟩, hKB, hB⟩ hK
    have hall := encX_all hys
    have hz0 := hB.size
    have ho : Go.Hm.Own W (w.heap.size + 4) 5 v (nums .u8 (encX L ys)) := hrow
    rw [hall] at ho
    obtain ⟨A2, c2, rfl, -, -⟩ := ho.slice
    have b0' : Boxed W w.heap.size 25 (.slice none 0 0) := (hKB.2 _ (by omega) (by omega)).trans b0
    have b1' : Boxed W (w.heap.size + 1) 4 (.bool false) := (hKB.2 _ (by omega) (by omega)).trans b1
    have x2 := hv.cell
    have x0 := b0'.cell
    have x1 := b1'.cell
    have y0 := b0'.frozen
    have y1 := b1'.frozen
    clear hrow hAo hrd h b0 b1 b2 b3
    gi_wp2
    refine ⟨by simp, .inl ⟨_, _, rfl, run_takeDeferred (((KeepsOthers.setCell W _ _).trans (KeepsOthers.setCell _ _ _)).same D _ hK rfl), ?_⟩⟩
    obtain ⟨U, hU⟩ : ∃ v, v = Value.slice A2 (nums .u8 (encL L)).length c2 := ⟨_, rfl⟩
    rw [← hU] at ho ⊢
    have hne0 : some w.heap.size ≠ some D := by simp; omega
    have hne1 : some (w.heap.size + 1) ≠ some D := by simp; omega
    have s0 := (((b0'.set U).kept (grownBy_setCell' _ (w.heap.size + 1) (.bool true)) (by simp)).kept (grownBy_putObj' _ D (.deferred none)) hne0).cell
    have s1 := (((b1'.kept (grownBy_setCell' W w.heap.size U) (by simp)).set (.bool true)).kept (grownBy_putObj' _ D (.deferred none)) hne1).cell
    have o1 := ho.kept (grownBy_setCell' W w.heap.size U) (own_far ho (by omega))
    have o2 := o1.kept (grownBy_setCell' _ (w.heap.size + 1) (.bool true)) (own_far o1 (by omega))
    have o3 : Go.Hm.Own (((W.setCell ⟨w.heap.size, 0, none⟩ U).setCell ⟨w.heap.size + 1, 0, none⟩ (.bool true)).putObj D (.deferred none)) (w.heap.size + 4) 5 U (nums .u8 (encL L)) := ownsRow_putObj o2 (.deferred none) (((KeepsOthers.setCell W _ _).trans (KeepsOthers.setCell _ _ _)).same D _ hK rfl) rfl
    have o4 := o3.base_le (b' := w.heap.size) (by omega)
    have hBw : Below w.heap.size w W := hB0.trans (Below.mono hB (by omega))
    have hBf : Below w.heap.size w (((W.setCell ⟨w.heap.size, 0, none⟩ U).setCell ⟨w.heap.size + 1, 0, none⟩ (.bool true)).putObj D (.deferred none)) :=
      ((hBw.setCell (p := ⟨w.heap.size, 0, none⟩) (Nat.le_refl _) U).setCell (p := ⟨w.heap.size + 1, 0, none⟩) (by simp) (.bool true)).trans (belowK_b (w := w) (Nat.le_refl _) _ D _ _ (by omega) (((KeepsOthers.setCell W _ _).trans (KeepsOthers.setCell _ _ _)).same D _ hK rfl) rfl rfl)
    refine ⟨.tuple #[U, .bool true], ?_, ?_⟩
    · simp [results, go_sem, s0, s1]
    · rw [hU] at o4 ⊢
      exact ⟨A2, _, c2, rfl, o4, by rw [← hU]; exact hBf⟩
  case stop =>
    rintro D c pre W _ _ h _
    exact h.elim
theorem encode_big {w : World} {A : Option Addr} {c n : Nat} (hl : 65536 < n) (hn : n ≤ 9223372036854775807) : Calls Try.prog 14 #[.slice A n c] w (OptB none w) := by
  go_enter Try.func14, Try.ntmps14
  go_wp2
  refine bodyPost_ret (v := .tuple #[.slice none 0 0, .bool false]) ?_ rfl ?_
  · have s0 := (((Boxed.new w 25 (.slice none 0 0)).alloc (.cells #[.bool false] 4))).cell
    simp [results, go_sem, s0]
  · exact ⟨rfl, ((Below.refl _ w).alloc (Nat.le_refl _) _).alloc (by simp) _⟩

end Go.Proofs.Ytnghjkihdcmoiaa
/- The contract of runs.Decode. -/

namespace Go.Proofs.Ytnghjkihdcmoiaa
open Go.RowKit Go.Hm
theorem vp_byteR : ∀ (k n : Nat), n ≤ k → ∀ x ∈ vp n, x < 256 := by
  intro k
  induction k with
  | zero =>
    intro n hn x hx
    rw [vp_lt (by omega)] at hx
    simp at hx
    omega
  | succ k ih =>
    intro n hn x hx
    by_cases h : n < 128
    · rw [vp_lt h] at hx
      simp at hx
      omega
    · rw [vp_ge (by omega)] at hx
      rcases List.mem_cons.1 hx with rfl | hx
      · omega
      · exact ih _ (by omega) x hx
theorem encP_byte {p : List Nat} (hw : ∀ x ∈ p, x ≤ 18446744073709551615) : ∀ x ∈ encP p, x < 256 := by
  intro x hx
  have := wid_le p hw
  unfold encP at hx
  split at hx
  · rcases List.mem_append.1 hx with hx | hx
    · exact vp_byteR _ _ (Nat.le_refl _) x hx
    · exact vp_byteR _ _ (Nat.le_refl _) x hx
  · rcases List.mem_append.1 hx with hx | hx
    · exact vp_byteR _ _ (Nat.le_refl _) x hx
    · rcases List.mem_cons.1 hx with rfl | hx
      · omega
      · exact low_lt _ _ x hx
theorem encL_byte {l : List Nat} (hw : ∀ x ∈ l, x ≤ 18446744073709551615) : ∀ x ∈ encL l, x < 256 := by
  intro x hx
  unfold encL at hx
  obtain ⟨p, hp, hx⟩ := List.mem_flatMap.1 hx
  exact encP_byte (wordsOf hw hp).1 x hx
theorem equalR_any {w : World} {A B : Option Addr} {n m c e : Nat} {l k : List Nat} (h : Reads w w.heap.size 1 A n (nums .u8 l)) (hk : Reads w w.heap.size 1 B m (nums .u8 k)) (h8 : ∀ x ∈ l, x < 256) (k8 : ∀ x ∈ k, x < 256) :
    Calls Try.prog 42 #[.slice A n c, .slice B m e] w (ValPost (.bool (decide (l = k))) w) := by
  have BB := Lib.hid (bstr_beq h8 k8)
  have q1 := run_strB (c := c) h
  have q2 := run_strB (c := e) hk
  clear h8 k8 h hk
  go_enter Try.func42, Try.ntmps42
  go_wp2
  go_ret
  exact ⟨by simp [BB.out], rfl⟩
/-- What is read is words, and less is left. -/
theorem rpS_words {most : Nat} {S : St} (hS : S.ok) : ∀ x ∈ (rpS most S).1, x ≤ 18446744073709551615 := by
  intro x hx
  unfold rpS at hx
  dsimp only at hx
  split at hx
  · split at hx
    · rename_i l hl
      unfold unpackO at hl
      split at hl
      · rename_i hg
        injection hl with hl
        subst hl
        have a := unpk_lt _ _ _ x hx
        have b : 2 ^ ((byteS (lenS (2 * (most : Int) + 1) S).2).1 : Int).toNat ≤ 2 ^ 64 := Nat.pow_le_pow_right (by omega) (by omega)
        omega
      · cases hl
    · simp at hx
  · have a := getS_lt (lenS_ok (m := 2 * (most : Int) + 1) hS)
    have := (List.mem_replicate.1 hx).2
    omega
theorem lenS_less {m : Int} {c : Nat} {r : List Nat} (hS : St.ok (some (c :: r))) : ((lenS m (some (c :: r))).2.getD []).length ≤ r.length := by
  rcases lenS_cases m _ hS with e | ⟨N, r', e, -, -, e2⟩
  · rw [e]; simp
  · rw [e2]
    injection e with e
    have a := congrArg List.length e
    have b := vp_pos N
    rw [List.length_append, List.length_cons] at a
    simp
    omega
theorem getS_less {S : St} (hS : S.ok) : ((getS S).2.getD []).length ≤ (S.getD []).length := by
  rcases getS_cases S hS with e | ⟨N, r', rfl, -, e2⟩
  · rw [e]; simp
  · rw [e2]; simp
theorem takeS_less {n : Int} (S : St) : ((takeS n S).2.getD []).length ≤ (S.getD []).length := by
  rcases takeS_cases n S with e | ⟨l, rfl, -, -, e2⟩
  · rw [e]; simp
  · rw [e2]; simp
theorem byteS_less (S : St) : ((byteS S).2.getD []).length ≤ (S.getD []).length := by
  match S with
  | none => simp [byteS]
  | some [] => simp [byteS]
  | some (c :: r) => simp [byteS]
theorem rpS_less {most c : Nat} {r : List Nat} (hS : St.ok (some (c :: r))) : ((rpS most (some (c :: r))).2.getD []).length ≤ r.length := by
  have h1 := lenS_less (m := 2 * (most : Int) + 1) hS
  have h2 := lenS_ok (m := 2 * (most : Int) + 1) hS
  unfold rpS
  dsimp only
  split
  · split
    · have a := byteS_less (lenS (2 * (most : Int) + 1) (some (c :: r))).2
      exact Nat.le_trans (Nat.le_trans (takeS_less _) a) h1
    · simp
  · exact Nat.le_trans (getS_less h2) h1
theorem decS_end {n k : Nat} {out : List Nat} {S : St} (h : ∀ c r, S ≠ some (c :: r)) : decS n k out S = (out, S) := by
  cases k with
  | zero => rfl
  | succ k =>
    match S, h with
    | none, _ => rfl
    | some [], _ => rfl
    | some (c :: r), h => exact absurd rfl (h c r)

end Go.Proofs.Ytnghjkihdcmoiaa
/- The contract of runs.Decode: the walk. -/

namespace Go.Proofs.Ytnghjkihdcmoiaa
open Go.RowKit Go.Hm
/-- How many bytes a cursor has left, read off the world. -/
def curLeft (w : World) (g : Nat) : Nat := match w.cell? ⟨g, 0, none⟩ with
  | some (.slice _ n _) => n
  | _ => 0
theorem curLeft_eq {w : World} {g : Nat} {S : St} (h : CurS w g S) : curLeft w g = (S.getD []).length := by
  obtain ⟨A, c, hB, -⟩ := h
  have := hB.cell 0
  simp at this
  unfold curLeft
  rw [this]
def DecPost (b : List Nat) (n : Int) (w : World) (e : Ending) (w' : World) : Prop := ∃ o, IsDec b n o ∧ OptW o w e w'
theorem isDec_none {b : List Nat} {n : Int} (h : ∀ l : List Nat, (l.length : Int) = n → l.length ≤ 65536 → (∀ x ∈ l, x ≤ 18446744073709551615) → encL l = b → False) : IsDec b n none :=
  fun l => ⟨fun e => (by cases e), fun ⟨h1, h2, h3, h4⟩ => (h l h1 h2 h3 h4).elim⟩
theorem isDec_some {b l : List Nat} (h1 : l.length ≤ 65536) (h2 : ∀ x ∈ l, x ≤ 18446744073709551615) (h3 : encL l = b) : IsDec b (l.length : Int) (some l) :=
  fun m => ⟨fun e => by injection e with e; subst e; exact ⟨rfl, h1, h2, h3⟩, fun ⟨_, k2, k3, k4⟩ => by rw [encL_inj h1 k2 h2 k3 (h3.trans k4.symm)]⟩
theorem decode_far {w : World} {A : Option Addr} {c m : Nat} {b : List Nat} {n : Int} (hn : n < 0 ∨ 65536 < n) : Calls Try.prog 23 #[.slice A m c, .int .i64 n] w (DecPost b n w) := by
  have hI : Hid (IsDec b n none) := Lib.hid (isDec_none fun l h1 h2 _ _ => by omega)
  by_cases h0 : n < 0
  · go_enter Try.func23, Try.ntmps23
    go_wp2
    go_ret2
    exact ⟨none, hI.out, rfl, Below.refl _ _⟩
  · have h1 : 65536 < n := by omega
    go_enter Try.func23, Try.ntmps23
    go_wp2
    go_ret2
    exact ⟨none, hI.out, rfl, Below.refl _ _⟩
set_option maxHeartbeats 2000000 in
theorem decode_any {w : World} {A : Option Addr} {c : Nat} {b : List Nat} {n : Nat} (h : Reads w w.heap.size 1 A b.length (nums .u8 b)) (h8 : ∀ x ∈ b, x < 256) (hb : b.length ≤ 140737488355200) (hn : n ≤ 65536) :
    Calls Try.prog 23 #[.slice A b.length c, .int .i64 (n : Int)] w (DecPost b (n : Int) w) := by
  have OV := Lib.hid (over_any (c := c) h (by omega) h8)
  obtain ⟨D, hD⟩ : ∃ D, D = decS n b.length [] (some b) := ⟨_, rfl⟩
  have HD := Lib.hid hD
  have HE : Hid (∀ l : List Nat, (l.length : Int) = (n : Int) → (∀ x ∈ l, x ≤ 18446744073709551615) → encL l = b → D = (l, some [])) := Lib.hid fun l h1 h2 h3 => by
    rw [hD, ← h3]
    exact decS_enc h2 hn (by omega) (Nat.le_refl _)
  clear hD
  have H8 := Lib.hid h8
  have HR := Lib.hid h
  clear h h8
  go_enter Try.func23, Try.ntmps23
  go_wp2_with fail
  refine OV.out.mono ?_
  rintro e w1 ⟨g, rfl, hg, hcur, b1⟩
  have s1 := CurS.of hcur
  clear hcur OV
  go_wp2_with fail
  go_loopw [7] (fun v wr => ∃ (Ao : Option Addr) (co k : Nat) (out : List Nat) (S : St), v = .slice Ao out.length co ∧ Go.Hm.Own wr w.heap.size 36 (.slice Ao out.length co) (nums .u64 out) ∧ CurS wr g S ∧ Below w.heap.size w wr ∧ out.length ≤ n ∧ Hid (∀ x ∈ out, x ≤ 18446744073709551615) ∧ (S.getD []).length ≤ k ∧ Hid (decS n k out S = D)) (fun _ wr => curLeft wr g)
  case atStart => exact ⟨none, 0, b.length, [], some b, rfl, Own.nil_, s1, b1, Nat.zero_le _, Lib.hid (by simp), Nat.le_refl _, Lib.hid HD.out.symm⟩
  case round =>
    obtain ⟨Ao, co, k, out, S, rfl, hown, hs, hbl, hol, hw, hk, hdec⟩ := hrel
    have hok := hs.ok
    have hml := curLeft_eq hs
    have BD := Lib.hid (badS hs)
    have LF := Lib.hid (leftS hs)
    match S, hs, hok, hk, hdec, hml, BD, LF with
    | some (x :: r), hs, hok, hk, hdec, hml, BD, LF =>
      simp only [Option.getD_some, List.length_cons] at hk hml
      obtain ⟨k, rfl⟩ : ∃ j, k = j + 1 := ⟨k - 1, by omega⟩
      have RP := Lib.hid (readPiece_any (most := n - out.length) hs (by omega))
      have hrl := rpS_len (n - out.length) _ hok
      have hrw := rpS_words (most := n - out.length) hok
      have hls := rpS_less (most := n - out.length) hok
      have hd := hdec.out
      rw [decS] at hd
      have hD' := Lib.hid hd
      clear hd hdec
      generalize rpS (n - out.length) (some (x :: r)) = R at *
      obtain ⟨y, S2⟩ := R
      dsimp only at *
      have hsub : (n : Int) - (out.length : Int) = ((n - out.length : Nat) : Int) := by omega
      have HS := Lib.hid hs
      clear hs hok
      go_wp2_with fail
      refine BD.out.mono ?_
      rintro e w2 ⟨rfl, rfl⟩
      go_wp2_with fail
      refine LF.out.mono ?_
      rintro e w2 ⟨rfl, rfl⟩
      clear BD LF
      go_wp2_with fail
      refine RP.out.mono ?_
      rintro e w3 ⟨A3, n3, c3, rfl, e3, o3, s3, g3⟩
      subst e3
      clear RP
      obtain ⟨cs, hB⟩ := HS.out.blk
      have hown3 := hown.keepT g3 hB (by decide)
      have hbl3 : Below w.heap.size w w3 := hbl.grown g3 hbl.size (fun k e => by injection e with e; omega)
      have hz3 := hbl3.size
      have G3 := Lib.hid g3
      have S3 := Lib.hid s3
      clear g3 s3 hB HS hown hbl
      go_wp2_with (first
        | (refine wpList_pushesN elW rfl (.tmp 26) (.tmp 32) rfl (W := w) (B := w.heap.size) hown3 o3.reads rfl rfl hbl3 (Nat.le_refl _) hz3 (by omega) (by simp only [maxLen]; omega) ?_
           intro A4 c4 w4 _ _ o4 g4 b4 _))
      have s4 := S3.out.push hown3 g4 (by decide) (by decide)
      go_roundw
      case rel => exact ⟨A4, c4, k, out ++ y, S2, by simp, by simpa using o4, s4, b4, by rw [List.length_append]; omega, Lib.hid (fun z hz => by rcases List.mem_append.1 hz with hz | hz; exact hw.out z hz; exact hrw z hz), by omega, hD'⟩
      case measure => rw [curLeft_eq s4]; omega
    | some [], hs, hok, hk, hdec, hml, BD, LF =>
      have hd := hdec.out
      rw [decS_end (by simp)] at hd
      have HNo : Hid ((out.length : Int) = (n : Int) → encL out = b → False) → Hid (IsDec b (n : Int) none) := fun hh => Lib.hid (isDec_none fun l h1 _ h3 h4 => by
        have e := HE.out l h1 h3 h4
        rw [← hd] at e
        injection e with e1 _
        subst e1
        exact hh.out h1 h4)
      clear hd hdec HE HD hs
      by_cases hno : out.length = n
      · subst hno
        have EN := Lib.hid (encode_any (c := co) hown.reads hown.cap.1 hw.out hn)
        go_wp2_with fail
        refine BD.out.mono ?_
        rintro e w2 ⟨rfl, rfl⟩
        go_wp2_with fail
        refine LF.out.mono ?_
        rintro e w2 ⟨rfl, rfl⟩
        go_wp2_with fail
        refine BD.out.mono ?_
        rintro e w2 ⟨rfl, rfl⟩
        go_wp2_with fail
        refine EN.out.mono ?_
        rintro e w5 ⟨A5, n5, c5, rfl, o5, b5⟩
        clear BD LF EN
        have hbl5 : Below w.heap.size w w5 := hbl.trans (Below.mono b5 hbl.size)
        have EQ := Lib.hid (equalR_any (c := c5) (e := c) o5.reads ((HR.out.below hbl5).more hbl5.size) (encL_byte hw.out) H8.out)
        have hown5 := hown.later b5
        by_cases heq : encL out = b
        · have dq : decide (encL out = b) = true := decide_eq_true heq
          rw [dq] at EQ
          go_wp2_with fail
          refine EQ.out.mono ?_
          rintro e w6 ⟨rfl, rfl⟩
          go_wp2
          go_ret2
          exact ⟨some out, isDec_some hn hw.out heq, _, _, _, rfl, hown5, hbl5⟩
        · have dq : decide (encL out = b) = false := decide_eq_false heq
          rw [dq] at EQ
          have hI := HNo (Lib.hid fun _ e => heq e)
          go_wp2_with fail
          refine EQ.out.mono ?_
          rintro e w6 ⟨rfl, rfl⟩
          go_wp2
          go_ret2
          exact ⟨none, hI.out, rfl, hbl5⟩
      · have hI := HNo (Lib.hid fun e _ => hno (by omega))
        go_wp2_with fail
        refine BD.out.mono ?_
        rintro e w2 ⟨rfl, rfl⟩
        go_wp2_with fail
        refine LF.out.mono ?_
        rintro e w2 ⟨rfl, rfl⟩
        go_wp2_with fail
        refine BD.out.mono ?_
        rintro e w2 ⟨rfl, rfl⟩
        go_wp2
        go_ret2
        exact ⟨none, hI.out, rfl, hbl⟩
    | none, hs, hok, hk, hdec, hml, BD, LF =>
      have hd := hdec.out
      rw [decS_end (by simp)] at hd
      have hI : Hid (IsDec b (n : Int) none) := Lib.hid (isDec_none fun l h1 _ h3 h4 => by
        have e := HE.out l h1 h3 h4
        rw [← hd] at e
        injection e with _ e2
        cases e2)
      clear hd hdec HE HD hs
      go_wp2_with fail
      refine BD.out.mono ?_
      rintro e w2 ⟨rfl, rfl⟩
      go_wp2_with fail
      refine BD.out.mono ?_
      rintro e w2 ⟨rfl, rfl⟩
      go_wp2
      go_ret2
      exact ⟨none, hI.out, rfl, hbl⟩

end Go.Proofs.Ytnghjkihdcmoiaa
/- What laws over runs share. -/

namespace Go.Proofs.Ytnghjkihdcmoiaa
open Go.RowKit Go.Hm
theorem decode_all {w : World} {A : Option Addr} {k c : Nat} {b : List Nat} {n : Int} (h : Reads w w.heap.size 1 A k (nums .u8 b)) (h8 : ∀ x ∈ b, x < 256) (hk : k ≤ 140737488355200) :
    Calls Try.prog 23 #[.slice A k c, .int .i64 n] w (DecPost b n w) := by
  obtain rfl : k = b.length := h.len
  by_cases hn : n < 0 ∨ 65536 < n
  · exact decode_far hn
  · obtain ⟨m, rfl⟩ := Int.eq_ofNat_of_zero_le (show 0 ≤ n by omega)
    exact decode_any h h8 hk (by omega)
theorem isDec_is {b l : List Nat} {n : Int} {o : Option (List Nat)} (h : IsDec b n o) (h1 : (l.length : Int) = n) (h2 : l.length ≤ 65536) (h3 : ∀ x ∈ l, x ≤ 18446744073709551615) (h4 : encL l = b) : o = some l := (h l).2 ⟨h1, h2, h3, h4⟩
theorem isDec_no {b : List Nat} {n : Int} {o : Option (List Nat)} (h : IsDec b n o) (hn : ∀ l : List Nat, (l.length : Int) = n → l.length ≤ 65536 → (∀ x ∈ l, x ≤ 18446744073709551615) → encL l = b → False) : o = none := by
  cases o with
  | none => rfl
  | some l =>
    obtain ⟨h1, h2, h3, h4⟩ := (h l).1 rfl
    exact (hn l h1 h2 h3 h4).elim
theorem enc_all {w : World} {A : Option Addr} {n c : Nat} {L : List Nat} (h : Reads w w.heap.size 1 A n (nums .u64 L)) (hc : n ≤ c) (hL : ∀ x ∈ L, x ≤ 18446744073709551615) (hn : n ≤ 65536) :
    Calls Try.prog 14 #[.slice A n c] w (OptB (some (encL L)) w) := by
  obtain rfl : n = L.length := h.len
  exact encode_any h hc hL hn
theorem isDec_uniq {b : List Nat} {n : Int} {o p : Option (List Nat)} (h : IsDec b n o) (k : IsDec b n p) : o = p := by
  cases o with
  | none =>
    cases p with
    | none => rfl
    | some l => exact (h l).2 ((k l).1 rfl)
  | some l => exact ((k l).2 ((h l).1 rfl)).symm
theorem IsDec.few {b : List Nat} {n : Int} {o : Option (List Nat)} (h : IsDec b n o) : (o.getD []).length ≤ 65536 := by
  cases o with
  | none => simp
  | some l => exact ((h l).1 rfl).2.1
theorem DecPost.u {b : List Nat} {n : Int} {w w' : World} {e : Ending} (h : DecPost b n w e w') : ∃ o A m c, IsDec b n o ∧ e = .returned (.tuple #[.slice A m c, .bool o.isSome]) ∧ m ≤ 65536 ∧ Go.Hm.Own w' w.heap.size 36 (.slice A m c) (nums .u64 (o.getD [])) ∧ New w w' := by
  obtain ⟨o, hI, h⟩ := h
  obtain ⟨A, m, c, e, k, b⟩ := OptW.u h
  have l := k.len
  rw [nums_length] at l
  exact ⟨o, A, m, c, hI, e, by have := hI.few; omega, k, b⟩
theorem flatMap_encP_len : ∀ ps : List (List Nat), (∀ p ∈ ps, 0 < p.length ∧ (encP p).length ≤ 600000) → (ps.flatMap encP).length ≤ ps.flatten.length * 600000
  | [], _ => by simp
  | p :: ps, h => by
    have := flatMap_encP_len ps fun q hq => h q (by simp [hq])
    have := h p (by simp)
    rw [List.flatMap_cons, List.flatten_cons, List.length_append, List.length_append]
    omega
theorem encL_len {l : List Nat} (hw : ∀ x ∈ l, x ≤ 18446744073709551615) (hl : l.length ≤ 65536) : (encL l).length ≤ l.length * 600000 := by
  have := flatMap_encP_len (pcs l) fun p hp => ⟨(pcs_ok l p hp).1, encP_len (wordsOf hw hp).1 (Nat.le_trans (wordsOf hw hp).2 hl)⟩
  rwa [pcs_flat] at this

end Go.Proofs.Ytnghjkihdcmoiaa
/- The contract of dict.Encode. -/

namespace Go.Proofs.Ytnghjkihdcmoiaa
open Go.RowKit Go.Hm
theorem fineData {c : CellS} (h : CellFine c) : cellData c := ⟨h.1, h.2.1⟩
theorem plB_len {t : Int} {l : List CellS} (h : plOk t l = true) : (plB t l).length ≤ 4300000000 := by
  obtain ⟨⟨_, _, h1⟩, h2⟩ := plOk_iff.1 h
  unfold plB
  split
  · rw [low_len]; omega
  · have := flat_len l h2 (fun c hc => right_text (h2 c hc))
    omega
set_option maxHeartbeats 2000000 in
set_option maxRecDepth 100000 in
theorem dencode_any {w : World} {A : Option Addr} {n c : Nat} {t : Int} {L : List CellS} (h : Reads w w.heap.size 5 A n (recs cellV L)) (hL : ∀ y ∈ L, CellFine y) (hn : n ≤ 65536) :
    Calls Try.prog 8 #[.int .i64 t, .slice A n c] w (OptB (dictB t L) w) := by
  obtain rfl := h.lenCell
  have C := Lib.hid (entries_any (c := c) h hL (by omega))
  have hED : ∀ y ∈ (entS L).1, cellData y := fun y hy => fineData (hL y ((entS_mem L y).1 hy))
  have hle := entS_le L
  have hw := ent_words (l := L) hn
  have hel := encL_len hw (by have := (entS_is L).len; omega)
  have hpl := (entS_is L).len
  obtain ⟨M, hM⟩ : ∃ M, M = dictB t L := ⟨_, rfl⟩
  rw [← hM]
  unfold dictB at hM
  simp only [hn, if_true] at hM
  unfold EntPost at C
  generalize (entS L).1 = E at *
  generalize (entS L).2 = P at *
  have hvl : ∀ V, plO t E = some V → V.length ≤ 4300000000 := fun V hV => by
    obtain ⟨a, b⟩ := plO_iff.1 hV
    rw [← b]; exact plB_len a
  have HM := Lib.hid hM
  have HED := Lib.hid hED
  have HW := Lib.hid hw
  have HPL := Lib.hid hpl
  have HVL := Lib.hid hvl
  have HEL : Hid ((encL P).length ≤ 40000000000) := Lib.hid (by rw [hpl] at hel; omega)
  clear hM hED hw h hL hvl hel hpl
  go_enter Try.func8, Try.ntmps8
  go_wp2_with fail
  refine C.out.mono ?_
  rintro e w1 ⟨A1, n1, c1, A2, c2, rfl, o1, o2, b1⟩
  have hn1 : n1 = E.length := (Reads.of_own o1).lenCell
  have hz1 := b1.size
  have PE := plain_any (t := t) (c := c1) (Reads.of_own o1) HED.out (by omega)
  have RE := Lib.hid (fun (W : World) (hW : New w1 W) => enc_all (c := c2) (o2.later hW).reads o2.cap.1 HW.out (by omega))
  have hq1 : n1 ≤ 65536 := by omega
  have HN1 := Lib.hid hn1
  generalize plO t E = O at *
  have PE := Lib.hid PE
  clear C hle o1 hn1 o2
  go_wp2_with fail
  refine PE.out.mono ?_
  intro e w2 h2
  cases O with
  | none =>
    obtain ⟨rfl, b2⟩ := h2
    go_wp2_with fail
    go_ret2
    have hM := HM.out
    rw [hM]
    exact ⟨rfl, New.trans b1 b2⟩
  | some V =>
    obtain ⟨A3, n3, c3, rfl, o3, b2⟩ := h2
    have hn3 : n3 = V.length := by have := o3.len; rwa [nums_length] at this
    have hV := HVL.out V rfl
    have RW := Lib.hid (RE.out w2 b2)
    have b02 := New.trans b1 b2
    have hz2 := b02.size
    have HN3 := Lib.hid hn3
    have hq3 : n3 ≤ 4300000000 := by omega
    have hw1 : IntKind.u64.wrap (n1 : Int) = (n1 : Int) := by rw [IntKind.wrap_u64]; omega
    have hw3 : IntKind.u64.wrap (n3 : Int) = (n3 : Int) := by rw [IntKind.wrap_u64]; omega
    have P1 : Hid (∀ W, Calls Try.prog 15 #[.slice none 0 0, .int .u64 (n1 : Int)] W (BytesPost ([] ++ vp E.length) W)) := Lib.hid (fun W => by rw [HN1.out]; exact put_any none 0 0 [] E.length W Reads.none_ (by omega) (by have := HN1.out; omega))
    have P3 : Hid (∀ W, Calls Try.prog 15 #[.slice none 0 0, .int .u64 (n3 : Int)] W (BytesPost ([] ++ vp V.length) W)) := Lib.hid (fun W => by rw [HN3.out]; exact put_any none 0 0 [] V.length W Reads.none_ (by omega) (by omega))
    have V1 := vp_len10 (n := E.length) (by have := HN1.out; omega)
    have V3 := vp_len10 (n := V.length) (by omega)
    clear hn3 hV RE
    go_wp2_with fail
    refine RW.out.mono ?_
    rintro e w3 ⟨A4, n4, c4, rfl, o4, b3⟩
    have hq4 : n4 ≤ 40000000000 := by have := o4.len; rw [nums_length] at this; have := HEL.out; omega
    have o3 := o3.later b3
    have b03 := New.trans b02 b3
    have hz3 := b03.size
    clear RW b02 b2 b3 b1
    go_wp2_with fail
    refine (P1.out _).mono ?_
    rintro e w4 ⟨A5, n5, c5, rfl, k5, b4⟩
    rw [List.nil_append] at k5
    have hq5 : n5 ≤ 10 := by have := k5.len; rw [nums_length] at this; omega
    have h35 := apart_sym (ownApart k5 (o3.base_le (Nat.zero_le _)))
    have h45 := apart_sym (ownApart k5 (o4.base_le (Nat.zero_le _)))
    have o3 := o3.later b4
    have o4 := o4.later b4
    have b04 := New.trans b03 b4
    have hz4 := b04.size
    have k5 := k5.base_le hz3
    clear b4 b03 P1
    go_wp2_with fail
    refine (P3.out _).mono ?_
    rintro e w5 ⟨A6, n6, c6, rfl, k6, b5⟩
    rw [List.nil_append] at k6
    have hq6 : n6 ≤ 10 := by have := k6.len; rw [nums_length] at this; omega
    have o3 := o3.later b5
    have o4 := o4.later b5
    have k5 := k5.later b5
    have b05 := New.trans b04 b5
    have hz5 := b05.size
    clear b5 b04 P3
    go_wp2_with (first
      | (refine wpList_pushesN elB rfl (.tmp 36) (.tmp 40) rfl (W := w) (B := w.heap.size) k5 k6.reads rfl rfl b05 (Nat.le_refl _) (by omega) (by omega) (by simp only [maxLen]; omega) ?_
         intro A7 c7 w7 _ _ o7 g7 b7 d7
         have h37 := apartNext h35 d7 o3
         have h47 := apartNext h45 d7 o4
         have p3 := o3.kept g7 h35
         have p4 := o4.kept g7 h45
         have hz7 := b7.size
         clear k5 k6 o3 o4 g7 d7 h35 h45)
      | (refine wpList_pushesN elB rfl (.tmp 42) (.tmp 43) rfl (W := w) (B := w.heap.size) o7 p3.reads rfl rfl b7 (Nat.le_refl _) (by omega) (by omega) (by simp only [maxLen]; omega) ?_
         intro A8 c8 w8 _ _ o8 g8 b8 d8
         have q4 := p4.kept g8 h47
         have hz8 := b8.size
         clear o7 p3 p4 g8 h37 h47)
      | (refine wpList_pushesN elB rfl (.tmp 45) (.tmp 46) rfl (W := w) (B := w.heap.size) o8 q4.reads rfl rfl b8 (Nat.le_refl _) (by omega) (by omega) (by simp only [maxLen]; omega) ?_
         intro A9 c9 w9 _ _ o9 _ b9 _))
    go_ret2
    have hM := HM.out
    rw [hM]
    exact ⟨_, _, _, rfl, o9, b9⟩

end Go.Proofs.Ytnghjkihdcmoiaa
/- The contract of dict.Decode. -/

namespace Go.Hm
open Go Go.RowKit
theorem set5_app {A B : List Value} {x y z u v a b c d e : Value} {m : Nat} (h : A.length = m) :
    (((((A ++ ([x, y, z, u, v] ++ B)).set m a).set (m + 1) b).set (m + 1 + 1) c).set (m + 1 + 1 + 1) d).set (m + 1 + 1 + 1 + 1) e = A ++ ([a, b, c, d, e] ++ B) := by
  subst h
  rw [List.set_append_right _ _ (Nat.le_refl _), Nat.sub_self, List.set_append_right _ _ (by omega), List.set_append_right _ _ (by omega), List.set_append_right _ _ (by omega), List.set_append_right _ _ (by omega),
    show A.length + 1 - A.length = 1 by omega, show A.length + 1 + 1 - A.length = 2 by omega, show A.length + 1 + 1 + 1 - A.length = 3 by omega, show A.length + 1 + 1 + 1 + 1 - A.length = 4 by omega]
  rfl

section
variable {P : Program}
/-- A record of five cells is stored into a row. -/
theorem wpList_setR5 {ops : Array Oper} {rest : List Oper} {op : Oper} {a : Act} {w : World} {Q : Exit → Act → World → Prop} (hgd : op.guard = none) (ty : TypeId) (x y : Operand) (ho : op.op = .store ty x y)
    {base : Nat} {e : TypeId} {g n m : Nat} {A B : List CellS} {old new : CellS} (hown : w.ownsRow base e 5 (.slice (some ⟨g, 0, none⟩) n n) n (recs cellV (A ++ old :: B))) (hm : A.length = m) (hmn : m < n)
    (hx : a.eval x = .pointer (some ⟨g, m * 5, none⟩)) (hy : a.eval y = cellA new) (hi : (P.info? ty).map (·.size) = some 5)
    (h : ∀ W, W.ownsRow base e 5 (.slice (some ⟨g, 0, none⟩) n n) n (recs cellV (A ++ new :: B)) → w.grownBy W (some g) → wpList P ops Q rest (a.put op.dst undef) W) : wpList P ops Q (op :: rest) a w := by
  obtain ⟨cs, hB⟩ := row_blk hown
  obtain ⟨ad, ea, -, c0, c1, c2, c3, c4⟩ := (Reads.of_own hown).cell5 (i := m) hmn
  injection ea with ea
  subst ea
  have ead : (⟨g, 0, none⟩ : Addr).add (m * 5) = ⟨g, m * 5, none⟩ := by
    unfold Addr.add
    split <;> simp_all
  rw [ead] at c0 c1 c2 c3 c4
  dsimp only at c0 c1 c2 c3 c4
  obtain ⟨v0, v1, v2, v3, v4⟩ := new
  have ht : w.there g (m * 5) (#[Value.bool v0, .int .i64 v1, .string (bstr v2), .int .i64 v3, .int .i64 v4] : Array Value).size := by
    intro j hj
    have hj : j < 5 := hj
    refine ⟨?_, hB.frozen _⟩
    have : j = 0 ∨ j = 1 ∨ j = 2 ∨ j = 3 ∨ j = 4 := by omega
    rcases this with rfl | rfl | rfl | rfl | rfl
    · rw [Nat.add_zero, c0]; rfl
    · rw [c1]; rfl
    · rw [c2]; rfl
    · rw [c3]; rfl
    · rw [c4]; rfl
  refine wpList_store_mid hgd ty x y ho g (m * 5) #[.bool v0, .int .i64 v1, .string (bstr v2), .int .i64 v3, .int .i64 v4] hx hy ht hi (by simp [Value.oneCell']) ?_
  obtain ⟨o1, -⟩ := World.ownsRow.stored hown (m * 5) (.bool v0)
  obtain ⟨o2, -⟩ := World.ownsRow.stored o1 (m * 5 + 1) (.int .i64 v1)
  obtain ⟨o3, -⟩ := World.ownsRow.stored o2 (m * 5 + 1 + 1) (.string (bstr v2))
  obtain ⟨o4, -⟩ := World.ownsRow.stored o3 (m * 5 + 1 + 1 + 1) (.int .i64 v3)
  obtain ⟨o5, -⟩ := World.ownsRow.stored o4 (m * 5 + 1 + 1 + 1 + 1) (.int .i64 v4)
  have l : (recs cellV A).length = m * 5 := by rw [recs_length (sz := 5) (fun _ => rfl) A, hm]
  rw [recs_append, show recs cellV (old :: B) = [Value.bool old.1, .int .i64 old.2.1, .string (bstr old.2.2.1), .int .i64 old.2.2.2.1, .int .i64 old.2.2.2.2] ++ recs cellV B from rfl, set5_app l] at o5
  rw [recs_append, show recs cellV ((v0, v1, v2, v3, v4) :: B) = [Value.bool v0, .int .i64 v1, .string (bstr v2), .int .i64 v3, .int .i64 v4] ++ recs cellV B from rfl] at h
  exact h _ o5 (((((setCell_gr (w := w) (g := g)).trans setCell_gr).trans setCell_gr).trans setCell_gr).trans setCell_gr)
end

end Go.Hm

namespace Go.Proofs.Ytnghjkihdcmoiaa
open Go.RowKit Go.Hm
theorem isDec_ex {b : List Nat} {n : Int} : ∃ o, IsDec b n o := by
  by_cases h : ∃ l : List Nat, (l.length : Int) = n ∧ l.length ≤ 65536 ∧ (∀ x ∈ l, x ≤ 18446744073709551615) ∧ encL l = b
  · obtain ⟨l, hl⟩ := h
    refine ⟨some l, fun l' => ⟨fun e => by injection e with e; subst e; exact hl, fun h' => ?_⟩⟩
    rw [encL_inj hl.2.1 h'.2.1 hl.2.2.1 h'.2.2.1 (by rw [hl.2.2.2, h'.2.2.2])]
  · exact ⟨none, isDec_none fun l h1 h2 h3 h4 => h ⟨l, h1, h2, h3, h4⟩⟩
def DDec (t : Int) (b : List Nat) (n : Int) (w : World) (e : Ending) (w' : World) : Prop := ∃ o, IsDic t b n o ∧ OptC o w e w'
theorem fineOf {t : Int} {l : List CellS} {b : List Nat} (hd : ∀ c ∈ l, cellData c) (h : plO t l = some b) : ∀ c ∈ l, CellFine c := fun c hc => by
  have hr := (plOk_iff.1 (plO_iff.1 h).1).2 c hc
  have hn : (-1048576 ≤ c.2.2.2.1 ∧ c.2.2.2.1 ≤ 1048576) ∧ -1048576 ≤ c.2.2.2.2 ∧ c.2.2.2.2 ≤ 1048576 := by
    have h0 := right0 hr
    unfold rightB at hr
    rw [h0] at hr
    rcases rightB_t ((plOk_iff.1 (plO_iff.1 h).1).2 c hc) with rfl | rfl | rfl | rfl
    · simp at hr; omega
    · simp at hr; omega
    · simp at hr; omega
    · simp [inBox] at hr; omega
  exact ⟨(hd c hc).1, (hd c hc).2, by omega, by omega⟩
theorem row_ne_cur {w : World} {g base sz n : Nat} {S : St} {v : Value} {xs : List Value} (o : w.ownsRow base 40 sz v n xs) (h : CurS w g S) : v.ownBlock ≠ some g := by
  obtain ⟨cs, hB⟩ := h.blk
  exact row_blk_ne o hB (by decide)
set_option maxHeartbeats 1500000 in
set_option maxRecDepth 100000 in
theorem ddecode_any {w : World} {A : Option Addr} {c m : Nat} {b : List Nat} {t n : Int} (h : Reads w w.heap.size 1 A m (nums .u8 b)) (h8 : ∀ x ∈ b, x < 256) (hm : m ≤ 140737488351232) (hn0 : -9223372036854775808 ≤ n) (hn1 : n ≤ 9223372036854775807) :
    Calls Try.prog 9 #[.int .i64 t, .slice A m c, .int .i64 n] w (DDec t b n w) := by
  obtain rfl : m = b.length := h.len
  have C := Lib.hid (over_any (c := c) h (by omega) h8)
  have hok : St.ok (some b) := St.ok_some h8
  obtain ⟨cnt, S1, k1⟩ : ∃ cnt S1, lenS n (some b) = (cnt, S1) := ⟨_, _, rfl⟩
  have hok1 : S1.ok := by have := lenS_ok (m := n) hok; rwa [k1] at this
  obtain ⟨sz, S2, k2⟩ : ∃ sz S2, lenS ((S1.getD []).length : Int) S1 = (sz, S2) := ⟨_, _, rfl⟩
  have hok2 : S2.ok := by have := lenS_ok (m := ((S1.getD []).length : Int)) hok1; rwa [k2] at this
  obtain ⟨x, S3, k3⟩ : ∃ x S3, takeS (sz : Int) S2 = (x, S3) := ⟨_, _, rfl⟩
  have htk := takeS_ok (n := (sz : Int)) hok2
  rw [k3] at htk
  obtain ⟨y, S4, k4⟩ : ∃ y S4, takeS ((S3.getD []).length : Int) S3 = (y, S4) := ⟨_, _, rfl⟩
  have hty := takeS_ok (n := ((S3.getD []).length : Int)) htk.1
  rw [k4] at hty
  have hs1 : (S1.getD []).length ≤ b.length := by have := lenS_sub (m := n) hok; rwa [k1] at this
  have hs2 : (S2.getD []).length ≤ (S1.getD []).length := by have := lenS_sub (m := ((S1.getD []).length : Int)) hok1; rwa [k2] at this
  have hs3 : (S3.getD []).length ≤ (S2.getD []).length := by have := takeS_less (n := (sz : Int)) S2; rwa [k3] at this
  have hszl : (sz : Int) ≤ ((S1.getD []).length : Int) := by have := lenS_le (m := ((S1.getD []).length : Int)) S1 (by omega) hok1; rwa [k2] at this
  have hxl : x.length ≤ b.length := by have := takeS_len (n := (sz : Int)) (S := S2) (by omega); rw [k3] at this; dsimp only at this; omega
  have hyl : y.length ≤ b.length := by have := takeS_len (n := ((S3.getD []).length : Int)) (S := S3) (by omega); rw [k4] at this; dsimp only at this; omega
  have MK := Lib.hid (fun o1 o2 (hp : IsPl cellData t x (cnt : Int) o1) (hd : IsDec y n o2) => isDic_mk h8 (by omega) hn1 k1 k2 k3 hp k4 hd)
  have HX8 := Lib.hid htk.2
  have HY8 := Lib.hid hty.2
  clear hok hok1 hok2 htk hty h h8
  go_enter Try.func9, Try.ntmps9
  go_wp2_with fail
  refine C.out.mono ?_
  rintro e w1 ⟨g, rfl, hg, C1, b1⟩
  have L1 := lenS_any (m := n) (CurS.of C1) hn0 hn1
  rw [k1] at L1
  have L1 := Lib.hid L1
  clear C C1
  go_wp2_with fail
  refine L1.out.mono ?_
  rintro e w2 ⟨rfl, s2, g2⟩
  have b2 := Far.below b1 g2 hg (Nat.le_refl _)
  have LF := Lib.hid (leftS s2)
  have L2 := lenS_any (m := ((S1.getD []).length : Int)) s2 (by omega) (by omega)
  rw [k2] at L2
  have L2 := Lib.hid L2
  clear L1 g2 b1
  unfold LeftPost at LF
  generalize (S1.getD []).length = q1 at *
  go_wp2_with fail
  refine LF.out.mono ?_
  rintro e w2' ⟨rfl, rfl⟩
  go_wp2_with fail
  refine L2.out.mono ?_
  rintro e w3 ⟨rfl, s3, g3⟩
  have b3 := Far.below b2 g3 hg (Nat.le_refl _)
  have T1 := takeS_any (n := (sz : Int)) s3 (by omega) (by omega)
  rw [k3] at T1
  have T1 := Lib.hid T1
  clear L2 g3 b2 LF s2
  go_wp2_with fail
  refine T1.out.mono ?_
  rintro e w4 ⟨A4, n4, c4, rfl, rfl, o4, s4, g4⟩
  have b4 := Far.below b3 g4 hg (Nat.le_refl _)
  have PD := Lib.hid (pdecode_all (t := t) (n := (cnt : Int)) (c := c4) o4.reads HX8.out (by omega))
  clear T1 g4 b3 o4 s3
  go_wp2_with fail
  refine PD.out.mono ?_
  rintro e w5 ⟨o1, hp, h5⟩
  have MK := Lib.hid (fun o2 hd => MK.out o1 o2 hp hd)
  cases o1 with
  | none =>
    obtain ⟨rfl, b5⟩ := h5
    have b05 := New.trans b4 b5
    clear PD hp
    go_wp2_with fail
    go_ret2
    obtain ⟨o2, hd⟩ := isDec_ex (b := y) (n := n)
    have := MK.out o2 hd
    refine ⟨none, ?_, rfl, b05⟩
    simpa [dicO] using this
  | some E =>
    obtain ⟨A5, n5, c5, rfl, o5, b5⟩ := h5
    obtain ⟨hE1, hE2, hE3⟩ := hp.sound E rfl
    have hfine := fineOf hE3 hE2
    have hcnt : cnt ≤ 65536 := by have := (plOk_iff.1 (plO_iff.1 hE2).1).1; omega
    have hEl : E.length = cnt := by omega
    obtain rfl : cnt = n5 := by have := (Reads.of_own o5).lenCell; omega
    have HEl := Lib.hid hEl
    clear hEl
    have b05 := New.trans b4 b5
    have s5 := s4.below b5
    have BD := Lib.hid (badS s5)
    have HF := Lib.hid hfine
    clear PD hp b4 b5 s4 hE1 hE2 hE3 hfine
    cases S3 with
    | none =>
      go_wp2_with fail
      refine BD.out.mono ?_
      rintro e w5' ⟨rfl, rfl⟩
      go_wp2_with fail
      go_ret2
      obtain ⟨o2, hd⟩ := isDec_ex (b := y) (n := n)
      have := MK.out o2 hd
      refine ⟨none, ?_, rfl, b05⟩
      simpa [dicO] using this
    | some R =>
      have UL := Lib.hid (unlike_any (c := c5) (Reads.of_own o5) HF.out (by omega))
      simp only [Option.isNone_some] at BD
      go_wp2_with fail
      refine BD.out.mono ?_
      rintro e w5' ⟨rfl, rfl⟩
      go_wp2_with fail
      refine UL.out.mono ?_
      rintro e w6 ⟨rfl, b6⟩
      have b06 := New.trans b05 b6
      have s6 := s5.below b6
      have o6 := row_later o5 b6
      clear UL BD b05 s5 b6 o5
      by_cases hnd : E.Nodup
      · have e1 : decide E.Nodup = true := decide_eq_true hnd
        have LF := Lib.hid (leftS s6)
        have T2 := takeS_any (n := (((some R : St).getD []).length : Int)) s6 (by omega) (by omega)
        rw [k4] at T2
        have T2 := Lib.hid T2
        have RG := s6.lt
        have HND := Lib.hid hnd
        clear hnd
        unfold LeftPost at LF
        generalize ((some R : St).getD []).length = q2 at *
        rw [e1]
        go_wp2_with fail
        refine LF.out.mono ?_
        rintro e w6' ⟨rfl, rfl⟩
        go_wp2_with fail
        refine T2.out.mono ?_
        rintro e w7 ⟨A7, n7, c7, rfl, rfl, o7, s7, g7⟩
        have b07 := Far.below b06 g7 hg (Nat.le_refl _)
        have RD := Lib.hid (decode_all (c := c7) (n := n) o7.reads HY8.out (by omega))
        have r6 := o6.kept g7 (.inr (row_ne_cur o6 s6))
        clear T2 LF g7 b06 o7 s6 s7 o6
        go_wp2_with fail
        refine RD.out.mono ?_
        rintro e w8 ⟨o2, hd, h8⟩
        have HK := MK.out o2 hd
        cases o2 with
        | none =>
          obtain ⟨rfl, b8⟩ := h8
          go_wp2_with fail
          go_ret2
          refine ⟨none, ?_, rfl, New.trans b07 b8⟩
          simpa [dicO] using HK
        | some P =>
          obtain ⟨A8, n8, c8, rfl, o8, b8⟩ := h8
          have b08 := New.trans b07 b8
          have r8 := row_later r6 b8
          obtain ⟨d1, d2, d3, -⟩ := (hd P).1 rfl
          have hn8 : n8 = P.length := by have := o8.len; rwa [nums_length] at this
          have IO := Lib.hid (inOrder_any (c := c8) (m := cnt) o8.reads d3 (by omega) (by omega))
          have HN8 := Lib.hid hn8
          have HD1 := Lib.hid d1
          have HD2 := Lib.hid d2
          clear RD b07 b8 r6 hd hn8 d1 d2
          go_wp2_with fail
          refine IO.out.mono ?_
          rintro e w8' ⟨rfl, rfl⟩
          by_cases hor : ordL P = some cnt
          · have e2 : decide (ordL P = some cnt) = true := decide_eq_true hor
            have HK : Hid (IsDic t b n (some (P.map fun p => E.getD p cellZ))) := Lib.hid (by
              have := HK
              unfold dicO at this
              dsimp only at this
              rwa [if_pos ⟨HND.out, hor⟩] at this)
            have hlt := ordL_lt P cnt hor
            have HLT := Lib.hid hlt
            have hz8 := b08.size
            have hn8 := HN8.out
            have d1 := HD1.out
            have d2 := HD2.out
            obtain ⟨N, rfl⟩ : ∃ N : Nat, n = (N : Int) := ⟨P.length, d1.symm⟩
            obtain rfl : n8 = N := by omega
            have RE := Lib.hid (Reads.of_own r8)
            have RP := Lib.hid o8.reads
            have HPl := Lib.hid hn8.symm
            have hn8b : n8 ≤ 65536 := by omega
            clear IO hor hlt r8 o8 d1 d2 d3 hn8 MK HN8 HD1 HD2
            rw [e2]
            go_wp2_with (refine wpList_mkR5 elC9 rfl (.tmp 63) (.tmp 63) rfl (W := w) (B := w.heap.size) n8 rfl rfl rfl rfl b08 hz8 (by omega) (by simp only [maxLen]; omega) ?_
                         intro w9 o9 g9 b9 hs9)
            rw [recs_rep0] at o9
            have b89 : New w8 w9 := (Turns.of_none (T := []) g9).new (by simp)
            go_loopw [67] (fun i wr => ∃ k : Nat, k ≤ n8 ∧ i = .int .i64 (k : Int) ∧ wr.ownsRow w8.heap.size 40 5 (.slice (some ⟨w8.heap.size, 0, none⟩) n8 n8) n8 (recs cellV ((P.take k).map (fun p => E.getD p cellZ) ++ List.replicate (n8 - k) cell0)) ∧ New w8 wr) (fun i _ => n8 - (intOf i).toNat)
            case atStart => exact ⟨0, Nat.zero_le _, rfl, by simpa using o9, b89⟩
            case round =>
              obtain ⟨k, hk, rfl, o, hb⟩ := hrel
              clear o9 g9 b9 b89 hs9
              by_cases hlt : k < n8
              · obtain ⟨ax, rfl, hbx, qx⟩ := (Reads.later RP.out hb).num (i := k) hlt
                have hxl := HLT.out (P.getD k 0) (by rw [List.getD_eq_getElem?_getD, List.getElem?_eq_getElem (by rw [HPl.out]; exact hlt)]; exact List.getElem_mem _)
                have htk := take_snoc P k 0 (by rw [HPl.out]; exact hlt)
                have hA : ((P.take k).map (fun p => E.getD p cellZ)).length = k := by rw [List.length_map, List.length_take, HPl.out]; omega
                rw [show n8 - k = (n8 - (k + 1)) + 1 by omega, List.replicate_succ] at o
                have enx : recs cellV ((P.take k).map (fun p => E.getD p cellZ) ++ E.getD (P.getD k 0) cellZ :: List.replicate (n8 - (k + 1)) cell0) = recs cellV ((P.take (k + 1)).map (fun p => E.getD p cellZ) ++ List.replicate (n8 - (k + 1)) cell0) := by
                  rw [htk, List.map_append, List.append_assoc]
                  rfl
                obtain ⟨ae, rfl, hbe, q0, q1, q2, q3, q4⟩ := (Reads.later RE.out hb).cell5 (i := P.getD k 0) hxl
                have HN := Lib.hid enx
                clear enx htk
                generalize P.getD k 0 = x at *
                generalize E.getD x cellZ = y at *
                obtain ⟨y0, y1, y2, y3, y4⟩ := y
                dsimp only at q0 q1 q2 q3 q4
                have ead : (⟨w8.heap.size, 0, none⟩ : Addr).add (k * 5) = ⟨w8.heap.size, k * 5, none⟩ := by
                  unfold Addr.add
                  split <;> simp_all
                have HO := Lib.hid o
                have HA := Lib.hid hA
                clear o hA
                go_wp2_with (refine wpList_setR5 rfl 40 (.tmp 78) (.tmp 77) rfl (new := (y0, y1, y2, y3, y4)) HO.out HA.out hlt rfl rfl (by kernel_rfl) ?_
                             intro W5 o5 g5
                             rw [HN.out] at o5
                             have hb5 := Far.below hb g5 (Nat.le_refl _) (Nat.le_refl _))
                go_roundw
                case rel => exact ⟨k + 1, by omega, by go_num, o5, hb5⟩
                case measure => simp [intOf]; omega
              · have hkk : k = n8 := by omega
                subst hkk
                rw [Nat.sub_self, List.replicate_zero, List.append_nil, show P.take k = P from List.take_of_length_le (by rw [HPl.out]; exact Nat.le_refl _)] at o
                go_wp2_with fail
                go_ret2
                exact ⟨_, HK.out, _, _, _, rfl, row_base o hz8, New.trans b08 hb⟩
          · have e2 : decide (ordL P = some cnt) = false := decide_eq_false hor
            rw [e2]
            go_wp2_with fail
            go_ret2
            refine ⟨none, ?_, rfl, b08⟩
            unfold dicO at HK
            dsimp only at HK
            rwa [if_neg (fun h => hor h.2)] at HK
      · have e1 : decide E.Nodup = false := decide_eq_false hnd
        rw [e1]
        go_wp2_with fail
        go_ret2
        obtain ⟨o2, hd⟩ := isDec_ex (b := y) (n := n)
        have HK := MK.out o2 hd
        refine ⟨none, ?_, rfl, b06⟩
        unfold dicO at HK
        cases o2 with
        | none => exact HK
        | some P =>
          dsimp only at HK
          rwa [if_neg (fun h => hnd h.1)] at HK

end Go.Proofs.Ytnghjkihdcmoiaa
/- The small case of layer 11's statements. -/

namespace Go.Proofs.Ytnghjkihdcmoiaa
open Go.RowKit Go.Hm
def dcA : CellS := (false, 0, [97], 0, 0)
def dcB : CellS := (false, 0, [98], 0, 0)
theorem dsm_ent : entS [dcA, dcB, dcA] = ([dcA, dcB], [0, 1, 0]) := by decide
theorem dsm_pl : plO 2 [dcA, dcB] = some [1, 97, 1, 98] := by
  unfold plO
  rw [if_pos (by decide)]
  simp [plB, plE, dcA, dcB, vp_lt]
theorem dsm_pcs : pcs [0, 1, 0] = [[0, 1, 0]] := by
  unfold pcs
  rw [cutP_rest (by decide) (by decide)]
  have e : List.drop (st [0, 1, 0]) [0, 1, 0] = [1, 0] := by decide
  rw [e, cutP_rest (by decide) (by decide)]
  have e : List.drop (st [1, 0]) [1, 0] = [0] := by decide
  rw [e, cutP_rest (by decide) (by decide)]
  have e : List.drop (st [0]) [0] = [] := by decide
  rw [e, cutP_nil]
  decide
theorem dsm_enc : encL [0, 1, 0] = [7, 1, 2] := by
  unfold encL
  rw [dsm_pcs]
  simp [encP, vp_lt]
  decide
theorem dsm_dict : dictB 2 [dcA, dcB, dcA] = some [2, 4, 1, 97, 1, 98, 7, 1, 2] := by
  unfold dictB
  rw [dsm_ent]
  dsimp only
  rw [dsm_pl]
  dsimp only
  rw [if_pos (by decide), dsm_enc]
  simp [vp_lt]
theorem dsm_no : dictB 0 [dcA, dcB, dcA] = none := by
  unfold dictB
  rw [dsm_ent]
  dsimp only
  unfold plO
  rw [if_neg (by decide)]
theorem dsm_data : ∀ y ∈ [dcA, dcB, dcA], CellFine y := by
  intro y hy
  simp at hy
  rcases hy with rfl | rfl | rfl
  all_goals exact ⟨⟨by decide, by decide⟩, ⟨by decide, by decide⟩, ⟨by decide, by decide⟩, by decide, by decide⟩
/-- Cells that are laid as others have as many places. -/
theorem dictB_places {t : Int} {l k : List CellS} {b : List Nat} (h : dictB t l = some b) (h' : dictB t k = some b) : l.length = k.length := by
  unfold dictB at h h'
  split at h
  · cases h
  · rename_i V hV
    split at h
    · rename_i hl
      split at h'
      · cases h'
      · rename_i V' hV'
        split at h'
        · rename_i hl'
          injection h with h
          injection h' with h'
          have w1 := ent_words hl
          have w2 := ent_words hl'
          have p1 := (entS_is l).len
          have p2 := (entS_is k).len
          have e1 := entS_le l
          have e2 := entS_le k
          have v1 : V.length ≤ 4300000000 := by rw [← (plO_iff.1 hV).2]; exact plB_len (plO_iff.1 hV).1
          have v2 : V'.length ≤ 4300000000 := by rw [← (plO_iff.1 hV').2]; exact plB_len (plO_iff.1 hV').1
          generalize (entS l).1 = E at *
          generalize (entS l).2 = P at *
          generalize (entS k).1 = E' at *
          generalize (entS k).2 = P' at *
          have a := lenS_app E.length (vp V.length ++ (V ++ encL P)) (m := 65536) (by omega) (by omega)
          have a' := lenS_app E'.length (vp V'.length ++ (V' ++ encL P')) (m := 65536) (by omega) (by omega)
          have hb : vp E.length ++ (vp V.length ++ (V ++ encL P)) = vp E'.length ++ (vp V'.length ++ (V' ++ encL P')) := by
            rw [← h'] at h
            simpa using h
          rw [hb, a'] at a
          injection a with a0 a
          injection a with a
          have c := lenS_app V.length (V ++ encL P) (m := 4300000000) (by omega) (by omega)
          have c' := lenS_app V'.length (V' ++ encL P') (m := 4300000000) (by omega) (by omega)
          rw [← a, c'] at c
          injection c with c0 c
          injection c with c
          have hv : V' = V ∧ encL P' = encL P := List.append_inj c c0
          have := encL_inj (by omega) (by omega) w2 w1 hv.2
          rw [← p1, ← p2, this]
        · cases h'
    · cases h
theorem dsm_three {o : Option (List CellS)} (h : IsDic 2 [2, 4, 1, 97, 1, 98, 7, 1, 2] 3 o) : o = some [dcA, dcB, dcA] := h.compl _ (fun c hc => fineData (dsm_data c hc)) rfl dsm_dict
theorem dsm_two {o : Option (List CellS)} (h : IsDic 2 [2, 4, 1, 97, 1, 98, 7, 1, 2] 2 o) : o = none := by
  cases o with
  | none => rfl
  | some l =>
    obtain ⟨a, b, _⟩ := h.sound l rfl
    have := dictB_places b dsm_dict
    simp at this
    omega
theorem dsm_str : (bstr [2, 4, 1, 97, 1, 98, 7, 1, 2]).toList = [2, 4, 1, 97, 1, 98, 7, 1, 2] := by rw [bstr_toList]; rfl
set_option maxHeartbeats 1000000 in
set_option maxRecDepth 100000 in
theorem small11_any (w : World) : Calls Try.prog 6 #[] w (SmallPost w) := by
  have RL := Reads.litR w 40 #[.bool false, .int .i64 0, .string ⟨#[97]⟩, .int .i64 0, .int .i64 0, .bool false, .int .i64 0, .string ⟨#[98]⟩, .int .i64 0, .int .i64 0, .bool false, .int .i64 0, .string ⟨#[97]⟩, .int .i64 0, .int .i64 0] 3 5 (recs cellV [dcA, dcB, dcA]) rfl rfl
  have b0 : New w (w.alloc (.cells #[.bool false, .int .i64 0, .string ⟨#[97]⟩, .int .i64 0, .int .i64 0, .bool false, .int .i64 0, .string ⟨#[98]⟩, .int .i64 0, .int .i64 0, .bool false, .int .i64 0, .string ⟨#[97]⟩, .int .i64 0, .int .i64 0] 40)) := (Below.refl _ _).alloc (Nat.le_refl _) _
  have hS := dsm_str
  have E1 := Lib.hid (entries_any (c := 3) RL dsm_data (by omega))
  have HRL := Lib.hid RL
  clear RL
  go_enter Try.func6, Try.ntmps6
  go_wp2_with fail
  refine E1.out.mono ?_
  rintro e w1 ⟨A1, n1, c1, A2, c2, rfl, o1, o2, b1⟩
  rw [dsm_ent] at o1 o2
  dsimp only at o1 o2
  rw [show [dcA, dcB, dcA].length = 3 from rfl] at o2
  obtain rfl : n1 = 2 := (Reads.of_own o1).lenCell
  have RL1 := Reads.later HRL.out b1
  have b01 := New.trans b0 b1
  have D1 := dencode_any (t := 2) (c := 3) RL1 dsm_data (by omega)
  rw [dsm_dict] at D1
  have D1 := Lib.hid D1
  have HR1 := Lib.hid RL1
  clear E1 HRL RL1 b0 b1
  go_wp2_with fail
  refine D1.out.mono ?_
  rintro e w2 ⟨A3, n3, c3, rfl, o3, b2⟩
  obtain rfl : n3 = 9 := by have := o3.len; rw [nums_length] at this; simpa using this
  have b02 := New.trans b01 b2
  have R2 := o3.reads
  have HR2 := Lib.hid (Reads.later HR1.out b2)
  have o1 := row_later o1 b2
  have o2 := o2.later b2
  have DD := Lib.hid (ddecode_any (t := 2) (n := 3) (c := c3) R2 (by decide) (by omega) (by omega) (by omega))
  clear D1 HR1 b2 o3 b01
  go_wp2_with fail
  refine DD.out.mono ?_
  rintro e w3 ⟨o, ho, h3⟩
  obtain rfl := dsm_three ho
  obtain ⟨A4, n4, c4, rfl, o4, b3⟩ := h3
  obtain rfl : n4 = 3 := (Reads.of_own o4).lenCell
  have b03 := New.trans b02 b3
  have R2 := Reads.later R2 b3
  have HR3 := Lib.hid (Reads.later HR2.out b3)
  have o1 := row_later o1 b3
  have o2 := o2.later b3
  have DD := Lib.hid (ddecode_any (t := 2) (n := 2) (c := c3) R2 (by decide) (by omega) (by omega) (by omega))
  clear ho HR2 b3 b02
  go_wp2_with fail
  refine DD.out.mono ?_
  rintro e w4 ⟨o, ho, h4⟩
  obtain rfl := dsm_two ho
  obtain ⟨rfl, b4⟩ := h4
  have b04 := New.trans b03 b4
  have R2 := Reads.later R2 b4
  have HR4 := Lib.hid (Reads.later HR3.out b4)
  have o1 := row_later o1 b4
  have o2 := o2.later b4
  have o4 := row_later o4 b4
  have D2 := dencode_any (t := 0) (c := 3) HR4.out dsm_data (by omega)
  rw [dsm_no] at D2
  have D2 := Lib.hid D2
  clear ho HR3 DD b4 b03
  go_wp2_with fail
  refine D2.out.mono ?_
  rintro e w5 ⟨rfl, b5⟩
  have b05 := New.trans b04 b5
  have R2 := Reads.later R2 b5
  have HR5 := Lib.hid (Reads.later HR4.out b5)
  have o1 := row_later o1 b5
  have o2 := o2.later b5
  have o4 := row_later o4 b5
  obtain ⟨ad, rfl, hb, q0, q1, q2, q3, q4⟩ := (Reads.of_own o1).cell5 (i := 1) (by omega)
  have q2 : w5.cell? ⟨ad.block, ad.off + 5 + 2, none⟩ = some (.string ⟨#[98]⟩) := q2
  have q7 : w5.cell? ⟨ad.block, ad.off + 7, none⟩ = some (.string ⟨#[98]⟩) := q2
  have SM := same_any (c := c2) (c2 := 3) (o2.reads.over (.cells #[.int .u64 0, .int .u64 1, .int .u64 0] 36)) (Reads.lit w5 36 #[.int .u64 0, .int .u64 1, .int .u64 0] 3 .u64 [0, 1, 0] rfl rfl) (by simp) (by omega)
  rw [show decide (([0, 1, 0] : List Nat) = [0, 1, 0]) = true from rfl] at SM
  have SM := Lib.hid SM
  clear D2 HR4 b5 b04 o1 hb q0 q1 q3 q4
  go_wp2_with fail
  refine SM.out.mono ?_
  rintro e w6 ⟨rfl, b6⟩
  have b56 := New.alloc _ b6
  have b06 := New.trans b05 b56
  have R2 := Reads.later R2 b56
  have S9 := run_strB (c := c3) R2
  have RC := rcells_any (c := c4) (c2 := 3) (Reads.later (Reads.of_own o4) b56) (Reads.later HR5.out b56) (by omega) (by omega) (fun x hx => (dsm_data x hx).1.2) (fun x hx => (dsm_data x hx).1.2)
  rw [show decide (([dcA, dcB, dcA] : List CellS) = [dcA, dcB, dcA]) = true from rfl] at RC
  have RC := Lib.hid RC
  clear SM HR5 b56 b05 o4 o2 q2 q7 R2 b6
  go_wp2_with fail
  refine RC.out.mono ?_
  rintro e w7 ⟨rfl, q, rfl⟩
  go_wp2_with fail
  go_ret
  exact ⟨rfl, New.trans b06 (new_drewN _ _)⟩

end Go.Proofs.Ytnghjkihdcmoiaa
