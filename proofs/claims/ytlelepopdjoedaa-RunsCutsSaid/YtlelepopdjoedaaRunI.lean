/- The iterator over runs and rests: runs.pieces. -/
import Derived.RangeFuncNested
import Derived.RangeFuncBound
import Derived.RangeFuncCalls
import Derived.RangeFuncLeaves
import Derived.Shelf.Abstract
import Derived.Shelf.RegionOpen
import Derived.WalkKit
import Derived.OwnWalkIn
import Derived.TacticsInMore
import Derived.LoopNIn
import Derived.LoopIn
import Derived.Test.YtlelepopdjoedaaRunA

namespace Go.Hm
/-- Some of a row. -/
def seg (l : List Nat) (a b : Nat) : List Nat := (l.drop a).take (b - a)
theorem seg_len {l : List Nat} {a b : Nat} (h : b ≤ l.length) : (seg l a b).length = b - a := by
  unfold seg
  rw [List.length_take, List.length_drop]
  omega
/-- Where the pieces are, rests from f on, what was not looked at from a on. -/
def spansR (l : List Nat) (f a : Nat) : List (Nat × Nat) :=
  if _h : l.length ≤ a then (if f < l.length then [(f, l.length)] else [])
  else if 4 ≤ st (l.drop a) then (if f < a then [(f, a)] else []) ++ ((a, a + st (l.drop a)) :: spansR l (a + st (l.drop a)) (a + st (l.drop a)))
  else spansR l f (a + st (l.drop a))
termination_by l.length - a
decreasing_by
  · have := st_pos (l := l.drop a) (by rw [List.length_drop]; omega)
    omega
  · have := st_pos (l := l.drop a) (by rw [List.length_drop]; omega)
    omega
theorem spansR_end {l : List Nat} {f a : Nat} (h : l.length ≤ a) : spansR l f a = if f < l.length then [(f, l.length)] else [] := by rw [spansR, dif_pos h]
theorem spansR_run {l : List Nat} {f a : Nat} (h : a < l.length) (h4 : 4 ≤ st (l.drop a)) : spansR l f a = (if f < a then [(f, a)] else []) ++ ((a, a + st (l.drop a)) :: spansR l (a + st (l.drop a)) (a + st (l.drop a))) := by
  rw [spansR, dif_neg (by omega), if_pos h4]
theorem spansR_rest {l : List Nat} {f a : Nat} (h : a < l.length) (h4 : ¬ 4 ≤ st (l.drop a)) : spansR l f a = spansR l f (a + st (l.drop a)) := by
  rw [spansR, dif_neg (by omega), if_neg h4]
theorem seg_next {l : List Nat} {f a k : Nat} (h : f ≤ a) : seg l f a ++ (l.drop a).take k = seg l f (a + k) := by
  unfold seg
  have e : (l.drop f).take (a + k - f) = (l.drop f).take (a - f) ++ ((l.drop f).drop (a - f)).take k := by
    rw [show a + k - f = (a - f) + k by omega, List.take_add]
  rw [e, List.drop_drop, show f + (a - f) = a by omega]
theorem seg_nil {l : List Nat} {a : Nat} : seg l a a = [] := by simp [seg]
/-- Pieces, and where they are. -/
theorem spansR_cut {l : List Nat} : ∀ (k f a : Nat), l.length - a ≤ k → f ≤ a → a ≤ l.length → (spansR l f a).map (fun p => seg l p.1 p.2) = cutP (seg l f a) (l.drop a) := by
  intro k
  induction k with
  | zero =>
    intro f a hk hf ha
    obtain rfl : a = l.length := by omega
    have hs : (seg l f l.length).length = l.length - f := seg_len (Nat.le_refl _)
    rw [spansR_end (Nat.le_refl _), List.drop_length, cutP_nil]
    unfold restL
    by_cases h : f < l.length
    · rw [if_pos h, if_neg (by omega)]
      rfl
    · rw [if_neg h, if_pos (by omega)]
      rfl
  | succ k ih =>
    intro f a hk hf ha
    by_cases he : a = l.length
    · subst he
      exact ih f l.length (by omega) hf (Nat.le_refl _)
    have hl : (l.drop a).length = l.length - a := List.length_drop
    have hp := st_pos (l := l.drop a) (by omega)
    have hb := (st_spec (l.drop a)).1
    by_cases h4 : 4 ≤ st (l.drop a)
    · rw [spansR_run (by omega) h4, cutP_run (by omega) h4, List.map_append, List.map_cons, ih _ _ (by omega) (Nat.le_refl _) (by omega), seg_nil, List.drop_drop]
      have e1 : seg l a (a + st (l.drop a)) = (l.drop a).take (st (l.drop a)) := by unfold seg; rw [Nat.add_sub_cancel_left]
      have hs : (seg l f a).length = a - f := seg_len ha
      rw [e1]
      unfold restL
      by_cases h : f < a
      · rw [if_pos h, if_neg (by omega)]
        rfl
      · rw [if_neg h, if_pos (by omega)]
        rfl
    · rw [spansR_rest (by omega) h4, cutP_rest (by omega) h4, ih _ _ (by omega) (by omega) (by omega), seg_next hf, List.drop_drop]
theorem spansR_pcs (l : List Nat) : (spansR l 0 0).map (fun p => seg l p.1 p.2) = pcs l := by
  have := spansR_cut (l := l) l.length 0 0 (by omega) (Nat.le_refl _) (Nat.zero_le _)
  rw [seg_nil, List.drop_zero] at this
  exact this
/-- Spans of a row. -/
abbrev Sp (n : Nat) := { p : Nat × Nat // p.1 ≤ p.2 ∧ p.2 ≤ n }

end Go.Hm

namespace Go.Proofs.Ytlelepopdjoedaa
open Go.RowKit Go.Hm Go.Shelf
attribute [local go_sem] Oper.semAt_some
theorem sU : Try.prog.underlying 22 = some (.slice (Try.prog.elem 22)) := by kernel_rfl
theorem zU (w : World) : (sizeOf (Try.prog.elem 22)).run Try.prog w = .ok 1 w := by kernel_rfl
def slV (A : Option Addr) (c f t : Nat) : Value := .slice (if c = f then A else A.map (·.add f)) (t - f) (c - f)
theorem uslice_lh (A : Option Addr) (n c l h : Nat) (h1 : l ≤ h) (h2 : h ≤ c) (w : World) : (Instr.sliceAt 22 (.slice A n c) (some (.int .i64 (l : Int))) (some (.int .i64 (h : Int))) none).run Try.prog w = .ok (slV A c l h) w := by
  rw [run_sliceAt_slice w _ _ _ _ _ sU, run_slice_lh w _ A n c sU .i64 .i64 (l : Int) (h : Int) (by omega) (by omega) (by omega), zU]
  simp [Result.andThen, sliced, slV]
theorem uslice_l (A : Option Addr) (n c l : Nat) (h1 : l ≤ n) (w : World) : (Instr.sliceAt 22 (.slice A n c) (some (.int .i64 (l : Int))) none none).run Try.prog w = .ok (slV A c l n) w := by
  rw [run_sliceAt_slice w _ _ _ _ _ sU, run_slice_l w _ A n c sU .i64 (l : Int) (by omega) (by omega), zU]
  simp [Result.andThen, sliced, slV]
theorem reads_seg {w : World} {A : Option Addr} {c f t B : Nat} {L : List Nat} (h : Reads w B 1 A L.length (nums .u64 L)) (hc : L.length ≤ c) (h1 : f ≤ t) (h2 : t ≤ L.length) : Reads w B 1 (if c = f then A else A.map (·.add f)) (seg L f t).length (nums .u64 (seg L f t)) := by
  have a := h.cut (k := f) (cap := c) (by omega) hc
  rw [nums_drop] at a
  have b := a.take (k := t - f) (by omega)
  rw [nums_take] at b
  simp only [Nat.mul_one] at b
  rw [seg_len h2]
  exact b
/-- What lay below n0 lies as it lay, but for one block. -/
def KB (n0 bo : Nat) (W W' : World) : Prop := W.heap.size ≤ W'.heap.size ∧ ∀ k, k < n0 → k ≠ bo → W'.heap[k]? = W.heap[k]?
theorem KB.refl (n0 bo : Nat) (W : World) : KB n0 bo W W := ⟨Nat.le_refl _, fun _ _ _ => rfl⟩
theorem KB.trans {n0 bo : Nat} {a b c : World} (h : KB n0 bo a b) (k : KB n0 bo b c) : KB n0 bo a c := ⟨Nat.le_trans h.1 k.1, fun i h1 h2 => (k.2 i h1 h2).trans (h.2 i h1 h2)⟩
theorem KB.new {n0 bo : Nat} {W W' : World} (h : New W W') (hn : n0 ≤ W.heap.size) : KB n0 bo W W' := ⟨h.size, fun k h1 _ => h.block k (by omega)⟩
theorem KB.cell {n0 bo : Nat} {W W' : World} (h : KB n0 bo W W') {p : Addr} (h1 : p.block < n0) (h2 : p.block ≠ bo) : W'.cell? p = W.cell? p := World.cell?_of_block (h.2 _ h1 h2)
theorem KB.reads {n0 bo n : Nat} {W W' : World} {A : Option Addr} {xs : List Value} (h : KB n0 bo W W') (r : Reads W n0 1 A n xs) (hA : 0 < n → ∀ ad, A = some ad → ad.block ≠ bo) : Reads W' n0 1 A n xs :=
  ⟨r.1, fun hn => by
    obtain ⟨ad, e, hb, hc⟩ := r.2 hn
    exact ⟨ad, e, hb, fun j u hu => (h.cell (by rw [block_of_add]; exact hb) (by rw [block_of_add]; exact hA hn ad e)).trans (hc j u hu)⟩⟩
theorem grown_new0 {w w' : World} (h : New w w') : w.grownBy w' none := ⟨h.os, h.tape, h.output, h.size, fun k hk _ => h.block k hk⟩
theorem seg_drop {L : List Nat} {a : Nat} : seg L a L.length = L.drop a := by
  unfold seg
  exact List.take_of_length_le (by rw [List.length_drop]; exact Nat.le_refl _)
def PcPost {n : Nat} (L : List Nat) (J Jx : List (Sp n) → World → Prop) (e : Ending) (W' : World) : Prop :=
  (∃ v, e = .returned v) ∧ ((∃ ys : List (Sp n), ys.map Subtype.val = spansR L 0 0 ∧ J ys W') ∨ (∃ pre, Jx pre W'))
set_option maxRecDepth 100000 in
set_option maxHeartbeats 4000000 in
theorem pieces1_in {m l bx bo n0 c : Nat} {A : Option Addr} {L : List Nat} (hm : 1 ≤ m) (hc : L.length ≤ c) (hL : L.length ≤ 1000000) (J Jx : List (Sp L.length) → World → Prop) (hJ : ∀ s W W', J s W → New W W' → J s W')
    (hY : ∀ pre x W, J pre W → pre.length < (spansR L 0 0).length → YieldAt Fence.wide (m - 1) Try.prog l #[slV A c x.1.1 x.1.2] W fun e W' =>
      (e = .returned (.bool true) ∧ J (pre ++ [x]) W' ∧ KB n0 bo W W') ∨ (e = .returned (.bool false) ∧ Jx (pre ++ [x]) W'))
    (W : World) (hn0 : n0 ≤ W.heap.size) (hbx : bx < n0) (hbo : bx ≠ bo) (hA : 0 < L.length → ∀ ad, A = some ad → ad.block ≠ bo) (hcx : W.cell? ⟨bx, 0, none⟩ = some (.slice A L.length c)) (hr : Reads W n0 1 A L.length (nums .u64 L)) (h0 : J [] W) :
    CallsIn Fence.wide m Try.prog 38 #[.func (.yield l) #[] #[], .pointer (some ⟨bx, 0, none⟩)] W (PcPost L J Jx) := by
  have HJ := Lib.hid hJ
  have HY := Lib.hid hY
  have HR := Lib.hid hr
  have HA := Lib.hid hA
  clear hJ hY hr hA
  refine callsIn_of_wp Try.func38 rfl trivial ?_ rfl
  simp only [Try.ntmps38, List.size_toArray, List.length_cons, List.length_nil, Nat.reduceAdd, Nat.reduceSub, Array.replicate_succ, Array.replicate_zero, List.push_toArray, List.append_toArray, List.nil_append, List.cons_append]
  gi_wp2
  gi_loopw [3, 4] (fun vf va wr => ∃ (f a : Nat) (pre : List (Sp L.length)), vf = .int .i64 (f : Int) ∧ va = .int .i64 (a : Int) ∧ f ≤ a ∧ a ≤ L.length ∧ Hid (pre.map Subtype.val ++ spansR L f a = spansR L 0 0) ∧ Hid (J pre wr) ∧ KB n0 bo W wr)
    (fun _ va _ => L.length - (intOf va).toNat)
  case atStart => exact ⟨0, 0, [], rfl, rfl, Nat.le_refl _, Nat.zero_le _, Lib.hid rfl, Lib.hid h0, KB.refl _ _ _⟩
  case round =>
    obtain ⟨f, a, pre, rfl, rfl, hfa, haL, hsp, hJs, hnx⟩ := hrel
    have hcr : wr.cell? ⟨bx, 0, none⟩ = some (.slice A L.length c) := (hnx.cell (p := ⟨bx, 0, none⟩) hbx hbo).trans hcx
    by_cases hlt : a < L.length
    · have hp := st_pos (l := L.drop a) (by rw [List.length_drop]; omega)
      have hb := (st_spec (L.drop a)).1
      rw [List.length_drop] at hb
      have sr := spansR_run (l := L) (f := f) hlt
      have ss := spansR_rest (l := L) (f := f) hlt
      obtain ⟨ad, hA, -⟩ := HR.out.2 (by omega)
      subst hA
      have hsz : n0 ≤ wr.heap.size := Nat.le_trans hn0 hnx.1
      have hca : ¬ c = a := by omega
      have rs := reads_seg ((hnx.reads HR.out HA.out).more hsz) hc (f := a) (t := L.length) (by omega) (Nat.le_refl _)
      rw [if_neg hca, seg_drop] at rs
      have ST := stretch_any (c := c - a) rs (by rw [List.length_drop]; omega)
      rw [List.length_drop] at ST
      have ST := Lib.hid (show CallsIn Fence.wide (m - 1) Try.prog 39 #[.slice (some (ad.add a)) (L.length - a) (c - a)] wr _ from callsIn_wide.2 ST)
      have hcf : ¬ c = f := by omega
      obtain ⟨n1, hn1⟩ : ∃ n, n = st (L.drop a) := ⟨_, rfl⟩
      rw [← hn1] at hp hb sr ss ST
      have HN1 := Lib.hid hn1
      have SR := Lib.hid sr
      have SS := Lib.hid ss
      clear hn1 sr ss rs
      by_cases h4 : 4 ≤ n1
      · have d4 : decide ((4 : Int) ≤ (n1 : Int)) = true := decide_eq_true (by omega)
        have hsp' := SR.out h4
        by_cases hf : f < a
        · rw [if_pos hf] at hsp'
          have hsp1 := Lib.hid (show pre.map Subtype.val ++ [(f, a)] ++ [(a, a + n1)] ++ spansR L (a + n1) (a + n1) = spansR L 0 0 by
            rw [← hsp.out, hsp', List.append_assoc, List.append_assoc]
            rfl)
          clear hsp'
          gi_wp2_with fail
          refine ⟨trivial, ?_⟩
          refine ST.out.mono ?_
          rintro e w2 ⟨rfl, b2⟩
          have hJ2 := HJ.out _ _ _ hJs.out b2
          have hcr2 : w2.cell? ⟨bx, 0, none⟩ = some (.slice (some ad) L.length c) := (Below.cell b2 (p := ⟨bx, 0, none⟩) (by show bx < wr.heap.size; omega)).trans hcr
          have hpl : pre.length < (spansR L 0 0).length := by
            have := congrArg List.length hsp1.out
            simp only [List.length_append, List.length_map, List.length_cons, List.length_nil] at this
            omega
          obtain ⟨fn, tmps, assign, body, hy, hR⟩ := HY.out pre ⟨(f, a), by omega, by omega⟩ w2 hJ2 hpl
          unfold slV at hy
          rw [if_neg hcf] at hy
          dsimp only [Option.map_some] at hy
          have b20 := hnx.trans (KB.new b2 hsz)
          gi_wp2_with fail
          refine hR.mono ?_
          rintro e w3 (⟨rfl, hJ3, hk3⟩ | ⟨rfl, hJx3⟩)
          rotate_left
          · gi_wp2
            refine ⟨fun _ h => (by cases h), ?_⟩
            gi_wp2
            refine bodyPost_ret (results_none rfl _ _ _) rfl ?_
            exact ⟨⟨_, rfl⟩, .inr ⟨_, hJx3⟩⟩
          have b30 := b20.trans hk3
          clear hy hR hcr2
          have hcr3 : w3.cell? ⟨bx, 0, none⟩ = some (.slice (some ad) L.length c) := (b30.cell (p := ⟨bx, 0, none⟩) hbx hbo).trans hcx
          have hpl2 : (pre ++ [(⟨(f, a), by omega, by omega⟩ : Sp L.length)]).length < (spansR L 0 0).length := by
            have := congrArg List.length hsp1.out
            simp only [List.length_append, List.length_map, List.length_cons, List.length_nil] at this ⊢
            omega
          obtain ⟨fn2, tmps2, assign2, body2, hy2, hR2⟩ := HY.out (pre ++ [(⟨(f, a), by omega, by omega⟩ : Sp L.length)]) ⟨(a, a + n1), by omega, by omega⟩ w3 hJ3 hpl2
          unfold slV at hy2
          rw [if_neg hca] at hy2
          dsimp only [Option.map_some] at hy2
          rw [Nat.add_sub_cancel_left] at hy2
          gi_wp2_with fail
          refine hR2.mono ?_
          rintro e w4 (⟨rfl, hJ4, hk4⟩ | ⟨rfl, hJx4⟩)
          · have b40 := b30.trans hk4
            gi_wp2
            go_roundw
            case rel => exact ⟨a + n1, a + n1, _, by go_num, by go_num, Nat.le_refl _, by omega, Lib.hid (by simpa using hsp1.out), Lib.hid hJ4, b40⟩
            case measure => simp [intOf]; omega
          · gi_wp2
            refine bodyPost_ret (results_none rfl _ _ _) rfl ?_
            exact ⟨⟨_, rfl⟩, .inr ⟨_, hJx4⟩⟩
        · rw [if_neg hf] at hsp'
          have hsp1 := Lib.hid (show pre.map Subtype.val ++ [(a, a + n1)] ++ spansR L (a + n1) (a + n1) = spansR L 0 0 by
            rw [← hsp.out, hsp', List.append_assoc]
            rfl)
          clear hsp'
          gi_wp2_with fail
          refine ⟨trivial, ?_⟩
          refine ST.out.mono ?_
          rintro e w2 ⟨rfl, b2⟩
          have hJ2 := HJ.out _ _ _ hJs.out b2
          have b20 := hnx.trans (KB.new b2 hsz)
          have hcr3 : w2.cell? ⟨bx, 0, none⟩ = some (.slice (some ad) L.length c) := (b20.cell (p := ⟨bx, 0, none⟩) hbx hbo).trans hcx
          have hpl2 : (pre).length < (spansR L 0 0).length := by
            have := congrArg List.length hsp1.out
            simp only [List.length_append, List.length_map, List.length_cons, List.length_nil] at this ⊢
            omega
          obtain ⟨fn2, tmps2, assign2, body2, hy2, hR2⟩ := HY.out (pre) ⟨(a, a + n1), by omega, by omega⟩ w2 hJ2 hpl2
          unfold slV at hy2
          rw [if_neg hca] at hy2
          dsimp only [Option.map_some] at hy2
          rw [Nat.add_sub_cancel_left] at hy2
          gi_wp2_with fail
          refine ⟨fun _ h => (by cases h), ?_⟩
          gi_wp2_with fail
          refine hR2.mono ?_
          rintro e w4 (⟨rfl, hJ4, hk4⟩ | ⟨rfl, hJx4⟩)
          · have b40 := b20.trans hk4
            gi_wp2
            go_roundw
            case rel => exact ⟨a + n1, a + n1, _, by go_num, by go_num, Nat.le_refl _, by omega, Lib.hid (by simpa using hsp1.out), Lib.hid hJ4, b40⟩
            case measure => simp [intOf]; omega
          · gi_wp2
            refine bodyPost_ret (results_none rfl _ _ _) rfl ?_
            exact ⟨⟨_, rfl⟩, .inr ⟨_, hJx4⟩⟩
      · have hsp' := Lib.hid (show pre.map Subtype.val ++ spansR L f (a + n1) = spansR L 0 0 by rw [← SS.out h4]; exact hsp.out)
        have d4 : decide ((4 : Int) ≤ (n1 : Int)) = false := decide_eq_false (by omega)
        gi_wp2_with fail
        refine ⟨trivial, ?_⟩
        refine ST.out.mono ?_
        rintro e w2 ⟨rfl, b2⟩
        have hJ2 := Lib.hid (HJ.out _ _ _ hJs.out b2)
        have b20 := Lib.hid (hnx.trans (KB.new b2 hsz))
        clear SR SS HN1 b2 ST hsp
        gi_wp2
        go_roundw
        case rel => exact ⟨f, a + n1, pre, rfl, by go_num, by omega, by omega, hsp', hJ2, b20.out⟩
        case measure => simp [intOf]; omega
    · obtain rfl : a = L.length := by omega
      have se := spansR_end (l := L) (f := f) (Nat.le_refl _)
      by_cases hf : f < L.length
      · rw [if_pos hf] at se
        have hsp1 := Lib.hid (show pre.map Subtype.val ++ [(f, L.length)] = spansR L 0 0 by rw [← se]; exact hsp.out)
        have hpl : pre.length < (spansR L 0 0).length := by
          have := congrArg List.length hsp1.out
          simp only [List.length_append, List.length_map, List.length_cons, List.length_nil] at this
          omega
        obtain ⟨ad, hA, -⟩ := HR.out.2 (by omega)
        subst hA
        have hcf : ¬ c = f := by omega
        obtain ⟨fn, tmps, assign, body, hy, hR⟩ := HY.out pre ⟨(f, L.length), by omega, by omega⟩ wr hJs.out hpl
        unfold slV at hy
        rw [if_neg hcf] at hy
        dsimp only [Option.map_some] at hy
        clear se hsp
        gi_wp2_with fail
        refine hR.mono ?_
        rintro e W3 (⟨rfl, hJ3, hk3⟩ | ⟨rfl, hJx3⟩)
        · gi_wp2
          go_end0
          exact ⟨⟨_, rfl⟩, .inl ⟨_, by simpa using hsp1.out, hJ3⟩⟩
        · gi_wp2
          go_end0
          exact ⟨⟨_, rfl⟩, .inr ⟨_, hJx3⟩⟩
      · rw [if_neg hf] at se
        have hsp1 := Lib.hid (show pre.map Subtype.val = spansR L 0 0 by rw [← hsp.out, se, List.append_nil])
        clear se hsp
        gi_wp2
        go_end0
        exact ⟨⟨_, rfl⟩, .inl ⟨_, hsp1.out, hJs.out⟩⟩
def PiecesPost (A : Option Addr) (n c : Nat) (w : World) (e : Ending) (w' : World) : Prop := e = .returned (.func (.func 38) #[] #[.pointer (some ⟨w.heap.size, 0, none⟩)]) ∧ w' = w.alloc (.cells #[.slice A n c] 22)
theorem pieces_any (A : Option Addr) (n c : Nat) (w : World) : Calls Try.prog 18 #[.slice A n c] w (PiecesPost A n c w) := by
  have hmf : ∀ (fn : Fn) (first cap : Array Value) (w : World), (Instr.makeFunc fn first cap).run Try.prog w = .ok (.func fn first cap) w := fun _ _ _ _ => rfl
  go_enter Try.func18, Try.ntmps18
  go_wp2
  go_ret
  exact ⟨by simp, rfl⟩
theorem pieces_stops {m bx bo n0 c : Nat} {A : Option Addr} {L : List Nat} (hm : 1 ≤ m) (hc : L.length ≤ c) (hL : L.length ≤ 1000000) {w : World} (hn0 : n0 ≤ w.heap.size) (hbx : bx < n0) (hbo : bx ≠ bo) (hA : 0 < L.length → ∀ ad, A = some ad → ad.block ≠ bo) (hcx : w.cell? ⟨bx, 0, none⟩ = some (.slice A L.length c)) (hr : Reads w n0 1 A L.length (nums .u64 L)) :
    SeqStopsK Fence.wide m Try.prog 38 #[.pointer (some ⟨bx, 0, none⟩)] (fun x : Sp L.length => #[slV A c x.1.1 x.1.2]) (KB n0 bo) (fun ys => ys.map Subtype.val = spansR L 0 0) (fun _ => True) (spansR L 0 0).length w := fun l J Jx W hW hJ _ hY h0 => by
  refine (pieces1_in (n0 := n0) (bo := bo) hm hc hL J Jx (fun s W1 W2 hj hn => hJ s W1 W2 none hj (grown_new0 hn) (fun _ e => by cases e)) hY W (Nat.le_trans hn0 hW.size) hbx hbo hA ((hW.cell (p := ⟨bx, 0, none⟩) (by show bx < _; omega)).trans hcx) (hr.keep fun p hp => hW.cell (by omega)) h0).mono ?_
  rintro e W' ⟨he, ⟨ys, h1, h2⟩ | ⟨pre, h⟩⟩
  · exact ⟨he, .inl ⟨ys, h1, h2⟩⟩
  · exact ⟨he, .inr ⟨pre, trivial, h⟩⟩

end Go.Proofs.Ytlelepopdjoedaa
