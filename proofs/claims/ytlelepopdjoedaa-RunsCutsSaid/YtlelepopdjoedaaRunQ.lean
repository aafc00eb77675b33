/- The contract of hypostyleref10.Cut. -/
import Derived.Test.YtlelepopdjoedaaRunK

namespace Go.Proofs.Ytlelepopdjoedaa
open Go.RowKit Go.Hm
def szR (l : List (Nat × Nat)) : List Nat := l.map fun p => p.2 - p.1
theorem spansR_in {L : List Nat} : ∀ (k f a : Nat), L.length - a ≤ k → f ≤ a → a ≤ L.length → ∀ p ∈ spansR L f a, p.2 ≤ L.length := by
  intro k
  induction k with
  | zero =>
    intro f a hk hf ha p hp
    rw [spansR_end (by omega)] at hp
    split at hp <;> simp at hp
    subst hp
    exact Nat.le_refl _
  | succ k ih =>
    intro f a hk hf ha p hp
    by_cases he : L.length ≤ a
    · rw [spansR_end he] at hp
      split at hp <;> simp at hp
      subst hp
      exact Nat.le_refl _
    have h0 := st_pos (l := L.drop a) (by rw [List.length_drop]; omega)
    have hb := (st_spec (L.drop a)).1
    rw [List.length_drop] at hb
    by_cases h4 : 4 ≤ st (L.drop a)
    · rw [spansR_run (by omega) h4, List.mem_append, List.mem_cons] at hp
      rcases hp with hp | rfl | hp
      · split at hp <;> simp at hp
        subst hp
        exact ha
      · show a + st (L.drop a) ≤ _
        omega
      · exact ih _ _ (by omega) (Nat.le_refl _) (by omega) p hp
    · rw [spansR_rest (by omega) h4] at hp
      exact ih _ _ (by omega) (by omega) (by omega) p hp
theorem szR_all (L : List Nat) : szR (spansR L 0 0) = cuts L := by
  unfold cuts szR
  rw [← spansR_pcs, List.map_map]
  refine List.map_congr_left fun x hx => ?_
  simp only [Function.comp]
  rw [seg_len (spansR_in L.length 0 0 (by omega) (Nat.le_refl _) (Nat.zero_le _) x hx)]
set_option maxHeartbeats 2000000 in
theorem rcut_any {w : World} {A : Option Addr} {c : Nat} {L : List Nat} (h : Reads w w.heap.size 1 A L.length (nums .u64 L)) (hc : L.length ≤ c) (hL : L.length ≤ 1000000) :
    Calls Try.prog 14 #[.slice A L.length c] w (CutPost L w) := by
  have hfew := spansR_few (L := L) L.length 0 0 (by omega) (Nat.le_refl _) (Nat.zero_le _)
  have hsz := szR_all L
  have hcl : (cuts L).length ≤ 2 * L.length + 1 := by rw [← hsz]; unfold szR; rw [List.length_map]; omega
  have HS := Lib.hid hsz
  clear hsz hfew
  go_enter Try.func14, Try.ntmps14
  go_wp2
  go_loopw [0, 3, 4] (fun v0 v3 v4 wr => ∃ (g a c' co : Nat) (A' Ao : Option Addr) (pre : List Nat), v0 = .slice A' (L.length - a) c' ∧ v3 = .slice Ao pre.length co ∧ v4 = .int .i64 (g : Int) ∧ g ≤ a ∧ a ≤ L.length ∧ L.length - a ≤ c' ∧ Hid (Reads wr w.heap.size 1 A' (L.length - a) (nums .u64 (L.drop a))) ∧ Go.Hm.Own wr w.heap.size 3 (.slice Ao pre.length co) (nums .i64 pre) ∧ Below w.heap.size w wr ∧ Hid (pre ++ szR (spansR L (a - g) a) = cuts L)) (fun v0 _ _ _ => match v0 with | .slice _ n _ => n | _ => 0)
  case atStart => exact ⟨0, 0, c, 0, A, none, [], rfl, rfl, rfl, Nat.le_refl _, Nat.zero_le _, hc, Lib.hid h, Own.nil_, Below.refl _ _, HS⟩
  case round =>
    obtain ⟨g, a, c', co, A', Ao, pre, rfl, rfl, rfl, hga, haL, hc', hrd, hown, hb, hsp⟩ := hrel
    have hpl : pre.length ≤ 2 * L.length + 1 := by
      have := congrArg List.length hsp.out
      rw [List.length_append] at this
      omega
    have hz := hb.size
    by_cases hlt : a < L.length
    · have hp := st_pos (l := L.drop a) (by rw [List.length_drop]; omega)
      have hbd := (st_spec (L.drop a)).1
      rw [List.length_drop] at hbd
      have sr := spansR_run (l := L) (f := a - g) hlt
      have ss := spansR_rest (l := L) (f := a - g) hlt
      have rs := hrd.out.more hz
      have hdl : (L.drop a).length = L.length - a := List.length_drop
      have ST := rstretch_any (A := A') (c := c') (L := L.drop a) (by rw [hdl]; exact rs) (by rw [hdl]; omega)
      rw [hdl] at ST
      have cutR : Hid (∀ n1, n1 ≤ L.length - a → Reads wr w.heap.size 1 (if c' = n1 then A' else A'.map (·.add n1)) (L.length - (a + n1)) (nums .u64 (L.drop (a + n1)))) := Lib.hid fun n1 hn1 => by
        have q := hrd.out.cut (k := n1) (cap := c') hn1 hc'
        rw [nums_drop, List.drop_drop, Nat.mul_one, Nat.sub_sub] at q
        exact q
      obtain ⟨n1, hn1⟩ : ∃ n, n = st (L.drop a) := ⟨_, rfl⟩
      rw [← hn1] at hp hbd sr ss ST
      have SL := fun w => uslice_l A' (L.length - a) c' n1 hbd w
      have ST := Lib.hid ST
      have SR := Lib.hid sr
      have SS := Lib.hid ss
      clear hn1 sr ss rs hdl
      unfold slV at SL
      have CR := Lib.hid (cutR.out n1 hbd)
      clear cutR
      generalize (if c' = n1 then A' else A'.map (·.add n1)) = AS at *
      have HRD := hrd
      clear hrd
      by_cases h4 : 4 ≤ n1
      · have d4 : decide ((4 : Int) ≤ (n1 : Int)) = true := decide_eq_true (by omega)
        have hsp' := SR.out h4
        by_cases hg : 0 < g
        · rw [if_pos (by omega)] at hsp'
          have hsp1 := Lib.hid (show (pre ++ [g]) ++ [n1] ++ szR (spansR L (a + n1) (a + n1)) = cuts L by
            rw [← hsp.out, hsp', List.append_assoc, List.append_assoc]
            simp [szR]
            omega)
          clear hsp' SR SS hsp
          go_wp2_with fail
          refine ST.out.mono ?_
          rintro e w2 ⟨rfl, b2⟩
          have hown2 := hown.later b2
          have hb2 : Below w.heap.size w w2 := hb.trans (Below.mono b2 hz)
          have hz2 := hb2.size
          have HB := Lib.hid hb
          clear hown hb ST HRD
          go_wp2_with (first
            | (refine wpList_pushN elI rfl (.tmp 15) (.tmp 17) rfl (W := w) (B := w.heap.size) hown2 rfl rfl g (by simp) hb2 (Nat.le_refl _) (by omega) (by omega) (by simp only [maxLen]; omega) ?_
               intro A3 c3 w3 _ _ hown3 hg3 hb3 _ _)
            | (refine wpList_pushN elI rfl (.tmp 19) (.tmp 21) rfl (W := w) (B := w.heap.size) hown3 rfl rfl n1 (by simp) hb3 (Nat.le_refl _) (by omega) (by omega) (by simp only [maxLen]; omega) ?_
               intro A4 c4 w4 _ _ hown4 hg4 hb4 _ _))
          go_roundw
          case rel => exact ⟨0, a + n1, c' - n1, c4, AS, A4, pre ++ [g] ++ [n1], by simp [Nat.sub_sub], by simp, by go_num, by omega, by omega, by omega, Lib.hid (CR.out.keep fun p hp => (hb4.cell hp).trans (HB.out.cell hp).symm), by simpa using hown4, hb4, hsp1⟩
          case measure => simp; omega
        · rw [if_neg (by omega)] at hsp'
          obtain rfl : g = 0 := by omega
          have hsp1 := Lib.hid (show pre ++ [n1] ++ szR (spansR L (a + n1) (a + n1)) = cuts L by
            rw [← hsp.out, hsp', List.append_assoc]
            simp [szR])
          clear hsp' SR SS hsp
          go_wp2_with fail
          refine ST.out.mono ?_
          rintro e w2 ⟨rfl, b2⟩
          have hown2 := hown.later b2
          have hb2 : Below w.heap.size w w2 := hb.trans (Below.mono b2 hz)
          have hz2 := hb2.size
          have HB := Lib.hid hb
          clear hown hb ST HRD
          go_wp2_with (first
            | (refine wpList_pushN elI rfl (.tmp 19) (.tmp 21) rfl (W := w) (B := w.heap.size) hown2 rfl rfl n1 (by simp) hb2 (Nat.le_refl _) (by omega) (by omega) (by simp only [maxLen]; omega) ?_
               intro A4 c4 w4 _ _ hown4 hg4 hb4 _ _))
          go_roundw
          case rel => exact ⟨0, a + n1, c' - n1, c4, AS, A4, pre ++ [n1], by simp [Nat.sub_sub], by simp, by go_num, by omega, by omega, by omega, Lib.hid (CR.out.keep fun p hp => (hb4.cell hp).trans (HB.out.cell hp).symm), by simpa using hown4, hb4, hsp1⟩
          case measure => simp; omega
      · have d4 : decide ((4 : Int) ≤ (n1 : Int)) = false := decide_eq_false (by omega)
        have hsp1 := Lib.hid (show pre ++ szR (spansR L (a + n1 - (g + n1)) (a + n1)) = cuts L by
          rw [← hsp.out, SS.out h4, show a + n1 - (g + n1) = a - g by omega])
        clear SR SS hsp
        go_wp2_with fail
        refine ST.out.mono ?_
        rintro e w2 ⟨rfl, b2⟩
        have hown2 := hown.later b2
        have hb2 : Below w.heap.size w w2 := hb.trans (Below.mono b2 hz)
        have HB := Lib.hid hb
        clear hown hb ST HRD
        go_wp2
        go_roundw
        case rel => exact ⟨g + n1, a + n1, c' - n1, co, AS, Ao, pre, by simp [Nat.sub_sub], by simp, by go_num, by omega, by omega, by omega, Lib.hid (CR.out.keep fun p hp => (hb2.cell hp).trans (HB.out.cell hp).symm), by simpa using hown2, hb2, hsp1⟩
        case measure => simp; omega
    · obtain rfl : a = L.length := by omega
      have se := spansR_end (l := L) (f := L.length - g) (Nat.le_refl _)
      by_cases hg : 0 < g
      · rw [if_pos (by omega)] at se
        have hsp1 : pre ++ [g] = cuts L := by
          rw [← hsp.out, se]
          simp [szR]
          omega
        clear se hsp hrd
        go_wp2_with (first
          | (refine wpList_pushN elI rfl (.tmp 31) (.tmp 33) rfl (W := w) (B := w.heap.size) hown rfl rfl g (by simp) hb (Nat.le_refl _) (by omega) (by omega) (by simp only [maxLen]; omega) ?_
             intro A4 c4 w4 _ _ hown4 hg4 hb4 _ _))
        go_ret
        rw [hsp1] at hown4
        exact ⟨_, rfl, hown4, hb4⟩
      · obtain rfl : g = 0 := by omega
        rw [Nat.sub_zero, if_neg (by omega)] at se
        have hsp1 : pre = cuts L := by
          rw [← hsp.out, Nat.sub_zero, se]
          simp [szR]
        clear se hsp hrd
        go_wp2
        go_ret
        exact ⟨_, rfl, by rw [← hsp1]; exact hown, hb⟩

end Go.Proofs.Ytlelepopdjoedaa
