/- Texts merged, for a claim has at most 60 files: RefCur, RefNum, RefV, CurS, StaG, PlnF, PlnG, PlnH, PlnI, PlnJ, PlnK, StaH, StaI. -/
import Derived.BigRegion
import Derived.Deep.DeepCutAuto
import Derived.RegionTactic
import Derived.Test.YtflaaahcoglflaaGreatBun1
import Derived.Test.YtflaaahcoglflaaGreatBun2
import Derived.Test.YtflaaahcoglflaaGreatBun3
import Derived.Test.YtflaaahcoglflaaGreatBun4
/- Contracts of the document's own cursor (layer 3's answer): its bytes lie in old memory, below block B. -/

namespace Go.Proofs.YtflaaahcoglflaaGreat
open Go.RowKit Go.Hm

/-- Block g is the answer's cursor; what is left are the bytes l, in blocks below B. -/
def RCur (w : World) (B g : Nat) (l : List Nat) (bad : Bool) : Prop :=
  ∃ A c, Blk w g 61 #[.slice A l.length c, .bool bad] ∧ l.length ≤ c ∧ c ≤ maxLen ∧ Reads w B 1 A l.length (nums .u8 l) ∧ B ≤ g ∧ (∀ x ∈ l, x < 256)

section
variable {w w' : World} {B g : Nat} {l : List Nat} {bad : Bool}
theorem RCur.lt (h : RCur w B g l bad) : g < w.heap.size := by
  obtain ⟨A, c, h1, _⟩ := h
  exact h1.lt
theorem RCur.ge (h : RCur w B g l bad) : B ≤ g := by
  obtain ⟨A, c, _, _, _, _, h5, _⟩ := h
  exact h5
theorem RCur.lt8 (h : RCur w B g l bad) : ∀ x ∈ l, x < 256 := by
  obtain ⟨A, c, _, _, _, _, _, h6⟩ := h
  exact h6
theorem RCur.below (h : RCur w B g l bad) (hb : Below w.heap.size w w') : RCur w' B g l bad := by
  obtain ⟨A, c, h1, h2, h3, h4, h5, h6⟩ := h
  exact ⟨A, c, h1.below hb h1.lt, h2, h3, h4.below (hb.mono (by have := h1.lt; omega)), h5, h6⟩
theorem RCur.keep {g' : Nat} (h : RCur w B g l bad) (hg : w.grownBy w' (some g')) (hB : B ≤ g') (hne : g ≠ g') : RCur w' B g l bad := by
  obtain ⟨A, c, h1, h2, h3, h4, h5, h6⟩ := h
  exact ⟨A, c, h1.grown hg (by simpa using hne), h2, h3, h4.grown hg (by have := h1.lt; omega) (fun g e => by injection e with e; omega), h5, h6⟩
theorem RCur.blk (h : RCur w B g l bad) : ∃ cs, Blk w g 61 cs := by
  obtain ⟨A, c, h1, _⟩ := h
  exact ⟨_, h1⟩
end

def RPost (e0 : Ending) (B g : Nat) (l : List Nat) (bad : Bool) (w : World) (e : Ending) (w' : World) : Prop := e = e0 ∧ RCur w' B g l bad ∧ w.grownBy w' (some g)

set_option maxHeartbeats 400000 in
theorem rfail_any {w : World} {B g : Nat} {l : List Nat} {bad : Bool} (h : RCur w B g l bad) :
    Calls Tryz.prog 37 #[.pointer (some ⟨g, 0, none⟩)] w (RPost (.returned (.tuple #[])) B g [] true w) := by
  obtain ⟨A, c, h1, h2, h3, h4, h5, h6⟩ := h
  have c0 := h1.cell 0
  have c1 := h1.cell 1
  have f0 := h1.frozen 0
  have f1 := h1.frozen 1
  simp at c0 c1
  have H1 := Lib.hid h1
  clear h1
  go_enter Tryz.func37, Tryz.ntmps37
  go_wp2
  go_end0
  refine ⟨rfl, ⟨none, 0, ?_, by simp, by simp [maxLen], Reads.none_, h5, by simp⟩, setCell2_grown⟩
  simpa using (H1.out.set_ 0 (.slice none 0 0)).set_ 1 (.bool true)

def RTake (B g : Nat) (l : List Nat) (n : Nat) (w : World) (e : Ending) (w' : World) : Prop :=
  ∃ A c, e = .returned (.slice A n c) ∧ Own w' w.heap.size 5 (.slice A n c) (nums .u8 (l.take n)) ∧ RCur w' B g (l.drop n) false ∧ w.grownBy w' (some g)

theorem rtake_fin {w w1 : World} {B g : Nat} {l : List Nat} {n c : Nat} {A A' : Option Addr} (h1 : Blk w g 61 #[.slice A l.length c, .bool false]) (h2 : l.length ≤ c) (h3 : c ≤ maxLen) (h4 : Reads w B 1 A l.length (nums .u8 l)) (h5 : B ≤ g) (h6 : ∀ x ∈ l, x < 256) (hn : n ≤ l.length)
    (hA : A' = if c = n then A else A.map (·.add n)) (A1 : Option Addr) (c1 : Nat) (b1 : Below w.heap.size w w1) (o1 : Own w1 w.heap.size 5 (.slice A1 n c1) (nums .u8 (l.take n))) :
    RTake B g l n w (.returned (.slice A1 n c1)) (w1.setCell ⟨g, 0, none⟩ (.slice A' (l.length - n) (c - n))) := by
  have B1 := h1.below b1 h1.lt
  have hs : w.grownBy (w1.setCell ⟨g, 0, none⟩ (.slice A' (l.length - n) (c - n))) (some g) := (Far.of_new b1).trans setCell_grown
  have hs1 : w1.grownBy (w1.setCell ⟨g, 0, none⟩ (.slice A' (l.length - n) (c - n))) (some g) := setCell_grown
  have hc := h4.cut hn h2
  rw [Nat.mul_one, nums_drop, ← hA] at hc
  refine ⟨A1, c1, rfl, o1.keepT hs1 B1 (by decide), ⟨A', c - n, ?_, by rw [List.length_drop]; omega, by omega, ?_, h5, fun x hx => h6 x (List.mem_of_mem_drop hx)⟩, hs⟩
  · rw [List.length_drop]
    simpa using B1.set_ 0 (.slice A' (l.length - n) (c - n))
  · rw [List.length_drop]
    exact (hc.below (b1.mono (by have := h1.lt; omega))).setCell h5 _

set_option maxHeartbeats 800000 in
theorem rtake_good {w : World} {B g : Nat} {l : List Nat} {n : Nat} (h : RCur w B g l false) (hn : n ≤ l.length) (hs : n ≤ 140737488355200) :
    Calls Tryz.prog 35 #[.pointer (some ⟨g, 0, none⟩), .int .i64 (n : Int)] w (RTake B g l n w) := by
  obtain ⟨A, c, h1, h2, h3, h4, h5, h6⟩ := h
  have hgl := h1.lt
  have c0 := h1.cell 0
  have c1 := h1.cell 1
  simp at c0 c1
  have ht := h4.take hn
  rw [Nat.mul_one, nums_take] at ht
  have h3' := h3
  unfold maxLen at h3'
  have F := Lib.hid (fun w1 => rtake_fin (w1 := w1) (A' := if c = n then A else A.map (·.add n)) h1 h2 h3 h4 h5 h6 hn rfl)
  have H1 := Lib.hid h1
  clear h1 h4 h6
  by_cases hcn : c = n
  · obtain rfl : n = c := hcn.symm
    go_enter Tryz.func35, Tryz.ntmps35
    go_wp2_with (first
      | (refine wpList_pushesN elB rfl (.tmp 25) (.tmp 31) rfl (W := w) (B := w.heap.size) (k := .u8) (l := []) (l2 := l.take n) (c2 := n) (Own.empty _ _) ((ht.alloc (by omega) _).more (by simp; omega)) rfl rfl ((Below.refl _ _).alloc (Nat.le_refl _) _) (Nat.le_refl _) (by simp) (by omega) (by simp only [maxLen]; omega) ?_
         simp only [Nat.zero_add, List.nil_append]
         intro A1 c1 w1 _ _ o1 _ b1 _
         have B1 := H1.out.below b1 hgl
         have d0 := B1.cell 0
         have e0 := B1.frozen 0
         simp at d0))
    all_goals first | (exfalso; omega) | go_ret
    have F' := F.out w1 _ _ b1 o1
    rw [show l.length - n = 0 by omega, Nat.sub_self] at F'
    simpa using F'
  · have Hcn := Lib.hid hcn
    clear hcn
    go_enter Tryz.func35, Tryz.ntmps35
    go_wp2_with (first
      | (refine wpList_pushesN elB rfl (.tmp 25) (.tmp 31) rfl (W := w) (B := w.heap.size) (k := .u8) (l := []) (l2 := l.take n) (c2 := c) (Own.empty _ _) ((ht.alloc (by omega) _).more (by simp; omega)) rfl rfl ((Below.refl _ _).alloc (Nat.le_refl _) _) (Nat.le_refl _) (by simp) (by omega) (by simp only [maxLen]; omega) ?_
         simp only [Nat.zero_add, List.nil_append]
         intro A1 c1 w1 _ _ o1 _ b1 _
         have B1 := H1.out.below b1 hgl
         have d0 := B1.cell 0
         have e0 := B1.frozen 0
         simp at d0))
    all_goals first | (exfalso; have := Hcn.out; omega) | go_ret
    have F' := F.out w1 _ _ b1 o1
    rw [if_neg Hcn.out] at F'
    exact F'


set_option maxHeartbeats 400000 in
theorem rtake_bad {w : World} {B g : Nat} {l : List Nat} {bad : Bool} {n : Int} (h : RCur w B g l bad) (hn : bad = true ∨ n < 0 ∨ (l.length : Int) < n) (h1 : -9223372036854775808 ≤ n) (h2 : n ≤ 9223372036854775807) :
    Calls Tryz.prog 35 #[.pointer (some ⟨g, 0, none⟩), .int .i64 n] w (RPost (.returned (.slice none 0 0)) B g [] true w) := by
  have hF := rfail_any h
  have HF := Lib.hid hF
  clear hF
  obtain ⟨A, c, b1, _, _, _, _, _⟩ := h
  have c0 := b1.cell 0
  have c1 := b1.cell 1
  simp at c0 c1
  clear b1
  cases bad
  · by_cases hn0 : n < 0
    · clear hn
      go_enter Tryz.func35, Tryz.ntmps35
      go_wp2_with (go_at_call 37; refine HF.out.mono ?_; rintro e w' ⟨rfl, k1, k2⟩)
      go_ret
      exact ⟨rfl, k1, k2⟩
    · have hn1 : (l.length : Int) < n := by rcases hn with hn | hn | hn <;> first | cases hn | omega
      clear hn
      have hn0' : 0 ≤ n := by omega
      clear hn0
      go_enter Tryz.func35, Tryz.ntmps35
      go_wp2_with (go_at_call 37; refine HF.out.mono ?_; rintro e w' ⟨rfl, k1, k2⟩)
      go_ret
      exact ⟨rfl, k1, k2⟩
  · clear hn
    go_enter Tryz.func35, Tryz.ntmps35
    go_wp2_with (go_at_call 37; refine HF.out.mono ?_; rintro e w' ⟨rfl, k1, k2⟩)
    go_ret
    exact ⟨rfl, k1, k2⟩

end Go.Proofs.YtflaaahcoglflaaGreat
/- The answer's cursor: numbers, the end; and the cursor's own contracts, told more closely. -/

namespace Go.Hm
theorem num_step_up (T : List Nat) (k : Nat) (hk : k < T.length) : num (T.drop k) = T.getD k 0 + 256 * num (T.drop (k + 1)) := by
  rw [drop_cons_getD T k 0 hk, num]
theorem num_drop_lt (T : List Nat) (k : Nat) (hT : T.length ≤ 8) (h8 : ∀ x ∈ T, x < 256) : num (T.drop k) < 18446744073709551616 := by
  have h := num_lt (T.drop k) (fun x hx => h8 x (List.mem_of_mem_drop hx))
  have h2 : (256 : Nat) ^ (T.drop k).length ≤ 256 ^ 8 := Nat.pow_le_pow_right (by omega) (by rw [List.length_drop]; omega)
  omega

end Go.Hm

namespace Go.Proofs.YtflaaahcoglflaaGreat
open Go.RowKit Go.Hm

set_option maxHeartbeats 800000 in
set_option maxRecDepth 100000 in
theorem rnum_good {w : World} {B g : Nat} {l : List Nat} (n : Nat) (h : RCur w B g l false) (hn : n ≤ l.length) (hs : n ≤ 8) :
    Calls Tryz.prog 36 #[.pointer (some ⟨g, 0, none⟩), .int .i64 (n : Int)] w (RPost (.returned (.int .u64 (num (l.take n) : Int))) B g (l.drop n) false w) := by
  have hlt : (l.take n).length = n := by rw [List.length_take]; omega
  have h8 : ∀ x ∈ l.take n, x < 256 := fun x hx => h.lt8 x (List.mem_of_mem_take hx)
  have N := Lib.hid (rtake_good h hn (by omega))
  unfold RTake at N
  generalize l.take n = T at *
  generalize hD : l.drop n = D at *
  clear hD h hn
  go_enter Tryz.func36, Tryz.ntmps36
  go_wp2_with (first
    | (go_at_call 35; refine N.out.mono ?_; rintro e w1 ⟨A', c', rfl, k1, k2, k3⟩
       have k4 := k1.reads))
  clear N
  subst hlt
  go_loop [6, 7] (fun v i => ∃ k : Nat, k ≤ T.length ∧ i = .int .i64 ((k : Int) - 1) ∧ v = .int .u64 (num (T.drop k) : Int)) (fun _ i => (intOf i + 1).toNat)
  case atStart => exact ⟨T.length, by omega, rfl, by simp [num]⟩
  case round =>
    obtain ⟨k, hk, rfl, rfl⟩ := hrel
    by_cases hlt' : 0 < k
    · obtain ⟨j, rfl⟩ : ∃ j, k = j + 1 := ⟨k - 1, by omega⟩
      obtain ⟨ad, rfl, hb, hcell⟩ := k4.num (i := j) (by omega)
      have hst := num_step_up T j (by omega)
      have hlt2 := num_drop_lt T j hs h8
      have S := Lib.hid hst
      have hx := getD_lt T j h8
      rw [hst] at hlt2
      clear hst
      generalize T.getD j 0 = x at *
      generalize num (T.drop (j + 1)) = y at *
      rw [show (((j + 1 : Nat) : Int) - 1) = (j : Int) from by omega]
      go_wp2
      go_round
      case rel => exact ⟨j, by omega, rfl, by rw [S.out]; go_num⟩
      case measure => simp [intOf]
    · obtain rfl : k = 0 := by omega
      go_wp2
      go_ret
      exact ⟨rfl, k2, k3⟩
set_option maxHeartbeats 400000 in
theorem rnum_bad {w : World} {B g : Nat} {l : List Nat} {bad : Bool} {n : Int} (h : RCur w B g l bad) (hn : bad = true ∨ n < 0 ∨ (l.length : Int) < n) (h1 : -9223372036854775808 ≤ n) (h2 : n ≤ 9223372036854775807) :
    Calls Tryz.prog 36 #[.pointer (some ⟨g, 0, none⟩), .int .i64 n] w (RPost (.returned (.int .u64 0)) B g [] true w) := by
  have N := Lib.hid (rtake_bad h hn h1 h2)
  clear hn h1 h2
  go_enter Tryz.func36, Tryz.ntmps36
  go_wp2_with (first
    | (go_at_call 35; refine N.out.mono ?_; rintro e w1 ⟨rfl, k2, k3⟩))
  refine wp_loop_rounds 1 ?_
  rw [rounds_succ]
  go_wp2
  go_ret
  exact ⟨rfl, k2, k3⟩

set_option maxHeartbeats 400000 in
theorem rend_any {w : World} {B g : Nat} {l : List Nat} {bad : Bool} (h : RCur w B g l bad) : Calls Tryz.prog 21 #[.pointer (some ⟨g, 0, none⟩)] w (BadPost (!bad && l.isEmpty) w) := by
  obtain ⟨A, c, b1, _, _, _, _, _⟩ := h
  have c0 := b1.cell 0
  have c1 := b1.cell 1
  simp at c0 c1
  clear b1
  cases bad
  · cases l with
    | nil =>
      go_enter Tryz.func21, Tryz.ntmps21
      go_wp2
      go_ret
      exact ⟨rfl, rfl⟩
    | cons x l =>
      have hl : 0 < (x :: l).length := by simp
      have hi : (!false && (x :: l).isEmpty) = false := rfl
      rw [hi]
      generalize (x :: l).length = n at *
      go_enter Tryz.func21, Tryz.ntmps21
      go_wp2
      go_ret
      refine ⟨congrArg (fun b => Ending.returned (.bool b)) ?_, rfl⟩
      simp; omega
  · go_enter Tryz.func21, Tryz.ntmps21
    go_wp2
    go_ret
    exact ⟨rfl, rfl⟩

/-- Over, with the bytes' own place told. -/
def OverNew (l : List Nat) (w : World) (e : Ending) (w' : World) : Prop :=
  ∃ g A c, e = .returned (.pointer (some ⟨g, 0, none⟩)) ∧ w.heap.size ≤ g ∧ Blk w' g 76 #[.slice A l.length c, .bool false] ∧ Own w' w.heap.size 5 (.slice A l.length c) (nums .u8 l) ∧ Below w.heap.size w w'
theorem OverNew.cur {w : World} {g : Nat} {l : List Nat} {A : Option Addr} {c base : Nat} (h : Blk w g 76 #[.slice A l.length c, .bool false]) (k : Own w base 5 (.slice A l.length c) (nums .u8 l)) (h8 : ∀ x ∈ l, x < 256) : Cur w g l false := by
  have hc := k.cap
  exact ⟨A, c, h, hc.1, hc.2, TR.of_own k, h8, by simp⟩
set_option maxHeartbeats 400000 in
theorem over_new {w : World} {A : Option Addr} {n c : Nat} {l : List Nat} (h : Reads w w.heap.size 1 A n (nums .u8 l)) (hl : n ≤ 140737488355328) :
    Calls Tryz.prog 12 #[.slice A n c] w (OverNew l w) := by
  obtain rfl := h.len
  go_enter Tryz.func12, Tryz.ntmps12
  go_wp2_with (go_at_call 30; refine (clone_any h hl).mono ?_; rintro e w1 ⟨A', n', c', rfl, k1, k2⟩)
  go_ret
  obtain rfl : n' = l.length := by have := k1.len; rwa [nums_length] at this
  exact ⟨_, A', c', rfl, k2.size, Blk.new _ _ _, k1.alloc _, k2.alloc k2.size _⟩

/-- Take, with the world between told: what is taken is newer than what the cursor stands on. -/
def TakeMid (g : Nat) (l : List Nat) (n : Nat) (w : World) (e : Ending) (w' : World) : Prop :=
  ∃ A c w1, e = .returned (.slice A n c) ∧ Own w' w1.heap.size 5 (.slice A n c) (nums .u8 (l.take n)) ∧ Cur w1 g (l.drop n) false ∧ w.grownBy w1 (some g) ∧ Below w1.heap.size w1 w'
set_option maxHeartbeats 400000 in
theorem take_mid {w : World} {g : Nat} {l : List Nat} {n : Nat} (h : Cur w g l false) (hn : n ≤ l.length) (hs : n ≤ 140737488355328) :
    Calls Tryz.prog 47 #[.pointer (some ⟨g, 0, none⟩), .int .i64 (n : Int)] w (TakeMid g l n w) := by
  have hlt : (l.take n).length = n := by rw [List.length_take]; omega
  go_enter Tryz.func47, Tryz.ntmps47
  go_wp2_with (first
    | (go_at_call 56; refine (next_good h hn).mono ?_; rintro e w1 ⟨A', c', rfl, k1, k2, k3⟩
       have k4 := k1.1
       have C := Lib.hid (clone_any (c := c') k4 hs))
    | (go_at_call 30; refine C.out.mono ?_; rintro e w2 ⟨A2, n2, c2, rfl, k5, k6⟩))
  go_ret
  obtain rfl : n2 = n := by have := k5.len; rwa [nums_length, hlt] at this
  exact ⟨A2, c2, w1, rfl, k5, k2, k3, k6⟩

end Go.Proofs.YtflaaahcoglflaaGreat
/- Contracts of the document's own answer for layer 4. -/

namespace Go.Proofs.YtflaaahcoglflaaGreat
open Go.RowKit Go.Hm




set_option maxHeartbeats 400000 in
theorem rzag_any (x : Nat) (w : World) (h : x < 18446744073709551616) : Calls Tryz.prog 75 #[.int .u64 (x : Int)] w (ZigPost (.int .i64 (zag x)) w) := by
  by_cases hx : x % 2 = 0
  · have e : zag x = (x : Int) / 2 := by unfold zag; rw [if_pos hx]; omega
    have hx' : (x : Int) % 2 = 0 := by omega
    clear hx
    go_enter Tryz.func75, Tryz.ntmps75
    go_wp2
    go_ret
    exact ⟨by rw [e]; rfl, rfl⟩
  · have e : zag x = -((x : Int) / 2) - 1 := by unfold zag; rw [if_neg hx]; omega
    have hx' : (x : Int) % 2 = 1 := by omega
    clear hx
    go_enter Tryz.func75, Tryz.ntmps75
    go_wp2
    go_ret
    exact ⟨by rw [e]; rfl, rfl⟩

def RGet (B g : Nat) (l : List Nat) (w : World) (e : Ending) (w' : World) : Prop :=
  (∃ N r, l = vp N ++ r ∧ N < 18446744073709551616 ∧ e = .returned (.int .u64 (N : Int)) ∧ RCur w' B g r false ∧ w.grownBy w' (some g)) ∨
  ((∀ N r, l = vp N ++ r → 18446744073709551616 ≤ N) ∧ e = .returned (.int .u64 0) ∧ RCur w' B g [] true ∧ w.grownBy w' (some g))

theorem ror_step2 {k v b : Nat} (hv : v < 128 ^ k) (hk : k ≤ 8 ∨ (k ≤ 9 ∧ b % 128 ≤ 1)) :
    IntKind.u64.wrap ((v : Int) + IntKind.u64.wrap ((b : Int) % 128 * 2 ^ (7 * k))) = ((v + 128 ^ k * (b % 128) : Nat) : Int) := by
  have hf := VIn.fits hv (b := b % 128) (by omega) hk
  have e0 : 128 ^ k * (b % 128) = b % 128 * 2 ^ (7 * k) := by rw [pow128, Nat.mul_comm]
  have e2 : (b : Int) % 128 * 2 ^ (7 * k) = ((b % 128 * 2 ^ (7 * k) : Nat) : Int) := by simp
  rw [e0] at hf ⊢
  rw [e2, IntKind.wrap_u64, IntKind.wrap_u64]
  generalize b % 128 * 2 ^ (7 * k) = z at *
  omega

set_option maxHeartbeats 2000000 in
set_option maxRecDepth 100000 in
theorem rget_any {w : World} {B g : Nat} {l : List Nat} (h : RCur w B g l false) :
    Calls Tryz.prog 39 #[.pointer (some ⟨g, 0, none⟩)] w (RGet B g l w) := by
  go_enter Tryz.func39, Tryz.ntmps39
  go_wp2
  go_loopw [3, 4, 5] (fun v i _ wr => ∃ (k x : Nat) (rl : List Nat), i = .int .i64 (k : Int) ∧ k ≤ 9 ∧ v = .int .u64 (x : Int) ∧ VIn l k x rl ∧ RCur wr B g rl false ∧ w.grownBy wr (some g)) (fun _ i _ _ => 100 - (intOf i).toNat)
  case atStart => exact ⟨0, 0, l, rfl, by omega, rfl, VIn.zero l, h, Far.refl g w⟩
  case round =>
    obtain ⟨k, x, rl, rfl, hk, rfl, hV, hC, hg⟩ := hrel
    have HV := Lib.hid hV
    cases rl with
    | nil =>
      clear hV
      have B0 := Lib.hid (rtake_bad (n := 1) hC (.inr (.inr (by simp))) (by omega) (by omega))
      go_wp2_with (first
        | (go_at_call 35; refine B0.out.mono ?_; rintro e w1 ⟨rfl, C1, g1⟩))
      go_ret
      exact .inr ⟨HV.out.not_nil, rfl, C1, Far.trans hg g1⟩
    | cons b rl =>
      have hb8 : b < 256 := hC.lt8 b (by simp)
      have B0 := Lib.hid (show Calls Tryz.prog 35 #[.pointer (some ⟨g, 0, none⟩), .int .i64 1] _ (RTake B g (b :: rl) 1 _) from rtake_good (n := 1) hC (by simp) (by omega))
      have hx := hV.1
      clear hV
      by_cases hz : 0 < k ∧ b = 0
      · obtain ⟨hz, rfl⟩ := hz
        go_wp2_with (first
          | (go_at_call 35; refine B0.out.mono ?_; rintro e w1 ⟨A1, c1, rfl, k1, C1, g1⟩
             obtain ⟨ad, rfl, _, hcell⟩ := k1.reads.num (i := 0) (by omega)
             simp only [List.take_succ_cons, List.getD_cons_zero, add_zero'] at hcell
             have hF := Lib.hid (rfail_any C1))
          | (go_at_call 37; refine hF.out.mono ?_; rintro e w2 ⟨rfl, C2, g2⟩))
        all_goals first
          | (exfalso; omega)
          | (go_ret
             exact .inr ⟨HV.out.not_zero hz, rfl, C2, Far.trans hg (Far.trans g1 g2)⟩)
      · by_cases h9 : k = 9
        · subst h9
          by_cases hb1 : 1 < b
          · have hbb : ((b : Int) == 0) = false := by simp; omega
            go_wp2_with (first
              | (go_at_call 35; refine B0.out.mono ?_; rintro e w1 ⟨A1, c1, rfl, k1, C1, g1⟩
                 obtain ⟨ad, rfl, _, hcell⟩ := k1.reads.num (i := 0) (by omega)
                 simp only [List.take_succ_cons, List.getD_cons_zero, add_zero'] at hcell
                 have hF := Lib.hid (rfail_any C1))
              | (go_at_call 37; refine hF.out.mono ?_; rintro e w2 ⟨rfl, C2, g2⟩))
            all_goals first
              | (exfalso; omega)
              | (go_ret
                 exact .inr ⟨HV.out.not_big hb1, rfl, C2, Far.trans hg (Far.trans g1 g2)⟩)
          · obtain rfl : b = 1 := by omega
            have HO := ror_step2 hx (b := 1) (.inr ⟨by omega, by omega⟩)
            rw [show ((1 : Nat) : Int) % 128 * (2 : Int) ^ (7 * 9) = 9223372036854775808 from by decide] at HO
            go_wp2_with (first
              | (go_at_call 35; refine B0.out.mono ?_; rintro e w1 ⟨A1, c1, rfl, k1, C1, g1⟩
                 obtain ⟨ad, rfl, _, hcell⟩ := k1.reads.num (i := 0) (by omega)
                 simp only [List.take_succ_cons, List.getD_cons_zero, add_zero'] at hcell))
            go_ret
            exact .inl ⟨x + 128 ^ 9 * 1, rl, HV.out.done (by omega) (.inr (by omega)), VIn.fits hx (by omega) (.inr ⟨by omega, by omega⟩), by simp, C1, Far.trans hg g1⟩
        · have HO := ror_step2 hx (b := b) (.inl (by omega))
          go_wp2_with (first
            | (go_at_call 35; refine B0.out.mono ?_; rintro e w1 ⟨A1, c1, rfl, k1, C1, g1⟩
               obtain ⟨ad, rfl, _, hcell⟩ := k1.reads.num (i := 0) (by omega)
               simp only [List.take_succ_cons, List.getD_cons_zero, add_zero'] at hcell))
          all_goals first
            | (exfalso; omega)
            | (go_ret
               exact .inl ⟨x + 128 ^ k * b, rl, HV.out.done (by omega) (by omega), VIn.fits hx (by omega) (.inl (by omega)), by rw [show ((b : Int) % 128) = (b : Int) from by omega]; simp, C1, Far.trans hg g1⟩)
            | (go_roundw
               case rel => exact ⟨k + 1, x + 128 ^ k * (b - 128), rl, by go_num, by omega, by rw [show ((b : Int) % 128) = ((b - 128 : Nat) : Int) from by omega]; simp, HV.out.step (by omega) hb8, C1, Far.trans hg g1⟩
               case measure => simp [intOf]; omega)

set_option maxHeartbeats 1000000 in
theorem rget_bad {w : World} {B g : Nat} {l : List Nat} (h : RCur w B g l true) :
    Calls Tryz.prog 39 #[.pointer (some ⟨g, 0, none⟩)] w (RPost (.returned (.int .u64 0)) B g [] true w) := by
  have B0 := Lib.hid (rtake_bad (n := 1) h (.inl rfl) (by omega) (by omega))
  go_enter Tryz.func39, Tryz.ntmps39
  go_wp2
  refine wp_loop_rounds 1 ?_
  rw [rounds_succ]
  go_wp2_with (first
    | (go_at_call 35; refine B0.out.mono ?_; rintro e w1 ⟨rfl, C1, g1⟩))
  go_ret
  exact ⟨rfl, C1, g1⟩

theorem rget_app {w : World} {B g N : Nat} {r : List Nat} (h : RCur w B g (vp N ++ r) false) (hN : N < 18446744073709551616) :
    Calls Tryz.prog 39 #[.pointer (some ⟨g, 0, none⟩)] w (RPost (.returned (.int .u64 (N : Int))) B g r false w) :=
  (rget_any h).mono fun e w' hp => by
    rcases hp with ⟨M, s, h1, h2, h3, h4, h5⟩ | ⟨h1, _⟩
    · obtain ⟨rfl, rfl⟩ := vp_app_inj N N M r s (Nat.le_refl _) h1
      exact ⟨h3, h4, h5⟩
    · have := h1 N r rfl
      omega
theorem rget_no {w : World} {B g : Nat} {l : List Nat} {bad : Bool} (h : RCur w B g l bad) (hN : bad = true ∨ ∀ N r, l = vp N ++ r → 18446744073709551616 ≤ N) :
    Calls Tryz.prog 39 #[.pointer (some ⟨g, 0, none⟩)] w (RPost (.returned (.int .u64 0)) B g [] true w) := by
  cases bad with
  | true => exact rget_bad h
  | false =>
    refine (rget_any h).mono fun e w' hp => ?_
    rcases hp with ⟨M, s, h1, h2, h3, h4, h5⟩ | ⟨h1, h2, h3, h4⟩
    · rcases hN with hN | hN
      · simp at hN
      · have := hN M s h1
        omega
    · exact ⟨h2, h3, h4⟩

set_option maxHeartbeats 400000 in
theorem rlen_app {w : World} {B g N : Nat} {r : List Nat} {m : Int} (h : RCur w B g (vp N ++ r) false) (hN : (N : Int) ≤ m) (hm : m ≤ 9223372036854775807) :
    Calls Tryz.prog 19 #[.pointer (some ⟨g, 0, none⟩), .int .i64 m] w (RPost (.returned (.int .i64 (N : Int))) B g r false w) := by
  have G := Lib.hid (rget_app h (by omega))
  go_enter Tryz.func19, Tryz.ntmps19
  go_wp2_with (go_at_call 39; refine G.out.mono ?_; rintro e w1 ⟨rfl, C1, g1⟩
               obtain ⟨A1, c1, hB, _⟩ := id C1
               have q1 := hB.cell 1
               simp at q1)
  go_ret
  exact ⟨rfl, C1, g1⟩
set_option maxHeartbeats 400000 in
theorem rlen_no {w : World} {B g : Nat} {l : List Nat} {bad : Bool} {m : Int} (h : RCur w B g l bad) (hN : bad = true ∨ ∀ N r, l = vp N ++ r → m < N) (hm0 : -9223372036854775808 ≤ m) (hm : m ≤ 9223372036854775807) :
    Calls Tryz.prog 19 #[.pointer (some ⟨g, 0, none⟩), .int .i64 m] w (RPost (.returned (.int .i64 0)) B g [] true w) := by
  by_cases hG : bad = true ∨ ∀ N r, l = vp N ++ r → 18446744073709551616 ≤ N
  · have G := Lib.hid (rget_no h hG)
    clear hG hN
    go_enter Tryz.func19, Tryz.ntmps19
    go_wp2_with (first
      | (go_at_call 39; refine G.out.mono ?_; rintro e w1 ⟨rfl, C1, g1⟩
         have hF := Lib.hid (rfail_any C1)
         obtain ⟨A1, c1, hB, _⟩ := id C1
         have q1 := hB.cell 1
         simp at q1)
      | (go_at_call 37; refine hF.out.mono ?_; rintro e w2 ⟨rfl, C2, g2⟩))
    go_ret
    exact ⟨rfl, C2, Far.trans g1 g2⟩
  · simp only [not_or, Classical.not_forall] at hG
    obtain ⟨hb, N, r, rfl, hlt⟩ := hG
    have hb' : bad = false := by simpa using hb
    subst hb'
    have hmN : m < N := by rcases hN with hN | hN; exact absurd hN hb; exact hN N r rfl
    have G := Lib.hid (rget_app h (by omega))
    clear hN hb
    go_enter Tryz.func19, Tryz.ntmps19
    by_cases hm1 : m < 0
    · go_wp2_with (first
        | (go_at_call 39; refine G.out.mono ?_; rintro e w1 ⟨rfl, C1, g1⟩
           have hF := Lib.hid (rfail_any C1)
           obtain ⟨A1, c1, hB, _⟩ := id C1
           have q1 := hB.cell 1
           simp at q1)
        | (go_at_call 37; refine hF.out.mono ?_; rintro e w2 ⟨rfl, C2, g2⟩))
      go_ret
      exact ⟨rfl, C2, Far.trans g1 g2⟩
    · go_wp2_with (first
        | (go_at_call 39; refine G.out.mono ?_; rintro e w1 ⟨rfl, C1, g1⟩
           have hF := Lib.hid (rfail_any C1)
           obtain ⟨A1, c1, hB, _⟩ := id C1
           have q1 := hB.cell 1
           simp at q1)
        | (go_at_call 37; refine hF.out.mono ?_; rintro e w2 ⟨rfl, C2, g2⟩))
      go_ret
      exact ⟨rfl, C2, Far.trans g1 g2⟩

end Go.Proofs.YtflaaahcoglflaaGreat
/- The cursors' contracts by states. -/

namespace Go.Proofs.YtflaaahcoglflaaGreat
open Go.RowKit Go.Hm
def CurS (w : World) (g : Nat) (S : St) : Prop := Cur w g (S.getD []) S.isNone

section
variable {w w' : World} {g : Nat} {S : St}
theorem CurS.lt (h : CurS w g S) : g < w.heap.size := Cur.lt h
theorem CurS.below (h : CurS w g S) (hb : Below w.heap.size w w') : CurS w' g S := Cur.below h hb
theorem CurS.keep {g' : Nat} {t : TypeId} {cs : Array Value} (h : CurS w g S) (hg : w.grownBy w' (some g')) (hT : Blk w g' t cs) (hne : g ≠ g') (ht : 5 ≠ t) : CurS w' g S := Cur.keep h hg hT hne ht
theorem CurS.blk (h : CurS w g S) : ∃ cs, Blk w g 76 cs := Cur.blk h
theorem CurS.push {e : TypeId} {base : Nat} {v : Value} {xs : List Value} (h : CurS w g S) (o : Own w base e v xs) (hg : w.grownBy w' v.ownBlock) (he1 : e ≠ 76) (he2 : 5 ≠ e) : CurS w' g S := by
  cases hv : v.ownBlock with
  | none =>
    rw [hv] at hg
    exact h.below ((Turns.of_none (T := []) hg).new (by simp))
  | some g' =>
    obtain ⟨cs, hB⟩ := o.row g' hv
    rw [hv] at hg
    obtain ⟨cs2, hC⟩ := h.blk
    exact h.keep hg hB (fun e' => by subst e'; exact Blk.ne_ hB hC he1 rfl) he2
theorem CurS.ok (h : CurS w g S) : S.ok := by
  intro l e
  subst e
  exact Cur.lt8 h
theorem CurS.of {l : List Nat} (h : Cur w g l false) : CurS w g (some l) := h
theorem CurS.len (h : CurS w g S) : (S.getD []).length ≤ 9223372036854775807 := by have := Cur.len h; unfold maxLen at this; omega
end
/-- A call at a cursor: its answer, and what is left. -/
def CPost (e0 : Ending) (g : Nat) (S : St) (w : World) (e : Ending) (w' : World) : Prop := e = e0 ∧ CurS w' g S ∧ w.grownBy w' (some g)
theorem failS {w : World} {g : Nat} {S : St} (h : CurS w g S) : Calls Tryz.prog 32 #[.pointer (some ⟨g, 0, none⟩)] w (CPost (.returned (.tuple #[])) g none w) := fail_any h
theorem badS {w : World} {g : Nat} {S : St} (h : CurS w g S) : Calls Tryz.prog 15 #[.pointer (some ⟨g, 0, none⟩)] w (BadPost S.isNone w) := bad_any h
theorem endS_any {w : World} {g : Nat} {S : St} (h : CurS w g S) : Calls Tryz.prog 17 #[.pointer (some ⟨g, 0, none⟩)] w (BadPost (endS S) w) := by
  have := end_any h
  have e : endS S = (!S.isNone && (S.getD []).isEmpty) := by
    cases S with
    | none => rfl
    | some l => cases l <;> simp [endS]
  rw [e]; exact this
theorem leftS {w : World} {g : Nat} {S : St} (h : CurS w g S) : Calls Tryz.prog 72 #[.pointer (some ⟨g, 0, none⟩)] w (LeftPost (S.getD []) w) := left_any h
theorem byteS_any {w : World} {g : Nat} {S : St} (h : CurS w g S) : Calls Tryz.prog 48 #[.pointer (some ⟨g, 0, none⟩)] w (CPost (.returned (.int .u8 ((byteS S).1 : Int))) g (byteS S).2 w) := by
  cases S with
  | none => exact byte_bad h (.inl rfl)
  | some l =>
    cases l with
    | nil => exact byte_bad h (.inr (by simp))
    | cons b r => exact byte_app h
def TPost (x : List Nat) (g : Nat) (S : St) (w : World) (e : Ending) (w' : World) : Prop :=
  ∃ A n c, e = .returned (.slice A n c) ∧ n = x.length ∧ Own w' w.heap.size 5 (.slice A n c) (nums .u8 x) ∧ CurS w' g S ∧ w.grownBy w' (some g)
theorem takeS_any {w : World} {g : Nat} {n : Int} {S : St} (h : CurS w g S) (h0 : -9223372036854775808 ≤ n) (h1 : n ≤ 140737488355328) : Calls Tryz.prog 47 #[.pointer (some ⟨g, 0, none⟩), .int .i64 n] w (TPost (takeS n S).1 g (takeS n S).2 w) := by
  rcases takeS_cases n S with hc | ⟨l, rfl, h2, h3, hc⟩
  · rw [hc]
    have hb : S.isNone = true ∨ n < 0 ∨ ((S.getD []).length : Int) < n := by
      unfold takeS at hc
      cases S with
      | none => exact .inl rfl
      | some l =>
        simp only at hc
        split at hc
        · simp at hc
        · rename_i hh
          simp only [Option.getD_some]
          omega
    refine (take_bad h hb h0 (by omega)).mono ?_
    rintro e w' ⟨rfl, k1, k2⟩
    exact ⟨none, 0, 0, rfl, rfl, Own.nil_, k1, k2⟩
  · rw [hc]
    obtain ⟨m, rfl⟩ := Int.eq_ofNat_of_zero_le h2
    simp only [Int.toNat_natCast]
    have hm : m ≤ l.length := by omega
    refine (take_good (l := l) (n := m) h hm (by omega)).mono ?_
    rintro e w' ⟨A, c, rfl, k1, k2, k3⟩
    exact ⟨A, m, c, rfl, by rw [List.length_take]; omega, k1, k2, k3⟩
theorem getS_any {w : World} {g : Nat} {S : St} (h : CurS w g S) : Calls Tryz.prog 33 #[.pointer (some ⟨g, 0, none⟩)] w (CPost (.returned (.int .u64 ((getS S).1 : Int))) g (getS S).2 w) := by
  rcases hc : getS S with ⟨v, T⟩
  have hok := h.ok
  cases S with
  | none =>
    simp only [getS, Prod.mk.injEq] at hc
    obtain ⟨rfl, rfl⟩ := hc
    exact get_no h (.inl rfl)
  | some l =>
    simp only [getS] at hc
    split at hc
    · rename_i N r hg
      obtain ⟨h1, h2⟩ := gv_some (hok l rfl) hg
      simp only [Prod.mk.injEq] at hc
      obtain ⟨rfl, rfl⟩ := hc
      subst h1
      exact get_app h h2
    · rename_i hg
      simp only [Prod.mk.injEq] at hc
      obtain ⟨rfl, rfl⟩ := hc
      exact get_no h (.inr (gv_none hg))
theorem lenS_any {w : World} {g : Nat} {m : Int} {S : St} (h : CurS w g S) (hm0 : -9223372036854775808 ≤ m) (hm : m ≤ 9223372036854775807) : Calls Tryz.prog 14 #[.pointer (some ⟨g, 0, none⟩), .int .i64 m] w (CPost (.returned (.int .i64 ((lenS m S).1 : Int))) g (lenS m S).2 w) := by
  have hok := h.ok
  by_cases hg : ∃ N r, S = some (vp N ++ r) ∧ (N : Int) ≤ m
  · obtain ⟨N, r, rfl, hN⟩ := hg
    rw [lenS_app N r hN hm]
    exact len_app h hN hm
  · have e : lenS m S = (0, none) := by
      rcases lenS_cases m S hok with h1 | ⟨N, r, h1, h2, _, _⟩
      · exact h1
      · exact absurd ⟨N, r, h1, h2⟩ hg
    rw [e]
    refine len_no h ?_ hm0 hm
    cases S with
    | none => exact .inl rfl
    | some l =>
      refine .inr fun N r hl => ?_
      simp only [Option.getD_some] at hl
      subst hl
      rcases Int.lt_or_le m N with h1 | h1
      · exact h1
      · exact absurd ⟨N, r, rfl, h1⟩ hg
def RCurS (w : World) (B g : Nat) (S : St) : Prop := RCur w B g (S.getD []) S.isNone

section
variable {w w' : World} {B g : Nat} {S : St}
theorem RCurS.lt (h : RCurS w B g S) : g < w.heap.size := RCur.lt h
theorem RCurS.ge (h : RCurS w B g S) : B ≤ g := RCur.ge h
theorem RCurS.below (h : RCurS w B g S) (hb : Below w.heap.size w w') : RCurS w' B g S := RCur.below h hb
theorem RCurS.keep {g' : Nat} (h : RCurS w B g S) (hg : w.grownBy w' (some g')) (hB : B ≤ g') (hne : g ≠ g') : RCurS w' B g S := RCur.keep h hg hB hne
theorem RCurS.blk (h : RCurS w B g S) : ∃ cs, Blk w g 61 cs := RCur.blk h
theorem RCurS.push {e : TypeId} {base : Nat} {v : Value} {xs : List Value} (h : RCurS w B g S) (o : Own w base e v xs) (hB : B ≤ base) (hg : w.grownBy w' v.ownBlock) (he : e ≠ 61) : RCurS w' B g S := by
  cases hv : v.ownBlock with
  | none =>
    rw [hv] at hg
    exact h.below ((Turns.of_none (T := []) hg).new (by simp))
  | some g' =>
    obtain ⟨cs, hC⟩ := h.blk
    have h1 := o.lt g' hv
    have h2 := o.blk_ne hC he
    rw [hv] at hg
    exact h.keep hg (by omega) (fun e' => by subst e'; exact h2 hv)
theorem RCurS.is (h : RCurS w B g S) : w.cell? ⟨g, 1, none⟩ = some (.bool S.isNone) := by
  obtain ⟨A, c, h1, _⟩ := h
  rw [h1.cell 1]; rfl
theorem RCurS.new {A : Option Addr} {c : Nat} {l : List Nat} (h : Reads w w.heap.size 1 A l.length (nums .u8 l)) (hc : l.length ≤ c) (hm : c ≤ maxLen) (h8 : ∀ x ∈ l, x < 256) :
    RCurS (w.alloc (.cells #[.slice A l.length c, .bool false] 61)) w.heap.size w.heap.size (some l) :=
  ⟨A, c, Blk.new _ _ _, hc, hm, h.alloc (Nat.le_refl _) _, Nat.le_refl _, h8⟩
theorem RCurS.ok (h : RCurS w B g S) : S.ok := by
  intro l e
  subst e
  exact RCur.lt8 h
theorem RCurS.of {l : List Nat} (h : RCur w B g l false) : RCurS w B g (some l) := h
end
def RSPost (e0 : Ending) (B g : Nat) (S : St) (w : World) (e : Ending) (w' : World) : Prop := e = e0 ∧ RCurS w' B g S ∧ w.grownBy w' (some g)
theorem rfailS {w : World} {B g : Nat} {S : St} (h : RCurS w B g S) : Calls Tryz.prog 37 #[.pointer (some ⟨g, 0, none⟩)] w (RSPost (.returned (.tuple #[])) B g none w) := rfail_any h
theorem rendS_any {w : World} {B g : Nat} {S : St} (h : RCurS w B g S) : Calls Tryz.prog 21 #[.pointer (some ⟨g, 0, none⟩)] w (BadPost (endS S) w) := by
  have := rend_any h
  have e : endS S = (!S.isNone && (S.getD []).isEmpty) := by
    cases S with
    | none => rfl
    | some l => cases l <;> simp [endS]
  rw [e]; exact this
def RTPost (x : List Nat) (B g : Nat) (S : St) (w : World) (e : Ending) (w' : World) : Prop :=
  ∃ A n c, e = .returned (.slice A n c) ∧ n = x.length ∧ Own w' w.heap.size 5 (.slice A n c) (nums .u8 x) ∧ RCurS w' B g S ∧ w.grownBy w' (some g)
theorem rtakeS_any {w : World} {B g : Nat} {n : Int} {S : St} (h : RCurS w B g S) (h0 : -9223372036854775808 ≤ n) (h1 : n ≤ 140737488355200) : Calls Tryz.prog 35 #[.pointer (some ⟨g, 0, none⟩), .int .i64 n] w (RTPost (takeS n S).1 B g (takeS n S).2 w) := by
  rcases takeS_cases n S with hc | ⟨l, rfl, h2, h3, hc⟩
  · rw [hc]
    have hb : S.isNone = true ∨ n < 0 ∨ ((S.getD []).length : Int) < n := by
      unfold takeS at hc
      cases S with
      | none => exact .inl rfl
      | some l =>
        simp only at hc
        split at hc
        · simp at hc
        · rename_i hh
          simp only [Option.getD_some]
          omega
    refine (rtake_bad h hb h0 (by omega)).mono ?_
    rintro e w' ⟨rfl, k1, k2⟩
    exact ⟨none, 0, 0, rfl, rfl, Own.nil_, k1, k2⟩
  · rw [hc]
    obtain ⟨m, rfl⟩ := Int.eq_ofNat_of_zero_le h2
    simp only [Int.toNat_natCast]
    have hm : m ≤ l.length := by omega
    refine (rtake_good (l := l) (n := m) h hm (by omega)).mono ?_
    rintro e w' ⟨A, c, rfl, k1, k2, k3⟩
    exact ⟨A, m, c, rfl, by rw [List.length_take]; omega, k1, k2, k3⟩
theorem rgetS_any {w : World} {B g : Nat} {S : St} (h : RCurS w B g S) : Calls Tryz.prog 39 #[.pointer (some ⟨g, 0, none⟩)] w (RSPost (.returned (.int .u64 ((getS S).1 : Int))) B g (getS S).2 w) := by
  rcases hc : getS S with ⟨v, T⟩
  have hok := h.ok
  cases S with
  | none =>
    simp only [getS, Prod.mk.injEq] at hc
    obtain ⟨rfl, rfl⟩ := hc
    exact rget_no h (.inl rfl)
  | some l =>
    simp only [getS] at hc
    split at hc
    · rename_i N r hg
      obtain ⟨h1, h2⟩ := gv_some (hok l rfl) hg
      simp only [Prod.mk.injEq] at hc
      obtain ⟨rfl, rfl⟩ := hc
      subst h1
      exact rget_app h h2
    · rename_i hg
      simp only [Prod.mk.injEq] at hc
      obtain ⟨rfl, rfl⟩ := hc
      exact rget_no h (.inr (gv_none hg))
theorem rlenS_any {w : World} {B g : Nat} {m : Int} {S : St} (h : RCurS w B g S) (hm0 : -9223372036854775808 ≤ m) (hm : m ≤ 9223372036854775807) : Calls Tryz.prog 19 #[.pointer (some ⟨g, 0, none⟩), .int .i64 m] w (RSPost (.returned (.int .i64 ((lenS m S).1 : Int))) B g (lenS m S).2 w) := by
  have hok := h.ok
  by_cases hg : ∃ N r, S = some (vp N ++ r) ∧ (N : Int) ≤ m
  · obtain ⟨N, r, rfl, hN⟩ := hg
    rw [lenS_app N r hN hm]
    exact rlen_app h hN hm
  · have e : lenS m S = (0, none) := by
      rcases lenS_cases m S hok with h1 | ⟨N, r, h1, h2, _, _⟩
      · exact h1
      · exact absurd ⟨N, r, h1, h2⟩ hg
    rw [e]
    refine rlen_no h ?_ hm0 hm
    cases S with
    | none => exact .inl rfl
    | some l =>
      refine .inr fun N r hl => ?_
      simp only [Option.getD_some] at hl
      subst hl
      rcases Int.lt_or_le m N with h1 | h1
      · exact h1
      · exact absurd ⟨N, r, rfl, h1⟩ hg
theorem rbyteS_any {w : World} {B g : Nat} {S : St} (h : RCurS w B g S) : Calls Tryz.prog 36 #[.pointer (some ⟨g, 0, none⟩), .int .i64 1] w (RSPost (.returned (.int .u64 ((byteS S).1 : Int))) B g (byteS S).2 w) := by
  cases S with
  | none => exact rnum_bad (n := 1) h (.inl rfl) (by omega) (by omega)
  | some l =>
    cases l with
    | nil => exact rnum_bad (n := 1) h (.inr (.inr (by simp))) (by omega) (by omega)
    | cons b r =>
      have := rnum_good (l := b :: r) 1 h (by simp) (by omega)
      simp only [List.take_succ_cons, List.take_zero, num, Nat.mul_zero, Nat.add_zero, List.drop_succ_cons, List.drop_zero] at this
      exact this

end Go.Proofs.YtflaaahcoglflaaGreat
/- The contract of stat.Get, where no ends are told. -/

namespace Go.Proofs.YtflaaahcoglflaaGreat
open Go.RowKit Go.Hm
/-- What is read where no ends are told. -/
def getR (S : St) : StatS × St := if (byteS (lenS 65536 S).2).1 = 0 ∧ (byteS (lenS 65536 S).2).2 ≠ none then ((((lenS 65536 S).1 : Int), false, cell0, cell0), (byteS (lenS 65536 S).2).2) else (stat0, none)
def SGetPost (s : StatS) (g : Nat) (S : St) (w : World) (e : Ending) (w' : World) : Prop := e = .returned (statA s) ∧ CurS w' g S ∧ w.grownBy w' (some g)
set_option maxHeartbeats 4000000 in
set_option maxRecDepth 100000 in
theorem sget_no {w : World} {g : Nat} {S : St} {t : Int} (h : CurS w g S) (h1 : (byteS (lenS 65536 S).2).1 ≠ 1) (ht : 0 ≤ t ∧ t ≤ 3) :
    Calls Tryz.prog 49 #[.pointer (some ⟨g, 0, none⟩), .int .i64 t] w
      (SGetPost (getR S).1 g (getR S).2 w) := by
  obtain ⟨X, hX⟩ : ∃ X, X = getR S := ⟨_, rfl⟩
  rw [← hX]
  unfold getR at hX
  have hle := lenS_le (m := 65536) S (by omega) h.ok
  have hlt := h.lt
  have ha : New w (w.alloc (.cells (statV stat0).toArray 37)) := (Below.refl _ _).alloc (Nat.le_refl _) _
  have h0 := h.below ha
  have L1 := Lib.hid (lenS_any (m := 65536) h0 (by omega) (by omega))
  have BZ0 : Blk (w.alloc (.cells (statV stat0).toArray 37)) w.heap.size 37 (statV stat0).toArray := Blk.new _ _ _
  generalize lenS 65536 S = H at *
  obtain ⟨n, S1⟩ := H
  dsimp only at *
  have hbl := byteS_lt (S := S1)
  have hRt : rightS t ((n : Int), false, cell0, cell0) = true := by
    unfold rightS
    rw [if_neg (by dsimp only; omega)]
    simp
  have SR := fun (W : World) => sright_any (w := W) (t := t) (s := ((n : Int), false, cell0, cell0)) (by unfold statFine cell0; simp)
  rw [hRt] at SR
  have SR : Hid (∀ W, Calls Tryz.prog 54 #[.int .i64 t, .agg #[.int .i64 (n : Int), .bool false, .bool false, .int .i64 0, .string ⟨#[]⟩, .int .i64 0, .int .i64 0, .bool false, .int .i64 0, .string ⟨#[]⟩, .int .i64 0, .int .i64 0]] W (NewPost (.bool true) W)) := Lib.hid SR
  have HX := Lib.hid hX
  clear hRt h hX
  go_enter Tryz.func49, Tryz.ntmps49
  go_wp2_with fail
  refine L1.out.mono ?_
  rintro e w1 ⟨rfl, s1, g1⟩
  have hbl := hbl s1.ok
  have C2 := Lib.hid (byteS_any (s1.below ((Below.refl _ _).alloc (Nat.le_refl _) (.cells #[.int .i64 (n : Int), .bool false, .bool false, .int .i64 0, .string ⟨#[]⟩, .int .i64 0, .int .i64 0, .bool false, .int .i64 0, .string ⟨#[]⟩, .int .i64 0, .int .i64 0] 37))))
  have hz1 := g1.size
  have BZ1 := (BZ0.grown g1 (by intro e; injection e with e; omega)).alloc (.cells #[.int .i64 (n : Int), .bool false, .bool false, .int .i64 0, .string ⟨#[]⟩, .int .i64 0, .int .i64 0, .bool false, .int .i64 0, .string ⟨#[]⟩, .int .i64 0, .int .i64 0] 37)
  have BT1 := Blk.new w1 37 #[.int .i64 (n : Int), .bool false, .bool false, .int .i64 0, .string ⟨#[]⟩, .int .i64 0, .int .i64 0, .bool false, .int .i64 0, .string ⟨#[]⟩, .int .i64 0, .int .i64 0]
  have G1 := (Far.of_new ha (g := g)).trans (g1.trans (Far.of_new ((Below.refl _ w1).alloc (Nat.le_refl _) (.cells #[.int .i64 (n : Int), .bool false, .bool false, .int .i64 0, .string ⟨#[]⟩, .int .i64 0, .int .i64 0, .bool false, .int .i64 0, .string ⟨#[]⟩, .int .i64 0, .int .i64 0] 37))))
  generalize byteS S1 = Bq at *
  obtain ⟨y, S2⟩ := Bq
  dsimp only at *
  clear L1 h0 BZ0 s1 g1 ha
  go_wp2_with fail
  refine C2.out.mono ?_
  rintro e w2 ⟨rfl, s2, g2⟩
  have hz2 := g2.size
  simp only [World.size_alloc] at hz1 hz2
  have BZ := BZ1.grown g2 (by intro e; injection e with e; omega)
  have BT := BT1.grown g2 (by intro e; injection e with e; omega)
  have G2 := G1.trans g2
  clear C2 BZ1 BT1 G1 g2
  obtain ⟨x0, x1, x2, x3, x4, x5, x6, x7, x8, x9, x10, x11⟩ := cells12 BT
  have y1 : ((y : Int) == 1) = false := beq_eq_false_iff_ne.2 (by omega)
  by_cases hy : 1 < y
  · have hX := HX.out
    rw [if_neg (by omega)] at hX
    clear HX
    have HX := Lib.hid hX
    clear hX
    have t1 : decide ((1 : Int) < (y : Int)) = true := by simp; omega
    have F := Lib.hid (failS s2)
    go_wp2_with fail
    refine F.out.mono ?_
    rintro e w3 ⟨rfl, s3, g3⟩
    have hz3 := g3.size
    have BZ3 := BZ.grown g3 (by intro e; injection e with e; omega)
    have G3 := Lib.hid (G2.trans g3)
    have HS3 := Lib.hid s3
    clear F BZ BT G2 g3 x0 x1 x2 x3 x4 x5 x6 x7 x8 x9 x10 x11 s2 s3
    go_wp2_with (refine wpList_storeG rfl 37 (.tmp 4) (.tmp 37) rfl w.heap.size _ rfl rfl BZ3 (by kernel_rfl) (by simp [statV, stat0, cellV]) (by simp [Value.oneCell']) ?_
                 intro W5 BR G5
                 obtain ⟨s0, s1, s2, s3, s4, s5, s6, s7, s8, s9, s10, s11⟩ := cells12 BR)
    have hX := HX.out
    subst hX
    exact bodyPost_ret (v := statA stat0) (by simp [results, Tryz.results49, go_sem, s0, s1, s2, s3, s4, s5, s6, s7, s8, s9, s10, s11, statA, statV, cellV, stat0, cell0, show bstr [] = ⟨#[]⟩ from rfl]) rfl ⟨rfl, HS3.out.keep G5 BZ3 (by omega) (by decide), grown_then G3.out G5 (Nat.le_refl _)⟩
  · obtain rfl : y = 0 := by omega
    have t1 : decide ((1 : Int) < ((0 : Nat) : Int)) = false := by simp
    have BD := Lib.hid (badS s2)
    cases S2 with
    | none =>
      have hX := HX.out
      rw [if_neg (by simp)] at hX
      clear HX
      have HX := Lib.hid hX
      clear hX
      go_wp2_with fail
      refine BD.out.mono ?_
      rintro e w2' ⟨rfl, rfl⟩
      have F := Lib.hid (failS s2)
      go_wp2_with fail
      refine F.out.mono ?_
      rintro e w3 ⟨rfl, s3, g3⟩
      have hz3 := g3.size
      have BZ3 := BZ.grown g3 (by intro e; injection e with e; omega)
      have G3 := Lib.hid (G2.trans g3)
      have HS3 := Lib.hid s3
      clear F BZ BT G2 g3 x0 x1 x2 x3 x4 x5 x6 x7 x8 x9 x10 x11 s2 s3
      go_wp2_with (refine wpList_storeG rfl 37 (.tmp 4) (.tmp 37) rfl w.heap.size _ rfl rfl BZ3 (by kernel_rfl) (by simp [statV, stat0, cellV]) (by simp [Value.oneCell']) ?_
                   intro W5 BR G5
                   obtain ⟨s0, s1, s2, s3, s4, s5, s6, s7, s8, s9, s10, s11⟩ := cells12 BR)
      have hX := HX.out
      subst hX
      exact bodyPost_ret (v := statA stat0) (by simp [results, Tryz.results49, go_sem, s0, s1, s2, s3, s4, s5, s6, s7, s8, s9, s10, s11, statA, statV, cellV, stat0, cell0, show bstr [] = ⟨#[]⟩ from rfl]) rfl ⟨rfl, HS3.out.keep G5 BZ3 (by omega) (by decide), grown_then G3.out G5 (Nat.le_refl _)⟩
    | some S2 =>
      have hX := HX.out
      rw [if_pos ⟨rfl, by simp⟩] at hX
      clear HX
      have HX := Lib.hid hX
      clear hX
      go_wp2_with fail
      refine BD.out.mono ?_
      rintro e w2' ⟨rfl, rfl⟩
      go_wp2_with fail
      refine (SR.out _).mono ?_
      rintro e w3 ⟨rfl, b3⟩
      have hz3 := b3.size
      have BZ3 := BZ.below b3 BZ.lt
      have BT3 := BT.below b3 BT.lt
      have G3 := Lib.hid (G2.trans (Far.of_new b3))
      have HS3 := Lib.hid (s2.below b3)
      clear BZ BT G2 b3 x0 x1 x2 x3 x4 x5 x6 x7 x8 x9 x10 x11 s2
      obtain ⟨x0, x1, x2, x3, x4, x5, x6, x7, x8, x9, x10, x11⟩ := cells12 BT3
      go_wp2_with (refine wpList_storeG rfl 37 (.tmp 4) (.tmp 38) rfl w.heap.size _ rfl rfl BZ3 (by kernel_rfl) (by simp [statV, stat0, cellV]) (by simp [Value.oneCell']) ?_
                   intro W5 BR G5
                   obtain ⟨s0, s1, s2, s3, s4, s5, s6, s7, s8, s9, s10, s11⟩ := cells12 BR)
      have hX := HX.out
      subst hX
      exact bodyPost_ret (v := statA ((n : Int), false, cell0, cell0)) (by simp [results, Tryz.results49, go_sem, s0, s1, s2, s3, s4, s5, s6, s7, s8, s9, s10, s11, statA, statV, cellV, cell0, show bstr [] = ⟨#[]⟩ from rfl]) rfl ⟨rfl, HS3.out.keep G5 BZ3 (by omega) (by decide), grown_then G3.out G5 (Nat.le_refl _)⟩

end Go.Proofs.YtflaaahcoglflaaGreat
/- Cells read as they are: plain lists. -/

namespace Go.Hm
open Go Go.RowKit
/-- A number of eight bytes is read. -/
def u64S : St → Nat × St
  | some l => if 8 ≤ l.length then (num (l.take 8), some (l.drop 8)) else (0, none)
  | none => (0, none)
/-- Bits as a number. -/
def i64Z (n : Nat) : Int := if n < 9223372036854775808 then (n : Int) else (n : Int) - 18446744073709551616
/-- A cell of a type that is not 1 is read. -/
def rdC (t : Int) (S : St) : CellS × St :=
  if t = 0 then ((false, i64Z (u64S S).1, [], 0, 0), (u64S S).2)
  else if t = 3 then ((false, 0, [], zag (getS S).1, zag (getS (getS S).2).1), (getS (getS S).2).2)
  else ((false, 0, (takeS ((lenS 65536 S).1 : Int) (lenS 65536 S).2).1, 0, 0), (takeS ((lenS 65536 S).1 : Int) (lenS 65536 S).2).2)
/-- So many cells are read, till none can be. -/
def rdL (t : Int) : Nat → St → List CellS × St
  | 0, S => ([], S)
  | _ + 1, none => ([], none)
  | k + 1, some l => ((rdC t (some l)).1 :: (rdL t k (rdC t (some l)).2).1, (rdL t k (rdC t (some l)).2).2)
theorem i64Z_u64N {n : Int} (h : -9223372036854775808 ≤ n ∧ n ≤ 9223372036854775807) : i64Z (u64N n) = n := by
  unfold i64Z u64N
  split <;> omega
theorem u64N_i64Z {n : Nat} (h : n < 18446744073709551616) : u64N (i64Z n) = n := by
  unfold i64Z u64N
  split <;> omega
theorem rd_app {t : Int} {c : CellS} (hr : rightB c t false = true) (ht : t ≠ 1) (hi : -9223372036854775808 ≤ c.2.1 ∧ c.2.1 ≤ 9223372036854775807) (r : List Nat) : rdC t (some (plE t c ++ r)) = (c, some r) := by
  have h0 := right0 hr
  obtain ⟨y0, y1, y2, y3, y4⟩ := c
  dsimp only at h0 hi
  subst h0
  rcases rightB_t hr with rfl | rfl | rfl | rfl
  · have e : y2 = [] ∧ y3 = 0 ∧ y4 = 0 := by simpa [rightB] using hr
    obtain ⟨rfl, rfl, rfl⟩ := e
    have hl := low_len (u64N y1) 8
    have e1 : plE 0 (false, y1, [], 0, 0) = low (u64N y1) 8 := by unfold plE; rw [if_pos rfl]
    have e2 : u64S (some (low (u64N y1) 8 ++ r)) = (u64N y1, some r) := by
      unfold u64S
      dsimp only
      rw [if_pos (by rw [List.length_append]; omega), List.take_left' hl, List.drop_left' hl, num_low_of_lt (by have := u64N_lt y1; omega)]
    unfold rdC
    rw [if_pos rfl, e1, e2]
    dsimp only
    rw [i64Z_u64N hi]
  · exact absurd rfl ht
  · have e : (y1 = 0 ∧ y3 = 0 ∧ y4 = 0) ∧ y2.length ≤ 65536 := by simpa [rightB] using hr
    obtain ⟨⟨rfl, rfl, rfl⟩, hl⟩ := e
    have e1 : plE 2 (false, 0, y2, 0, 0) = vp y2.length ++ y2 := by unfold plE; rw [if_neg (by decide), if_pos rfl]
    unfold rdC
    rw [if_neg (by decide), if_neg (by decide), e1, List.append_assoc, lenS_app _ _ (by omega) (by omega)]
    dsimp only
    rw [takeS_app]
  · have h3 := right3 hr
    have e : y1 = 0 ∧ y2 = [] := by
      have := right20 hr
      have h := hr
      unfold rightB at h
      simp at h
      exact ⟨h.1.1, this⟩
    obtain ⟨rfl, rfl⟩ := e
    dsimp only at h3
    have e1 : plE 3 (false, 0, [], y3, y4) = vp (zig y3) ++ vp (zig y4) := by unfold plE; rw [if_neg (by decide), if_neg (by decide), if_pos rfl]
    unfold rdC
    rw [if_neg (by decide), if_pos rfl, e1, List.append_assoc, getS_app _ _ (by unfold zig; split <;> omega)]
    dsimp only
    rw [getS_app _ _ (by unfold zig; split <;> omega)]
    dsimp only
    rw [zag_zig, zag_zig]
theorem rdL_app {t : Int} (ht : t ≠ 1) : ∀ (l : List CellS) (r : List Nat), (∀ c ∈ l, rightB c t false = true) → (∀ c ∈ l, -9223372036854775808 ≤ c.2.1 ∧ c.2.1 ≤ 9223372036854775807) → rdL t l.length (some (l.flatMap (plE t) ++ r)) = (l, some r)
  | [], r, _, _ => rfl
  | c :: l, r, h, k => by
    have ih := rdL_app ht l r (fun d hd => h d (by simp [hd])) (fun d hd => k d (by simp [hd]))
    rw [List.flatMap_cons, List.append_assoc, List.length_cons, rdL, rd_app (h c (by simp)) ht (k c (by simp))]
    dsimp only
    rw [ih]
theorem rd_some {t : Int} {S : St} {c : CellS} {r : List Nat} (hS : S.ok) (ht : t = 0 ∨ t = 2 ∨ t = 3) (h : rdC t S = (c, some r)) : S = some (plE t c ++ r) := by
  rcases ht with rfl | rfl | rfl
  · unfold rdC at h
    rw [if_pos rfl] at h
    injection h with h1 h2
    cases S with
    | none => simp [u64S] at h2
    | some l =>
      unfold u64S at h1 h2
      dsimp only at h1 h2
      by_cases h8 : 8 ≤ l.length
      · rw [if_pos h8] at h1 h2
        injection h2 with h2
        have hb := hS l rfl
        have ht8 : (l.take 8).length = 8 := by rw [List.length_take]; omega
        have hb8 : ∀ x ∈ l.take 8, x < 256 := fun x hx => hb x (List.mem_of_mem_take hx)
        have hn := num_lt (l.take 8) hb8
        rw [ht8] at hn
        have hl := low_num (l.take 8) hb8
        rw [ht8] at hl
        rw [← h1, ← h2]
        unfold plE
        rw [if_pos rfl]
        dsimp only
        rw [u64N_i64Z (by omega), hl, List.take_append_drop]
      · rw [if_neg h8] at h2
        cases h2
  · unfold rdC at h
    rw [if_neg (by decide), if_neg (by decide)] at h
    injection h with h1 h2
    rcases lenS_cases 65536 S hS with e | ⟨N, q, rfl, hN, -, e⟩
    · rw [e] at h2
      simp [takeS] at h2
    · rw [e] at h1 h2
      dsimp only at h1 h2
      rcases takeS_cases (N : Int) (some q) with e2 | ⟨l, e3, -, hl, e2⟩
      · rw [e2] at h2
        cases h2
      · injection e3 with e3
        subst e3
        rw [e2] at h1 h2
        injection h2 with h2
        rw [← h1, ← h2]
        unfold plE
        rw [if_neg (by decide), if_pos rfl]
        dsimp only
        rw [Int.toNat_natCast, List.length_take, Nat.min_eq_left (by omega), List.append_assoc, List.take_append_drop]
  · unfold rdC at h
    rw [if_neg (by decide), if_pos rfl] at h
    injection h with h1 h2
    rcases getS_cases S hS with e | ⟨N, q, rfl, hN, e⟩
    · rw [e] at h2
      simp [getS] at h2
    · rw [e] at h1 h2
      dsimp only at h1 h2
      have hq : St.ok (some q) := by have := getS_ok hS; rwa [e] at this
      rcases getS_cases (some q) hq with e2 | ⟨N2, q2, e3, hN2, e2⟩
      · rw [e2] at h2
        cases h2
      · injection e3 with e3
        subst e3
        rw [e2] at h1 h2
        injection h2 with h2
        rw [← h1, ← h2]
        unfold plE
        rw [if_neg (by decide), if_neg (by decide), if_pos rfl]
        dsimp only
        rw [zig_zag, zig_zag, List.append_assoc]
theorem rd_ok {t : Int} {S : St} (hS : S.ok) : (rdC t S).2.ok := by
  unfold rdC
  split
  · cases S with
    | none => exact St.ok_none
    | some l =>
      unfold u64S
      dsimp only
      split
      · exact St.ok_some fun x hx => hS l rfl x (List.mem_of_mem_drop hx)
      · exact St.ok_none
  · split
    · exact getS_ok (getS_ok hS)
    · exact (takeS_ok (lenS_ok hS)).1
theorem rdL_some {t : Int} (ht : t = 0 ∨ t = 2 ∨ t = 3) : ∀ (n : Nat) (S : St) (l : List CellS) (r : List Nat), S.ok → rdL t n S = (l, some r) → S = some (l.flatMap (plE t) ++ r) ∧ l.length = n
  | 0, S, l, r, _, h => by
    unfold rdL at h
    injection h with h1 h2
    subst h1
    exact ⟨by simpa using h2, rfl⟩
  | n + 1, none, l, r, _, h => by
    unfold rdL at h
    injection h with _ h2
    cases h2
  | n + 1, some s, l, r, hS, h => by
    unfold rdL at h
    injection h with h1 h2
    have ho := rd_ok (t := t) hS
    match hq : rdC t (some s) with
    | (c, none) =>
      rw [hq] at h2
      cases n with
      | zero => unfold rdL at h2; cases h2
      | succ n => unfold rdL at h2; cases h2
    | (c, some q) =>
      rw [hq] at h1 h2 ho
      obtain ⟨e1, e2⟩ := rdL_some ht n (some q) (rdL t n (some q)).1 r ho (by rw [← h2])
      have e3 := rd_some hS ht hq
      subst h1
      refine ⟨?_, by rw [List.length_cons, e2]⟩
      injection e1 with e1
      rw [e3, List.flatMap_cons, List.append_assoc, ← e1]

end Go.Hm
/- The contract of plain.read. -/

namespace Go.Proofs.YtflaaahcoglflaaGreat
open Go.RowKit Go.Hm
theorem u64S_any {w : World} {g : Nat} {S : St} (h : CurS w g S) : Calls Tryz.prog 100 #[.pointer (some ⟨g, 0, none⟩)] w (CPost (.returned (.int .u64 ((u64S S).1 : Int))) g (u64S S).2 w) := by
  cases S with
  | none => exact u64_bad h (.inl rfl)
  | some l =>
    unfold u64S
    dsimp only
    split
    · exact u64_good h ‹_›
    · exact u64_bad h (.inr (by simp; omega))
theorem i64_wrapZ {n : Nat} (h : n < 18446744073709551616) : IntKind.i64.wrap (n : Int) = i64Z n := by
  unfold i64Z
  by_cases hn : n < 9223372036854775808
  · rw [if_pos hn]
    exact IntWalk.i64_in _ (by omega)
  · rw [if_neg hn]
    rw [IntKind.wrap_i64]
    omega
theorem u64S_lt {S : St} (hS : S.ok) : (u64S S).1 < 18446744073709551616 := by
  cases S with
  | none => simp [u64S]
  | some l =>
    unfold u64S
    dsimp only
    split
    · have := num_lt (l.take 8) (fun x hx => hS l rfl x (List.mem_of_mem_take hx))
      have h2 : (l.take 8).length = 8 := by rw [List.length_take]; omega
      rw [h2] at this
      omega
    · simp
def RdPost (c : CellS) (g : Nat) (S : St) (w : World) (e : Ending) (w' : World) : Prop := e = .returned (cellA c) ∧ CurS w' g S ∧ w.grownBy w' (some g)
set_option maxHeartbeats 4000000 in
set_option maxRecDepth 100000 in
theorem read_any {w : World} {g : Nat} {S : St} {t : Int} (h : CurS w g S) (ht : t = 0 ∨ t = 2 ∨ t = 3) :
    Calls Tryz.prog 88 #[.pointer (some ⟨g, 0, none⟩), .int .i64 t] w (RdPost (rdC t S).1 g (rdC t S).2 w) := by
  have hlt := h.lt
  have ha : New w (w.alloc (.cells (cellV cell0).toArray 35)) := (Below.refl _ _).alloc (Nat.le_refl _) _
  have h0 := h.below ha
  have BZ : Blk (w.alloc (.cells (cellV cell0).toArray 35)) w.heap.size 35 (cellV cell0).toArray := Blk.new _ _ _
  have G0 : w.grownBy (w.alloc (.cells (cellV cell0).toArray 35)) (some g) := Far.of_new ha
  obtain ⟨X, hX⟩ : ∃ X, X = rdC t S := ⟨_, rfl⟩
  rw [← hX]
  unfold rdC at hX
  rcases ht with rfl | rfl | rfl
  · rw [if_pos rfl] at hX
    have C1 := Lib.hid (u64S_any h0)
    have hw := i64_wrapZ (u64S_lt h.ok)
    generalize u64S S = Q at *
    obtain ⟨a, S1⟩ := Q
    dsimp only at *
    generalize i64Z a = z at *
    have HX := Lib.hid hX
    clear hX h h0 ha
    go_enter Tryz.func88, Tryz.ntmps88
    go_wp2_with fail
    refine C1.out.mono ?_
    rintro e w1 ⟨rfl, s1, g1⟩
    have hz1 := g1.size
    simp only [World.size_alloc] at hz1
    have BZ1 := BZ.grown g1 (by intro e; injection e with e; omega)
    have G1 := G0.trans g1
    go_wp2_with (refine wpList_storeG rfl 35 (.tmp 4) (.tmp 13) rfl w.heap.size _ rfl rfl BZ1 (by kernel_rfl) (by simp [cellV]) (by simp [Value.oneCell']) ?_
                 intro W5 BR G5
                 obtain ⟨s0, s1', s2, s3, s4⟩ := cells5 BR)
    have hX := HX.out
    subst hX
    exact bodyPost_ret (v := cellA (false, z, [], 0, 0)) (by simp [results, Tryz.results88, go_sem, s0, s1', s2, s3, s4, cellA, cellV, show bstr [] = ⟨#[]⟩ from rfl]) rfl ⟨rfl, s1.keep G5 BZ1 (by omega) (by decide), grown_then G1 G5 (Nat.le_refl _)⟩
  · rw [if_neg (by decide), if_neg (by decide)] at hX
    have C1 := Lib.hid (lenS_any (m := 65536) h0 (by omega) (by omega))
    have hle := lenS_le (m := 65536) S (by omega) h.ok
    generalize lenS 65536 S = Q at *
    obtain ⟨a, S1⟩ := Q
    dsimp only at *
    obtain ⟨Q2, hQ2⟩ : ∃ Q, Q = takeS (a : Int) S1 := ⟨_, rfl⟩
    rw [← hQ2] at hX
    have HQ2 := Lib.hid hQ2
    have HX := Lib.hid hX
    clear hX h h0 ha hQ2
    go_enter Tryz.func88, Tryz.ntmps88
    go_wp2_with fail
    refine C1.out.mono ?_
    rintro e w1 ⟨rfl, s1, g1⟩
    have hz1 := g1.size
    simp only [World.size_alloc] at hz1
    have BZ1 := BZ.grown g1 (by intro e; injection e with e; omega)
    have G1 := G0.trans g1
    have C2 := takeS_any (n := (a : Int)) s1 (by omega) (by omega)
    rw [← HQ2.out] at C2
    have C2 := Lib.hid C2
    clear C1 BZ G0 g1 s1
    go_wp2_with fail
    refine C2.out.mono ?_
    rintro e w2 ⟨A2, n2, c2, rfl, e2, k2, s2, g2⟩
    have hz2 := g2.size
    have BZ2 := BZ1.grown g2 (by intro e; injection e with e; omega)
    have G2 := G1.trans g2
    have q2 := run_strB (c := c2) k2.reads
    obtain ⟨x2, S2⟩ := Q2
    dsimp only at e2 k2 s2 q2
    subst e2
    clear C2 BZ1 G1 g2 HQ2
    go_wp2_with (refine wpList_storeG rfl 35 (.tmp 4) (.tmp 31) rfl w.heap.size _ rfl rfl BZ2 (by kernel_rfl) (by simp [cellV]) (by simp [Value.oneCell']) ?_
                 intro W5 BR G5
                 obtain ⟨s0, s1', s2', s3, s4⟩ := cells5 BR)
    have hX := HX.out
    subst hX
    exact bodyPost_ret (v := cellA (false, 0, x2, 0, 0)) (by simp [results, Tryz.results88, go_sem, s0, s1', s2', s3, s4, cellA, cellV]) rfl ⟨rfl, s2.keep G5 BZ2 (by omega) (by decide), grown_then G2 G5 (Nat.le_refl _)⟩
  · rw [if_neg (by decide), if_pos rfl] at hX
    have C1 := Lib.hid (getS_any h0)
    have hlt1 := getS_lt h.ok
    have hok1 := getS_ok h.ok
    generalize getS S = Q at *
    obtain ⟨a, S1⟩ := Q
    dsimp only at *
    have hlt2 := getS_lt hok1
    obtain ⟨Q2, hQ2⟩ : ∃ Q, Q = getS S1 := ⟨_, rfl⟩
    rw [← hQ2] at hX hlt2
    have HQ2 := Lib.hid hQ2
    have Z1 := Lib.hid (fun (W : World) => zag_any a W hlt1)
    have Z2 := Lib.hid (fun (W : World) => zag_any Q2.1 W hlt2)
    have HX := Lib.hid hX
    clear hX h h0 ha hQ2
    go_enter Tryz.func88, Tryz.ntmps88
    go_wp2_with fail
    refine C1.out.mono ?_
    rintro e w1 ⟨rfl, s1, g1⟩
    have hz1 := g1.size
    simp only [World.size_alloc] at hz1
    have BZ1 := BZ.grown g1 (by intro e; injection e with e; omega)
    have G1 := G0.trans g1
    have C2 := getS_any s1
    rw [← HQ2.out] at C2
    have C2 := Lib.hid C2
    clear C1 BZ G0 g1 s1
    go_wp2_with fail
    refine (Z1.out _).mono ?_
    rintro e w2 ⟨rfl, rfl⟩
    go_wp2_with fail
    refine C2.out.mono ?_
    rintro e w2 ⟨rfl, s2, g2⟩
    have hz2 := g2.size
    have BZ2 := BZ1.grown g2 (by intro e; injection e with e; omega)
    have G2 := G1.trans g2
    clear C2 BZ1 G1 g2 HQ2
    go_wp2_with fail
    refine (Z2.out _).mono ?_
    rintro e w3 ⟨rfl, rfl⟩
    go_wp2_with (refine wpList_storeG rfl 35 (.tmp 4) (.tmp 25) rfl w.heap.size _ rfl rfl BZ2 (by kernel_rfl) (by simp [cellV]) (by simp [Value.oneCell']) ?_
                 intro W5 BR G5
                 obtain ⟨s0, s1', s2', s3, s4⟩ := cells5 BR)
    have hX := HX.out
    subst hX
    exact bodyPost_ret (v := cellA (false, 0, [], zag a, zag Q2.1)) (by simp [results, Tryz.results88, go_sem, s0, s1', s2', s3, s4, cellA, cellV, show bstr [] = ⟨#[]⟩ from rfl]) rfl ⟨rfl, s2.keep G5 BZ2 (by omega) (by decide), grown_then G2 G5 (Nat.le_refl _)⟩

end Go.Proofs.YtflaaahcoglflaaGreat
/- The contract of plain.Decode, of the types that are read cell by cell. -/

namespace Go.Hm
open Go Go.RowKit
/-- What b is decoded to. -/
structure IsPl (Q : CellS → Prop) (t : Int) (b : List Nat) (n : Int) (o : Option (List CellS)) : Prop where
  sound : ∀ l, o = some l → (l.length : Int) = n ∧ plO t l = some b ∧ ∀ c ∈ l, Q c
  compl : ∀ l, (∀ c ∈ l, Q c) → (l.length : Int) = n → plO t l = some b → o = some l
theorem row_own {w : World} {base sz n : Nat} {e : TypeId} {v : Value} {xs : List Value} {g : Nat} (h : w.ownsRow base e sz v n xs) (hv : v.ownBlock = some g) : ∃ cs, Blk w g e cs := by
  rcases h.2 with ⟨rfl, _⟩ | ⟨g', cap, cur, rfl, _, hh, _⟩
  · simp [Value.ownBlock] at hv
  · have : g' = g := by simpa [Value.ownBlock] using hv
    subst this
    exact ⟨_, hh⟩
theorem plO_iff {t : Int} {l : List CellS} {b : List Nat} : plO t l = some b ↔ plOk t l = true ∧ plB t l = b := by
  unfold plO
  by_cases h : plOk t l = true
  · rw [if_pos h]
    simp [h]
  · rw [if_neg h]
    simp [h]
theorem plB_flat {t : Int} (ht : t = 0 ∨ t = 2 ∨ t = 3) (l : List CellS) : plB t l = l.flatMap (plE t) := by
  unfold plB
  rw [if_neg (by omega)]

end Go.Hm

namespace Go.Proofs.YtflaaahcoglflaaGreat
open Go.RowKit Go.Hm
theorem CurS.pushRow {w w' : World} {g base sz n : Nat} {S : St} {e : TypeId} {v : Value} {xs : List Value} (h : CurS w g S) (o : w.ownsRow base e sz v n xs) (hg : w.grownBy w' v.ownBlock) (he1 : e ≠ 76) (he2 : 5 ≠ e) : CurS w' g S := by
  cases hv : v.ownBlock with
  | none =>
    rw [hv] at hg
    exact h.below ((Turns.of_none (T := []) hg).new (by simp))
  | some g' =>
    obtain ⟨cs, hB⟩ := row_own o hv
    rw [hv] at hg
    obtain ⟨cs2, hC⟩ := h.blk
    exact h.keep hg hB (fun e' => by subst e'; exact Blk.ne_ hB hC he1 rfl) he2
theorem elC9 : ElT Tryz.prog 95 35 (.agg #[.bool false, .int .i64 0, .string ⟨#[]⟩, .int .i64 0, .int .i64 0]) 5 48 := ⟨by kernel_rfl, by kernel_rfl, rfl, by omega⟩
/-- Cells, or none. -/
def OptC (o : Option (List CellS)) (w : World) (e : Ending) (w' : World) : Prop :=
  match o with
  | none => e = .returned (.tuple #[.slice none 0 0, .bool false]) ∧ New w w'
  | some l => ∃ A n c, e = .returned (.tuple #[.slice A n c, .bool true]) ∧ w'.ownsRow w.heap.size 35 5 (.slice A n c) n (recs cellV l) ∧ New w w'
def PDec (t : Int) (b : List Nat) (n : Int) (w : World) (e : Ending) (w' : World) : Prop := ∃ o, IsPl cellData t b n o ∧ OptC o w e w'
theorem rd_data {t : Int} {s : List Nat} (hs : St.ok (some s)) : cellData (rdC t (some s)).1 := by
  unfold rdC cellData
  split
  · have h := u64S_lt hs
    dsimp only
    refine ⟨⟨by simp, by simp⟩, ?_⟩
    unfold i64Z
    split <;> omega
  · split
    · dsimp only
      exact ⟨⟨by simp, by simp⟩, by omega⟩
    · dsimp only
      have h1 := lenS_le (m := 65536) (some s) (by omega) hs
      have h2 := takeS_len (n := ((lenS 65536 (some s)).1 : Int)) (S := (lenS 65536 (some s)).2) (by omega)
      exact ⟨⟨by omega, (takeS_ok (lenS_ok hs)).2⟩, by omega⟩
theorem rdL_none (t : Int) (j : Nat) : rdL t j none = ([], none) := by cases j <;> rfl
theorem isPl_fin {t : Int} {b : List Nat} {n : Nat} {out : List CellS} {S : St} (ht : t = 0 ∨ t = 2 ∨ t = 3) (hn : n ≤ 65536) (h8 : St.ok (some b)) (hfin : rdL t n (some b) = (out, S)) (hda : ∀ c ∈ out, cellData c) :
    IsPl cellData t b (n : Int) (if S = some [] ∧ (out.all fun c => rightB c t false) = true then some out else none) := by
  constructor
  · intro l hl
    split at hl
    · rename_i hc
      injection hl with hl
      subst hl
      obtain ⟨rfl, hR⟩ := hc
      obtain ⟨e, hlen⟩ := rdL_some ht n (some b) out [] h8 hfin
      injection e with e
      rw [List.append_nil] at e
      refine ⟨by omega, plO_iff.2 ⟨plOk_iff.2 ⟨by omega, List.all_eq_true.1 hR⟩, ?_⟩, hda⟩
      rw [plB_flat ht, e]
    · cases hl
  · intro l hd hlen hp
    obtain ⟨hok, hb⟩ := plO_iff.1 hp
    rw [plB_flat ht] at hb
    have hr := (plOk_iff.1 hok).2
    have := rdL_app (t := t) (by omega) l [] hr (fun c hc => (hd c hc).2)
    rw [List.append_nil, hb, show l.length = n by omega, hfin] at this
    injection this with e1 e2
    subst e1 e2
    rw [if_pos ⟨rfl, List.all_eq_true.2 hr⟩]
set_option maxHeartbeats 4000000 in
set_option maxRecDepth 100000 in
theorem pdecode_any {w : World} {A : Option Addr} {c m : Nat} {b : List Nat} {t : Int} {n : Nat} (h : Reads w w.heap.size 1 A m (nums .u8 b)) (h8 : ∀ x ∈ b, x < 256) (hm : m ≤ 140737488351232) (ht : t = 0 ∨ t = 2 ∨ t = 3) (hn : n ≤ 65536) :
    Calls Tryz.prog 73 #[.int .i64 t, .slice A m c, .int .i64 (n : Int)] w (PDec t b (n : Int) w) := by
  obtain rfl : m = b.length := h.len
  have KN := known_any (w := w) (t := t) (n := (n : Int))
  rw [decide_eq_true (show 0 ≤ t ∧ t ≤ 3 ∧ 0 ≤ (n : Int) ∧ (n : Int) ≤ 65536 by omega)] at KN
  have KN := Lib.hid KN
  have OV := Lib.hid (over_any (c := c) h (by omega) h8)
  have t1 : (t == 1) = false := beq_eq_false_iff_ne.2 (by omega)
  have H8 := Lib.hid h8
  have HT := Lib.hid ht
  clear h h8
  go_enter Tryz.func73, Tryz.ntmps73
  go_wp2_with fail
  refine KN.out.mono ?_
  rintro e w1 ⟨rfl, rfl⟩
  go_wp2_with fail
  refine OV.out.mono ?_
  rintro e w1 ⟨g, rfl, hg, hc, b1⟩
  have s1 := CurS.of hc
  clear hc KN OV t1
  go_wp2_with fail
  go_loopw [9, 10] (fun v i wr => ∃ (k : Nat) (out : List CellS) (S : St) (AA : Option Addr) (cc : Nat), k ≤ n ∧ out.length = k ∧ i = .int .i64 (k : Int) ∧ v = .slice AA k cc ∧ wr.ownsRow w.heap.size 35 5 (.slice AA k cc) k (recs cellV out) ∧ CurS wr g S ∧ Below w.heap.size w wr ∧ Hid (rdL t n (some b) = (out ++ (rdL t (n - k) S).1, (rdL t (n - k) S).2)) ∧ Hid (∀ c ∈ out, cellData c)) (fun _ i _ => n - (intOf i).toNat)
  case atStart => exact ⟨0, [], some b, none, 0, Nat.zero_le _, rfl, rfl, rfl, by simpa [recs] using row_nil, s1, b1, Lib.hid (by simp), Lib.hid (by simp)⟩
  case round =>
    obtain ⟨k, out, S, AA, cc, hk, hol, rfl, rfl, o, hs, hbl, hrd, hda⟩ := hrel
    have hz := hbl.size
    have hb8 : St.ok (some b) := St.ok_some H8.out
    by_cases hgo : k < n ∧ S ≠ none
    · obtain ⟨hlt, hSn⟩ := hgo
      obtain ⟨s, rfl⟩ := Option.ne_none_iff_exists'.1 hSn
      have hok := hs.ok
      have BD := Lib.hid (badS hs)
      rw [Option.isNone_some] at BD
      have RD := Lib.hid (read_any hs HT.out)
      have hdat := rd_data (t := t) hok
      have hst := hrd.out
      rw [show n - k = (n - (k + 1)) + 1 by omega, rdL] at hst
      dsimp only at hst
      obtain ⟨cs, hT⟩ := hs.blk
      have o' := o
      generalize rdC t (some s) = R at *
      obtain ⟨⟨y0, y1, y2, y3, y4⟩, S2⟩ := R
      dsimp only at *
      have HST := Lib.hid hst
      have HDT := Lib.hid hdat
      have HOL := Lib.hid hol
      have hlt' : (k : Int) < (n : Int) := by omega
      clear hst hdat hrd hSn hs hok hol
      go_wp2_with fail
      refine BD.out.mono ?_
      rintro e w2 ⟨rfl, rfl⟩
      go_wp2_with fail
      refine RD.out.mono ?_
      rintro e w3 ⟨rfl, s3, g3⟩
      rw [show cellA (y0, y1, y2, y3, y4) = .agg #[.bool y0, .int .i64 y1, .string (bstr y2), .int .i64 y3, .int .i64 y4] from rfl]
      have o3 := World.ownsRow.kept o' g3 (.inr (row_blk_ne o' hT (by decide)))
      have b3 : Below w.heap.size w w3 := hbl.grown g3 hz (fun k e => by injection e with e; omega)
      have hz3 := b3.size
      have S3 := Lib.hid s3
      clear BD RD o o' g3 hbl s3 hT
      go_wp2_with (refine wpList_pushR elC9 rfl (.tmp 34) (.tmp 38) rfl (W := w) (B := w.heap.size) (base := w.heap.size) (n := k) o3 rfl rfl b3 (Nat.le_refl _) hz3 rfl (by simp [Value.oneCell']) (by omega) (by simp only [maxLen]; omega) ?_
                   intro A5 c5 w5 _ _ o5 g5 b5 _ _)
      have s5 := S3.out.pushRow o3 g5 (by decide) (by decide)
      go_roundw
      case rel => exact ⟨k + 1, out ++ [(y0, y1, y2, y3, y4)], S2, A5, c5, by omega, by rw [List.length_append, HOL.out]; rfl, by go_num, rfl, by rw [recs_append]; simpa [recs, cellV] using o5, s5, b5, Lib.hid (by rw [HST.out, List.append_assoc]; rfl), Lib.hid (fun c hc => by
          rcases List.mem_append.1 hc with hc | hc
          · exact hda.out c hc
          · rw [List.mem_singleton.1 hc]; exact HDT.out)⟩
      case measure => simp [intOf]; omega
    · have hfin : rdL t n (some b) = (out, S) := by
        rw [hrd.out]
        by_cases hkn : k < n
        · have : S = none := Classical.byContradiction fun e => hgo ⟨hkn, e⟩
          subst this
          rw [rdL_none, List.append_nil]
        · rw [show n - k = 0 by omega]
          simp [rdL]
      have hI := isPl_fin HT.out hn hb8 hfin hda.out
      have EN := Lib.hid (endS_any hs)
      have AR := Lib.hid (allright_any (t := t) (c := cc) (Reads.of_own o) (fun y hy => (hda.out y hy).1.1) (by omega))
      have BD := Lib.hid (badS hs)
      have HI := Lib.hid hI
      clear hI hfin hrd hs
      by_cases hS : S = some []
      · subst hS
        have hkn : ¬ k < n := fun e => hgo ⟨e, by simp⟩
        obtain rfl : k = n := by omega
        rw [show endS (some []) = true from rfl] at EN
        clear BD hgo
        go_wp2_with fail
        refine EN.out.mono ?_
        rintro e w2 ⟨rfl, rfl⟩
        go_wp2_with fail
        refine AR.out.mono ?_
        rintro e w3 ⟨rfl, b3⟩
        have hI := HI.out
        have o3 := row_later o b3
        have hl := New.trans hbl b3
        cases hall : (out.all fun c => rightB c t false) with
        | true =>
          rw [if_pos ⟨by trivial, hall⟩] at hI
          have HI := Lib.hid hI
          clear hI EN AR
          go_wp2_with fail
          go_ret2
          exact ⟨some out, HI.out, _, _, _, rfl, o3, hl⟩
        | false =>
          rw [if_neg (by rw [hall]; simp)] at hI
          have HI := Lib.hid hI
          clear hI EN AR
          go_wp2_with fail
          go_ret2
          exact ⟨none, HI.out, rfl, hl⟩
      · have hI := HI.out
        rw [if_neg (fun e => hS e.1)] at hI
        have HI := Lib.hid hI
        rw [show endS S = false from decide_eq_false hS] at EN
        clear hI AR hS
        by_cases hkn : k < n
        · have : S = none := Classical.byContradiction fun e => hgo ⟨hkn, e⟩
          subst this
          rw [show (Option.isNone (none : St)) = true from rfl] at BD
          have hkn' : (k : Int) < (n : Int) := by omega
          clear hgo
          go_wp2_with fail
          refine BD.out.mono ?_
          rintro e w2 ⟨rfl, rfl⟩
          go_wp2_with fail
          refine EN.out.mono ?_
          rintro e w2 ⟨rfl, rfl⟩
          go_wp2_with fail
          go_ret2
          exact ⟨none, HI.out, rfl, hbl⟩
        · obtain rfl : k = n := by omega
          clear hgo BD
          go_wp2_with fail
          refine EN.out.mono ?_
          rintro e w2 ⟨rfl, rfl⟩
          go_wp2_with fail
          go_ret2
          exact ⟨none, HI.out, rfl, hbl⟩

end Go.Proofs.YtflaaahcoglflaaGreat
/- Cells of type 1 as bits: which decoding answers. Plain lists. -/

namespace Go.Hm
open Go Go.RowKit
def bitC (x : Nat) : CellS := (false, (x : Int), [], 0, 0)
theorem bits_bitC {l : List Nat} (h : ∀ x ∈ l, x < 2) : bitsP (l.map bitC) = l := by
  unfold bitsP
  rw [List.map_map]
  conv => rhs; rw [← List.map_id l]
  refine List.map_congr_left fun x hx => ?_
  have := h x hx
  show u64N (x : Int) = x
  unfold u64N
  omega
theorem bitC_bits {l : List CellS} (h : ∀ c ∈ l, rightB c 1 false = true) : (bitsP l).map bitC = l := by
  unfold bitsP
  rw [List.map_map]
  conv => rhs; rw [← List.map_id l]
  refine List.map_congr_left fun c hc => ?_
  have hr := h c hc
  have h0 := right0 hr
  have h1 := right1 hr
  obtain ⟨y0, y1, y2, y3, y4⟩ := c
  dsimp only at h0 h1
  subst h0
  have e : (y2 = [] ∧ y3 = 0 ∧ y4 = 0) ∧ (y1 = 0 ∨ y1 = 1) := by simpa [rightB] using hr
  obtain ⟨⟨rfl, rfl, rfl⟩, -⟩ := e
  show bitC (u64N y1) = (false, y1, [], 0, 0)
  unfold bitC u64N
  rcases h1 with rfl | rfl <;> rfl
theorem right_bitC {x : Nat} (h : x < 2) : rightB (bitC x) 1 false = true := by
  have : x = 0 ∨ x = 1 := by omega
  rcases this with rfl | rfl <;> simp [rightB, bitC]

end Go.Hm

namespace Go.Proofs.YtflaaahcoglflaaGreat
open Go.RowKit Go.Hm
theorem isPl_bits {b : List Nat} {n : Int} (h8 : ∀ x ∈ b, x < 256) : IsPl cellData 1 b n ((unpackO b 1 n).map fun l => l.map bitC) := by
  constructor
  · intro l hl
    cases hu : unpackO b 1 n with
    | none => rw [hu] at hl; cases hl
    | some k =>
      rw [hu] at hl
      injection hl with hl
      subst hl
      obtain ⟨hp, hlen, hw, hk, hf⟩ := pack_unpack h8 hu
      have h2 : ∀ x ∈ k, x < 2 := by
        have := (wid_iff k 1 (by omega) hk).1 (by omega)
        simpa using this
      have hR : ∀ c ∈ k.map bitC, rightB c 1 false = true := fun c hc => by
        obtain ⟨x, hx, rfl⟩ := List.mem_map.1 hc
        exact right_bitC (h2 x hx)
      have hpb := pack_plB hR (by rw [List.length_map]; exact hf)
      rw [bits_bitC h2, hp] at hpb
      injection hpb with hpb
      refine ⟨by rw [List.length_map]; exact hlen, plO_iff.2 ⟨plOk_iff.2 ⟨⟨by omega, by omega, by rw [List.length_map]; exact hf⟩, hR⟩, hpb.symm⟩, fun c hc => ?_⟩
      obtain ⟨x, hx, rfl⟩ := List.mem_map.1 hc
      have := h2 x hx
      unfold cellData bitC
      exact ⟨⟨by simp, by simp⟩, by dsimp only; omega⟩
  · intro l _ hlen hp
    obtain ⟨hok, hb⟩ := plO_iff.1 hp
    obtain ⟨⟨_, _, hf⟩, hR⟩ := plOk_iff.1 hok
    have hbl : (bitsP l).length = l.length := by unfold bitsP; rw [List.length_map]
    have hu := unpack_pack (bitsP l) 1 (by omega) (by omega) (bitsP_wid hR) (fun x hx => by unfold bitsP at hx; obtain ⟨y, _, rfl⟩ := List.mem_map.1 hx; have := u64N_lt y.2.1; omega)
    have e : low (pk 1 (bitsP l)) ((1 * (bitsP l).length + 7) / 8) = b := by
      rw [← hb]
      unfold plB
      rw [if_pos rfl, hbl]
    rw [e, hbl, hlen] at hu
    have hu : unpackO b 1 n = some (bitsP l) := hu
    rw [hu]
    show some ((bitsP l).map bitC) = some l
    rw [bitC_bits hR]

end Go.Proofs.YtflaaahcoglflaaGreat
/- The contracts of plain.unpackBools and of plain.Decode, of every type. -/

namespace Go.Hm
open Go Go.RowKit
theorem madeCells5 (a b c d f : Value) (n : Nat) : (madeCells #[a, b, c, d, f] (n * 5)).toList = (List.replicate n [a, b, c, d, f]).flatten := by
  induction n with
  | zero => simp [madeCells]
  | succ n ih =>
    rw [List.replicate_succ', List.flatten_append, ← ih]
    have e : ∀ m, m % 5 = 0 → (madeCells #[a, b, c, d, f] (m + 5)).toList = (madeCells #[a, b, c, d, f] m).toList ++ [a, b, c, d, f] := by
      intro m hm
      simp only [madeCells, Array.toList_map, Array.toList_range, List.range_succ, List.map_append, List.map_cons, List.map_nil, List.append_assoc, List.cons_append, List.nil_append, List.size_toArray, List.length_cons, List.length_nil]
      rw [hm, show (m + 1) % 5 = 1 by omega, show (m + 2) % 5 = 2 by omega, show (m + 3) % 5 = 3 by omega, show (m + 4) % 5 = 4 by omega]
      rfl
    rw [Nat.succ_mul, e (n * 5) (by omega)]
    simp

section
variable {P : Program} {ops : Array Oper} {rest : List Oper} {o : Oper} {a : Act} {Q : Exit → Act → World → Prop}
/-- make of a row of records of five cells. -/
theorem wpList_mkR5 {w : World} {t e : TypeId} {x y z u v : Value} {bytes : Nat} (E : ElT P t e (.agg #[x, y, z, u, v]) 5 bytes) (hgd : o.guard = none) (lo co : Operand) (ho : o.op = Op.makeSlice t lo co)
    {W : World} {B : Nat} {kl kc : IntKind} {L C : Int} (n : Nat) (hl : a.eval lo = .int kl L) (hc : a.eval co = .int kc C) (hL : L = (n : Int)) (hC : C = (n : Int)) (hb : Below B W w) (hbase : B ≤ w.heap.size)
    (hn : n * bytes ≤ 140737488355328) (hm : n ≤ maxLen)
    (h : ∀ w', w'.ownsRow w.heap.size e 5 (.slice (some ⟨w.heap.size, 0, none⟩) n n) n (List.replicate n [x, y, z, u, v]).flatten → w.grownBy w' none → Below B W w' → w'.heap.size = w.heap.size + 1 → wpList P ops Q rest (a.put o.dst (.slice (some ⟨w.heap.size, 0, none⟩) n n)) w') :
    wpList P ops Q (o :: rest) a w := by
  obtain ⟨i, hi, hz0, hs1, hb1⟩ := info_parts E.hi
  subst hL hC
  have hmC : (n : Int) ≤ 9223372036854775807 := by have h := hm; simp only [maxLen] at h; omega
  have hbC : (i.bytes : Int) * (n : Int) ≤ 281474976710656 := by
    have h : ((i.bytes * n : Nat) : Int) ≤ 281474976710656 := by rw [hb1, Nat.mul_comm]; omega
    rwa [Int.natCast_mul] at h
  have hrun := run_make (P := P) w t e i (.agg #[x, y, z, u, v]) E.ht hi hz0 kl kc (n : Int) (n : Int) (by omega) (by omega) hbC hmC
  rw [Int.toNat_natCast, hs1] at hrun
  refine wpList_plain hgd fun K hK => ?_
  unfold Oper.wp
  simp [execOp, ho, hl, hc, hrun, Result.andThen]
  refine hK _ _ (h _ ?_ (World.grownBy_alloc _ _ _) (hb.alloc hbase _) (by simp))
  refine ⟨by simp, .inr ⟨_, n, _, rfl, Nat.le_refl _, heap_alloc_new w _, Nat.le_refl _, hm, by simp [size_madeCells], ?_⟩⟩
  rw [List.take_of_length_le (by simp [size_madeCells])]
  exact madeCells5 x y z u v n
end
theorem recs_set {A B : List CellS} {z : Nat} : (recs cellV (A ++ cell0 :: B)).set (A.length * 5 + 1) (.int .i64 (z : Int)) = recs cellV (A ++ bitC z :: B) := by
  have l : (recs cellV A).length = A.length * 5 := recs_length (sz := 5) (fun _ => rfl) A
  rw [recs_append, recs_append, List.set_append_right _ _ (by omega), l, show A.length * 5 + 1 - A.length * 5 = 1 by omega]
  congr 1
theorem recs_rep0 (n : Nat) : (List.replicate n [Value.bool false, .int .i64 0, .string ⟨#[]⟩, .int .i64 0, .int .i64 0]).flatten = recs cellV (List.replicate n cell0) := by
  induction n with
  | zero => rfl
  | succ n ih =>
    rw [List.replicate_succ, List.flatten_cons, ih, List.replicate_succ]
    rfl

end Go.Hm

namespace Go.Proofs.YtflaaahcoglflaaGreat
open Go.RowKit Go.Hm
set_option maxHeartbeats 2000000 in
set_option maxRecDepth 100000 in
theorem unpackBools_any {w : World} {A : Option Addr} {c m : Nat} {b : List Nat} {n : Nat} (h : Reads w w.heap.size 1 A m (nums .u8 b)) (h8 : ∀ x ∈ b, x < 256) (hm : m ≤ 140737488351232) (hn : n ≤ 65536) :
    Calls Tryz.prog 87 #[.slice A m c, .int .i64 (n : Int)] w (OptC ((unpackO b 1 (n : Int)).map fun l => l.map bitC) w) := by
  obtain rfl : m = b.length := h.len
  have U := Lib.hid (unpack_any (c := c) 1 (n : Int) h h8 (by omega) (by omega) (by omega) (by omega) (by omega))
  have hpu := fun l => pack_unpack (l := l) (x := 1) (n := (n : Int)) h8
  clear h h8
  generalize unpackO b 1 (n : Int) = O at *
  cases O with
  | none =>
    go_enter Tryz.func87, Tryz.ntmps87
    go_wp2_with fail
    refine U.out.mono ?_
    rintro e w1 ⟨rfl, b1⟩
    go_wp2_with fail
    go_ret2
    exact ⟨rfl, b1⟩
  | some l =>
    obtain ⟨-, hlen, hw, hk, hf⟩ := hpu l rfl
    have h2 : ∀ x ∈ l, x < 2 := by
      have := (wid_iff l 1 (by omega) hk).1 (by omega)
      simpa using this
    obtain rfl : n = l.length := by omega
    have H2 := Lib.hid h2
    clear hpu hlen hw hk h2
    go_enter Tryz.func87, Tryz.ntmps87
    go_wp2_with fail
    refine U.out.mono ?_
    rintro e w1 ⟨A1, n1, c1, rfl, k1, b1⟩
    obtain rfl : n1 = l.length := by have := k1.len; rwa [nums_length] at this
    have hz1 := b1.size
    have R1 := Lib.hid k1.reads
    clear U k1
    go_wp2_with (refine wpList_mkR5 elC9 rfl (.tmp 19) (.tmp 19) rfl (W := w) (B := w.heap.size) l.length rfl rfl rfl rfl b1 hz1 (by omega) (by simp only [maxLen]; omega) ?_
                 intro w2 o2 g2 b2 hs2)
    rw [recs_rep0] at o2
    have b12 : New w1 w2 := (Turns.of_none (T := []) g2).new (by simp)
    go_loopw [23] (fun i wr => ∃ k : Nat, k ≤ l.length ∧ i = .int .i64 (k : Int) ∧ wr.ownsRow w1.heap.size 35 5 (.slice (some ⟨w1.heap.size, 0, none⟩) l.length l.length) l.length (recs cellV ((l.take k).map bitC ++ List.replicate (l.length - k) cell0)) ∧ New w1 wr) (fun i _ => l.length - (intOf i).toNat)
    case atStart => exact ⟨0, Nat.zero_le _, rfl, by simpa using o2, b12⟩
    case round =>
      obtain ⟨k, hk, rfl, o, hb⟩ := hrel
      clear o2 g2 b2 b12 hs2
      by_cases hlt : k < l.length
      · obtain ⟨ax, rfl, hbx, qx⟩ := (Reads.later R1.out hb).num (i := k) hlt
        have hx2 := H2.out (l.getD k 0) (by rw [List.getD_eq_getElem?_getD, List.getElem?_eq_getElem hlt]; exact List.getElem_mem hlt)
        have htk := take_snoc l k 0 hlt
        generalize l.getD k 0 = x at *
        have hwr : IntKind.i64.wrap (x : Int) = (x : Int) := IntWalk.i64_in _ (by omega)
        obtain ⟨ad, ea, _, -, d1, -⟩ := (Reads.of_own o).cell5 (i := k) hlt
        injection ea with ea
        subst ea
        obtain ⟨cs, BR⟩ := row_blk o
        have f1 := BR.frozen (k * 5 + 1)
        have ead : (⟨w1.heap.size, 0, none⟩ : Addr).add (k * 5) = ⟨w1.heap.size, k * 5, none⟩ := by
          unfold Addr.add
          split <;> simp_all
        rw [ead] at d1
        dsimp only at d1
        have hA : ((l.take k).map bitC).length = k := by rw [List.length_map, List.length_take]; omega
        obtain ⟨o', -⟩ := World.ownsRow.stored o (k * 5 + 1) (.int .i64 (x : Int))
        have ers := recs_set (A := (l.take k).map bitC) (B := List.replicate (l.length - (k + 1)) cell0) (z := x)
        rw [hA] at ers
        rw [show l.length - k = (l.length - (k + 1)) + 1 by omega, List.replicate_succ, ers] at o'
        have o' : (wr.setCell ⟨w1.heap.size, k * 5 + 1, none⟩ (.int .i64 (x : Int))).ownsRow w1.heap.size 35 5 (.slice (some ⟨w1.heap.size, 0, none⟩) l.length l.length) l.length (recs cellV ((l.take (k + 1)).map bitC ++ List.replicate (l.length - (k + 1)) cell0)) := by
          rw [htk, List.map_append, List.append_assoc]
          exact o'
        have O' := Lib.hid o'
        have HB := Lib.hid (hb.setCell (p := ⟨w1.heap.size, k * 5 + 1, none⟩) (Nat.le_refl _) (.int .i64 (x : Int)))
        clear o' ers o htk hA BR
        go_wp2_with fail
        go_roundw
        case rel => exact ⟨k + 1, by omega, by go_num, O'.out, HB.out⟩
        case measure => simp [intOf]; omega
      · obtain rfl : k = l.length := by omega
        rw [Nat.sub_self, List.replicate_zero, List.append_nil, List.take_length] at o
        go_wp2_with fail
        go_ret2
        exact ⟨_, _, _, rfl, row_base o hz1, New.trans b1 hb⟩

end Go.Proofs.YtflaaahcoglflaaGreat
/- The contract of plain.Decode, of every type. -/

namespace Go.Proofs.YtflaaahcoglflaaGreat
open Go.RowKit Go.Hm
theorem isPl_no {t : Int} {b : List Nat} {n : Int} (h : ¬ (0 ≤ t ∧ t ≤ 3 ∧ 0 ≤ n ∧ n ≤ 65536)) : IsPl cellData t b n none :=
  ⟨fun l e => (by cases e), fun l _ hl hp => by
    have := (plOk_iff.1 (plO_iff.1 hp).1).1
    omega⟩
set_option maxHeartbeats 400000 in
set_option maxRecDepth 100000 in
theorem pdecode_all {w : World} {A : Option Addr} {c m : Nat} {b : List Nat} {t n : Int} (h : Reads w w.heap.size 1 A m (nums .u8 b)) (h8 : ∀ x ∈ b, x < 256) (hm : m ≤ 140737488351232) :
    Calls Tryz.prog 73 #[.int .i64 t, .slice A m c, .int .i64 n] w (PDec t b n w) := by
  by_cases hk : 0 ≤ t ∧ t ≤ 3 ∧ 0 ≤ n ∧ n ≤ 65536
  · obtain ⟨n, rfl⟩ := Int.eq_ofNat_of_zero_le hk.2.2.1
    by_cases h1 : t = 1
    · subst h1
      have KN := known_any (w := w) (t := 1) (n := (n : Int))
      rw [decide_eq_true hk] at KN
      have KN := Lib.hid KN
      have U := Lib.hid (unpackBools_any (c := c) (n := n) h h8 hm (by omega))
      have HI := Lib.hid (isPl_bits (n := (n : Int)) h8)
      clear h h8 hk
      generalize (unpackO b 1 (n : Int)).map (fun l => l.map bitC) = O at *
      go_enter Tryz.func73, Tryz.ntmps73
      go_wp2_with fail
      refine KN.out.mono ?_
      rintro e w1 ⟨rfl, rfl⟩
      go_wp2_with fail
      refine U.out.mono ?_
      intro e w2 h2
      cases O with
      | none =>
        obtain ⟨rfl, b2⟩ := h2
        go_wp2_with fail
        go_ret2
        exact ⟨none, HI.out, rfl, b2⟩
      | some l =>
        obtain ⟨A2, n2, c2, rfl, o2, b2⟩ := h2
        go_wp2_with fail
        go_ret2
        exact ⟨some l, HI.out, _, _, _, rfl, o2, b2⟩
    · exact pdecode_any h h8 hm (by omega) (by omega)
  · have KN := known_any (w := w) (t := t) (n := n)
    rw [decide_eq_false hk] at KN
    have KN := Lib.hid KN
    have HI := Lib.hid (isPl_no (b := b) hk)
    clear h h8 hk
    go_enter Tryz.func73, Tryz.ntmps73
    go_wp2_with fail
    refine KN.out.mono ?_
    rintro e w1 ⟨rfl, rfl⟩
    go_wp2_with fail
    go_ret2
    exact ⟨none, HI.out, rfl, New.refl _⟩

end Go.Proofs.YtflaaahcoglflaaGreat
/- What two ends are read as, as a plain function; the contract of stat.getEnds. -/

namespace Go.Proofs.YtflaaahcoglflaaGreat
open Go.RowKit Go.Hm
open Classical in
/-- What b is decoded to, of n cells. -/
noncomputable def plD (t : Int) (b : List Nat) (n : Int) : Option (List CellS) :=
  if h : ∃ l : List CellS, (∀ c ∈ l, cellData c) ∧ (l.length : Int) = n ∧ plO t l = some b then some h.choose else none
theorem isPl_is {t : Int} {b : List Nat} {n : Int} {o : Option (List CellS)} (h : IsPl cellData t b n o) : o = plD t b n := by
  unfold plD
  split
  · rename_i hx
    obtain ⟨h1, h2, h3⟩ := hx.choose_spec
    exact h.compl _ h1 h2 h3
  · rename_i hx
    cases o with
    | none => rfl
    | some l =>
      obtain ⟨h1, h2, h3⟩ := h.sound l rfl
      exact absurd ⟨l, h3, h1, h2⟩ hx
theorem plD_some {t : Int} {b : List Nat} {n : Int} {l : List CellS} (h : plD t b n = some l) : (∀ c ∈ l, cellData c) ∧ (l.length : Int) = n ∧ plO t l = some b := by
  unfold plD at h
  split at h
  · rename_i hx
    injection h with h
    subst h
    exact hx.choose_spec
  · cases h
/-- Two ends are read. -/
noncomputable def endsS (t : Int) (S : St) : (CellS × CellS) × St :=
  match plD t (takeS ((lenS ((S.getD []).length : Int) S).1 : Int) (lenS ((S.getD []).length : Int) S).2).1 2 with
  | some [a, b] => ((a, b), (takeS ((lenS ((S.getD []).length : Int) S).1 : Int) (lenS ((S.getD []).length : Int) S).2).2)
  | _ => ((cell0, cell0), none)
theorem endsS_data (t : Int) (S : St) : cellData (endsS t S).1.1 ∧ cellData (endsS t S).1.2 := by
  have h0 : cellData cell0 := ⟨⟨by simp [cell0], by simp [cell0]⟩, by simp [cell0], by simp [cell0]⟩
  unfold endsS
  split
  · rename_i a b h
    have := (plD_some h).1
    exact ⟨this a (by simp), this b (by simp)⟩
  · exact ⟨h0, h0⟩
theorem row_touch {w w' : World} {T : List Nat} {base sz n : Nat} {e : TypeId} {v : Value} {xs : List Value} (h : w.ownsRow base e sz v n xs) (k : Turns T w w') (hT : ∀ x ∈ T, x < base) : w'.ownsRow base e sz v n xs := by
  refine ⟨h.1, ?_⟩
  rcases h.2 with hn | ⟨g, cap, cur, rfl, hbg, hgg, rest⟩
  · exact .inl hn
  · refine .inr ⟨g, cap, cur, rfl, hbg, ?_, rest⟩
    rw [k.block g (Array.getElem?_eq_some_iff.1 hgg).1 (fun hm => by have := hT g hm; omega)]
    exact hgg
/-- Two cells of a row of two. -/
theorem row2_cells {W : World} {base c : Nat} {e : TypeId} {ad : Addr} {p q : CellS} (h : W.ownsRow base e 5 (.slice (some ad) 2 c) 2 (recs cellV [p, q])) :
    (W.cell? ad = some (.bool p.1) ∧ W.cell? ⟨ad.block, ad.off + 1, none⟩ = some (.int .i64 p.2.1) ∧ W.cell? ⟨ad.block, ad.off + 2, none⟩ = some (.string (bstr p.2.2.1)) ∧ W.cell? ⟨ad.block, ad.off + 3, none⟩ = some (.int .i64 p.2.2.2.1) ∧ W.cell? ⟨ad.block, ad.off + 4, none⟩ = some (.int .i64 p.2.2.2.2))
    ∧ W.cell? ⟨ad.block, ad.off + 5, none⟩ = some (.bool q.1) ∧ W.cell? ⟨ad.block, ad.off + 5 + 1, none⟩ = some (.int .i64 q.2.1) ∧ W.cell? ⟨ad.block, ad.off + 5 + 2, none⟩ = some (.string (bstr q.2.2.1)) ∧ W.cell? ⟨ad.block, ad.off + 5 + 3, none⟩ = some (.int .i64 q.2.2.2.1) ∧ W.cell? ⟨ad.block, ad.off + 5 + 4, none⟩ = some (.int .i64 q.2.2.2.2) := by
  have r := Reads.of_own h
  obtain ⟨a1, e1, _, d⟩ := r.cell5 (i := 0) (by omega)
  obtain ⟨a2, e2, _, d'⟩ := r.cell5 (i := 1) (by omega)
  injection e1 with e1
  injection e2 with e2
  subst e1 e2
  rw [Nat.zero_mul, add_zero'] at d
  exact ⟨d, d'⟩
theorem far_setRow' {w : World} {g : Nat} (cells : Array Value) : w.grownBy (w.setRow g cells) (some g) :=
  ⟨rfl, rfl, rfl, by simp [World.setRow], fun k _ hne => by
    simp [World.setRow, Array.getElem?_modify]
    intro e
    exact absurd (by rw [e]) hne⟩
/-- A whole block is stored, at the operation; no other is turned. -/
theorem wp_storeG {P : Program} {o : Oper} {a : Act} {w : World} {K : Act → World → Prop} {Q : Exit → Act → World → Prop} (ty : TypeId) (x y : Operand) (ho : o.op = .store ty x y)
    (g : Nat) (cells : Array Value) (hx : a.eval x = .pointer (some ⟨g, 0, none⟩)) (hy : a.eval y = .agg cells) {t : TypeId} {old : Array Value} (hB : Blk w g t old) (hi : (P.info? ty).map (·.size) = some cells.size)
    (hold : old.size = cells.size) (h1 : cells.all (·.oneCell') = true)
    (h : ∀ W, Blk W g t cells → w.grownBy W (some g) → K (a.put o.dst undef) W) : o.wp P a w K Q := by
  refine wp_store_row ty x y ho g cells hx hy t old hB hi hold h1 ?_
  refine h _ ?_ (far_setRow' cells)
  unfold Blk at hB ⊢
  simp [World.setRow, Array.getElem?_modify, hB]
def EndsPost (p : CellS × CellS) (g : Nat) (S : St) (w : World) (e : Ending) (w' : World) : Prop := e = .returned (.tuple #[cellA p.1, cellA p.2]) ∧ CurS w' g S ∧ w.grownBy w' (some g)
set_option maxHeartbeats 2000000 in
set_option maxRecDepth 100000 in
theorem ends_any {w : World} {g : Nat} {S : St} {t : Int} (h : CurS w g S) (hl : (S.getD []).length ≤ 140737488351232) :
    Calls Tryz.prog 58 #[.pointer (some ⟨g, 0, none⟩), .int .i64 t] w (EndsPost (endsS t S).1 g (endsS t S).2 w) := by
  obtain ⟨X, hX⟩ : ∃ X, X = endsS t S := ⟨_, rfl⟩
  rw [← hX]
  unfold endsS at hX
  have hle := lenS_le (m := ((S.getD []).length : Int)) S (by omega) h.ok
  have hok1 := lenS_ok (m := ((S.getD []).length : Int)) h.ok
  have hlt := h.lt
  have ha : New w ((w.alloc (.cells #[.bool false, .int .i64 0, .string ⟨#[]⟩, .int .i64 0, .int .i64 0] 35)).alloc (.cells #[.bool false, .int .i64 0, .string ⟨#[]⟩, .int .i64 0, .int .i64 0] 35)) := ((Below.refl _ _).alloc (Nat.le_refl _) _).alloc (by simp) _
  have h0 := h.below ha
  have LF := leftS h0
  unfold LeftPost at LF
  have LF := Lib.hid LF
  have L1 := Lib.hid (lenS_any (m := ((S.getD []).length : Int)) h0 (by omega) (by omega))
  have BA : Blk ((w.alloc (.cells #[.bool false, .int .i64 0, .string ⟨#[]⟩, .int .i64 0, .int .i64 0] 35)).alloc (.cells #[.bool false, .int .i64 0, .string ⟨#[]⟩, .int .i64 0, .int .i64 0] 35)) w.heap.size 35 #[.bool false, .int .i64 0, .string ⟨#[]⟩, .int .i64 0, .int .i64 0] := (Blk.new _ _ _).alloc _
  have BB : Blk ((w.alloc (.cells #[.bool false, .int .i64 0, .string ⟨#[]⟩, .int .i64 0, .int .i64 0] 35)).alloc (.cells #[.bool false, .int .i64 0, .string ⟨#[]⟩, .int .i64 0, .int .i64 0] 35)) (w.heap.size + 1) 35 #[.bool false, .int .i64 0, .string ⟨#[]⟩, .int .i64 0, .int .i64 0] := by
    have := Blk.new (w.alloc (.cells #[.bool false, .int .i64 0, .string ⟨#[]⟩, .int .i64 0, .int .i64 0] 35)) 35 #[.bool false, .int .i64 0, .string ⟨#[]⟩, .int .i64 0, .int .i64 0]
    rwa [World.size_alloc] at this
  generalize hL : (S.getD []).length = L at *
  generalize lenS (L : Int) S = H at *
  obtain ⟨n, S1⟩ := H
  dsimp only at *
  have htl := takeS_len (n := (n : Int)) (S := S1) (by omega)
  have htk := takeS_ok (n := (n : Int)) hok1
  have HX := Lib.hid hX
  have HL := Lib.hid hL
  clear h hX hL
  go_enter Tryz.func58, Tryz.ntmps58
  go_wp2_with fail
  refine LF.out.mono ?_
  rintro e w1' ⟨rfl, rfl⟩
  go_wp2_with fail
  refine L1.out.mono ?_
  rintro e w1 ⟨rfl, s1, g1⟩
  have hz1 := g1.size
  simp only [World.size_alloc] at hz1
  have BA1 := BA.grown g1 (by intro e; injection e with e; omega)
  have BB1 := BB.grown g1 (by intro e; injection e with e; omega)
  have G1 := (Far.of_new ha (g := g)).trans g1
  have T1 := Lib.hid (takeS_any (n := (n : Int)) s1 (by omega) (by omega))
  clear L1 LF h0 BA BB s1 g1 ha
  generalize takeS (n : Int) S1 = Q at *
  obtain ⟨x, S2⟩ := Q
  dsimp only at *
  go_wp2_with fail
  refine T1.out.mono ?_
  rintro e w2 ⟨A2, n2, c2, rfl, rfl, o2, s2, g2⟩
  have hz2 := g2.size
  have BA2 := BA1.grown g2 (by intro e; injection e with e; omega)
  have BB2 := BB1.grown g2 (by intro e; injection e with e; omega)
  have G2 := G1.trans g2
  have PD := Lib.hid (pdecode_all (t := t) (n := 2) (c := c2) o2.reads htk.2 (by omega))
  clear T1 BA1 BB1 G1 g2 o2
  go_wp2_with fail
  refine PD.out.mono ?_
  rintro e w3 ⟨o, ho, h3⟩
  have hX := HX.out
  have ho := isPl_is ho
  rw [← ho] at hX
  cases o with
  | none =>
    obtain ⟨rfl, b3⟩ := h3
    dsimp only at hX
    clear HX
    have HX := Lib.hid hX
    have hz3 := b3.size
    have BA3 := BA2.below b3 BA2.lt
    have BB3 := BB2.below b3 BB2.lt
    have G3 := G2.trans (Far.of_new b3)
    have F := Lib.hid (failS (s2.below b3))
    clear PD BA2 BB2 G2 s2 b3 ho hX
    go_wp2_with fail
    refine F.out.mono ?_
    rintro e w4 ⟨rfl, s4, g4⟩
    have hz4 := g4.size
    have BA4 := BA3.grown g4 (by intro e; injection e with e; omega)
    have BB4 := BB3.grown g4 (by intro e; injection e with e; omega)
    have G4 := Lib.hid (G3.trans g4)
    have HS4 := Lib.hid s4
    clear F BA3 BB3 G3 s4 g4
    go_wp2_with (first
      | (refine wpList_storeG rfl 35 _ (.tmp 25) rfl w.heap.size _ rfl rfl BA4 (by kernel_rfl) rfl (by simp [Value.oneCell']) ?_
         intro W5 BR G5
         have BB5 := BB4.grown G5 (by simp))
      | (refine wpList_storeG rfl 35 _ (.tmp 26) rfl (w.heap.size + 1) _ rfl rfl BB5 (by kernel_rfl) rfl (by simp [Value.oneCell']) ?_
         intro W6 BQ G6
         have BR6 := BR.grown G6 (by simp)
         obtain ⟨x0, x1, x2, x3, x4⟩ := cells5 BR6
         obtain ⟨y0, y1, y2, y3, y4⟩ := cells5 BQ))
    have hX := HX.out
    subst hX
    have hz5 := G5.size
    exact bodyPost_ret (v := .tuple #[cellA cell0, cellA cell0]) (by simp [results, Tryz.results58, go_sem, x0, x1, x2, x3, x4, y0, y1, y2, y3, y4, cellA, cellV, cell0, show bstr [] = ⟨#[]⟩ from rfl]) rfl ⟨rfl, (HS4.out.keep G5 BA4 (by omega) (by decide)).keep G6 BB5 (by omega) (by decide), grown_then (grown_then G4.out G5 (Nat.le_refl _)) G6 (by omega)⟩
  | some l =>
    obtain ⟨A3, n3, c3, rfl, o3, b3⟩ := h3
    obtain ⟨hd, hlen, -⟩ := plD_some ho.symm
    have hl2 : l.length = 2 := by omega
    obtain ⟨p, q, rfl⟩ : ∃ p q, l = [p, q] := by
      match l, hl2 with
      | [p, q], _ => exact ⟨p, q, rfl⟩
    dsimp only at hX
    have r3 := Reads.of_own o3
    obtain rfl : n3 = 2 := by have := r3.lenCell; simpa using this
    obtain ⟨ad, rfl, hb, d0, d1, d2, d3, d4⟩ := r3.cell5 (i := 0) (by omega)
    obtain ⟨ad', e, _, d5, d6, d7, d8, d9⟩ := r3.cell5 (i := 1) (by omega)
    injection e with e
    subst e
    simp only [List.getD_cons_zero, List.getD_cons_succ, Nat.zero_mul, Nat.one_mul] at d0 d1 d2 d3 d4 d5 d6 d7 d8 d9
    obtain ⟨p0, p1, p2, p3, p4⟩ := p
    obtain ⟨q0, q1, q2, q3, q4⟩ := q
    dsimp only at d0 d1 d2 d3 d4 d5 d6 d7 d8 d9
    clear HX
    have HX := Lib.hid hX
    have hz3 := b3.size
    have BA3 := BA2.below b3 BA2.lt
    have BB3 := BB2.below b3 BB2.lt
    have G3 := Lib.hid (G2.trans (Far.of_new b3))
    have HS3 := Lib.hid (s2.below b3)
    clear PD BA2 BB2 G2 s2 b3 ho hX r3 hlen hl2
    have HF := Lib.hid (fun (W : World) (hW : Turns [w.heap.size, w.heap.size + 1] w3 W) => row2_cells (row_touch o3 hW (by simp; omega)))
    dsimp only at HF
    clear d0 d1 d2 d3 d4 d5 d6 d7 d8 d9 o3 LF
    go_upto_region 6 with (fail)
    refine wp_region_up (Turns [w.heap.size, w.heap.size + 1]) [(true, 0), (true, 1), (true, 2), (true, 3), (true, 4), (true, 5), (false, 6), (false, 7)]
      (Turns.refl _) Turns.trans (by kernel_rfl) (by kernel_rfl) (by kernel_rfl) (by kernel_rfl) ?_
    have tD := Turns.drew [w.heap.size, w.heap.size + 1] w3
    have BA3 := BA3.drew
    have BB3 := BB3.drew
    have G3 := Lib.hid (G3.out.trans (Far.drew g w3))
    have HS3 := Lib.hid (HS3.out.below (New.drew w3))
    repeat (first
      | (refine up_quiet rfl rfl (v := ?_) (fun W hW => ?_) ?_
         rotate_left
         · obtain ⟨⟨d0, d1, d2, d3, d4⟩, d5, d6, d7, d8, d9⟩ := HF.out W (tD.trans hW)
           go_simp <;> with_reducible rfl
         simp only [Act.put, List.setIfInBounds_toArray, List.set_cons_zero, List.set_cons_succ]))
    refine up_call rfl rfl (fun K hK => ?_)
    refine wp_storeG 35 _ (.tmp 29) rfl w.heap.size _ rfl rfl BA3 (by kernel_rfl) rfl (by simp [Value.oneCell']) ?_
    intro W5 BR G5
    have BB5 := BB3.grown G5 (by simp)
    refine hK _ _ (Turns.of_far G5 (by simp)) ?_
    clear hK
    refine up_call rfl rfl (fun K hK => ?_)
    refine wp_storeG 35 _ (.tmp 32) rfl (w.heap.size + 1) _ rfl rfl BB5 (by kernel_rfl) rfl (by simp [Value.oneCell']) ?_
    intro W6 BQ G6
    have BR6 := BR.grown G6 (by simp)
    refine hK _ _ (Turns.of_far G6 (by simp)) ?_
    clear hK
    refine up_nil ?_
    obtain ⟨x0, x1, x2, x3, x4⟩ := cells5 BR6
    obtain ⟨y0, y1, y2, y3, y4⟩ := cells5 BQ
    go_wp2_with fail
    have hX := HX.out
    subst hX
    have hz5 := G5.size
    have hz4 : w3.heap.size ≤ W5.heap.size := hz5
    exact bodyPost_ret (v := .tuple #[cellA (p0, p1, p2, p3, p4), cellA (q0, q1, q2, q3, q4)]) (by simp [results, Tryz.results58, go_sem, x0, x1, x2, x3, x4, y0, y1, y2, y3, y4, cellA, cellV]) rfl ⟨rfl, (HS3.out.keep G5 BA3 (by omega) (by decide)).keep G6 BB5 (by omega) (by decide), grown_then (grown_then G3.out G5 (Nat.le_refl _)) G6 (by omega)⟩

end Go.Proofs.YtflaaahcoglflaaGreat
/- The contract of stat.Get. -/

namespace Go.Proofs.YtflaaahcoglflaaGreat
open Go.RowKit Go.Hm
/-- A stat is read, as it lies there. -/
noncomputable def rawS (t : Int) (S : St) : StatS × St :=
  if (byteS (lenS 65536 S).2).1 = 1 then ((((lenS 65536 S).1 : Int), true, (endsS t (byteS (lenS 65536 S).2).2).1.1, (endsS t (byteS (lenS 65536 S).2).2).1.2), (endsS t (byteS (lenS 65536 S).2).2).2)
  else ((((lenS 65536 S).1 : Int), false, cell0, cell0), (byteS (lenS 65536 S).2).2)
/-- A right stat is read. -/
noncomputable def getA (t : Int) (S : St) : StatS × St :=
  if (byteS (lenS 65536 S).2).1 ≤ 1 ∧ (rawS t S).2 ≠ none ∧ rightS t (rawS t S).1 = true then rawS t S else (stat0, none)
set_option maxHeartbeats 4000000 in
set_option maxRecDepth 100000 in
theorem sget_has {w : World} {g : Nat} {S : St} {t : Int} (h : CurS w g S) (h1 : (byteS (lenS 65536 S).2).1 = 1) (hl : (S.getD []).length ≤ 140737488351232) :
    Calls Tryz.prog 49 #[.pointer (some ⟨g, 0, none⟩), .int .i64 t] w
      (SGetPost (getA t S).1 g (getA t S).2 w) := by
  obtain ⟨X, hX⟩ : ∃ X, X = getA t S := ⟨_, rfl⟩
  rw [← hX]
  unfold getA rawS at hX
  rw [if_pos h1, h1] at hX
  have hle := lenS_le (m := 65536) S (by omega) h.ok
  have hsub := lenS_sub (m := 65536) h.ok
  have hlt := h.lt
  have ha : New w (w.alloc (.cells (statV stat0).toArray 37)) := (Below.refl _ _).alloc (Nat.le_refl _) _
  have h0 := h.below ha
  have L1 := Lib.hid (lenS_any (m := 65536) h0 (by omega) (by omega))
  have BZ0 : Blk (w.alloc (.cells (statV stat0).toArray 37)) w.heap.size 37 (statV stat0).toArray := Blk.new _ _ _
  generalize lenS 65536 S = H at *
  obtain ⟨n, S1⟩ := H
  dsimp only at *
  have hsub2 := byteS_sub (S := S1)
  have HX := Lib.hid hX
  have H1 := Lib.hid h1
  clear h hX h1
  go_enter Tryz.func49, Tryz.ntmps49
  go_wp2_with fail
  refine L1.out.mono ?_
  rintro e w1 ⟨rfl, s1, g1⟩
  have C2 := Lib.hid (byteS_any (s1.below ((Below.refl _ _).alloc (Nat.le_refl _) (.cells #[.int .i64 (n : Int), .bool false, .bool false, .int .i64 0, .string ⟨#[]⟩, .int .i64 0, .int .i64 0, .bool false, .int .i64 0, .string ⟨#[]⟩, .int .i64 0, .int .i64 0] 37))))
  have hz1 := g1.size
  have BZ1 := (BZ0.grown g1 (by intro e; injection e with e; omega)).alloc (.cells #[.int .i64 (n : Int), .bool false, .bool false, .int .i64 0, .string ⟨#[]⟩, .int .i64 0, .int .i64 0, .bool false, .int .i64 0, .string ⟨#[]⟩, .int .i64 0, .int .i64 0] 37)
  have BT1 := Blk.new w1 37 #[.int .i64 (n : Int), .bool false, .bool false, .int .i64 0, .string ⟨#[]⟩, .int .i64 0, .int .i64 0, .bool false, .int .i64 0, .string ⟨#[]⟩, .int .i64 0, .int .i64 0]
  have G1 := (Far.of_new ha (g := g)).trans (g1.trans (Far.of_new ((Below.refl _ w1).alloc (Nat.le_refl _) (.cells #[.int .i64 (n : Int), .bool false, .bool false, .int .i64 0, .string ⟨#[]⟩, .int .i64 0, .int .i64 0, .bool false, .int .i64 0, .string ⟨#[]⟩, .int .i64 0, .int .i64 0] 37))))
  have hb1 := H1.out
  generalize byteS S1 = Bq at *
  obtain ⟨y, S2⟩ := Bq
  dsimp only at *
  clear L1 h0 BZ0 s1 g1 ha H1
  subst hb1
  go_wp2_with fail
  refine C2.out.mono ?_
  rintro e w2 ⟨rfl, s2, g2⟩
  have hz2 := g2.size
  simp only [World.size_alloc] at hz1 hz2
  have BZ2 := BZ1.grown g2 (by intro e; injection e with e; omega)
  have BT2 := BT1.grown g2 (by intro e; injection e with e; omega)
  have G2 := G1.trans g2
  clear C2 BZ1 BT1 G1 g2
  obtain ⟨x0, x1, x2, x3, x4, x5, x6, x7, x8, x9, x10, x11⟩ := cells12 BT2
  have f1 := BT2.frozen 1
  have gS : w2.grownBy (w2.setCell ⟨w1.heap.size, 1, none⟩ (.bool true)) (some w1.heap.size) := setCell_grown
  have s3 := s2.keep gS BT2 (by omega) (by decide)
  have BT3 := BT2.set_ 1 (.bool true)
  simp only [List.setIfInBounds_toArray, List.set_cons_zero, List.set_cons_succ] at BT3
  have BZ3 := BZ2.grown gS (by simp; omega)
  have G3 := grown_then G2 gS (by omega)
  have EN := Lib.hid (ends_any (t := t) s3 (by omega))
  have HD := endsS_data t S2
  have hz3 : w2.heap.size ≤ (w2.setCell ⟨w1.heap.size, 1, none⟩ (.bool true)).heap.size := gS.size
  have SR := fun (W : World) => sright_any (w := W) (t := t) (s := ((n : Int), true, (endsS t S2).1.1, (endsS t S2).1.2)) ⟨HD.1.1, HD.2.1⟩
  generalize endsS t S2 = En at *
  obtain ⟨⟨⟨p0, p1, p2, p3, p4⟩, ⟨q0, q1, q2, q3, q4⟩⟩, S3⟩ := En
  dsimp only at HX EN SR
  generalize rightS t ((n : Int), true, (p0, p1, p2, p3, p4), (q0, q1, q2, q3, q4)) = R at *
  have SR : Hid (∀ W, Calls Tryz.prog 54 #[.int .i64 t, .agg #[.int .i64 (n : Int), .bool true, .bool p0, .int .i64 p1, .string (bstr p2), .int .i64 p3, .int .i64 p4, .bool q0, .int .i64 q1, .string (bstr q2), .int .i64 q3, .int .i64 q4]] W (NewPost (.bool R) W)) := Lib.hid SR
  clear HD
  go_wp2_with fail
  refine EN.out.mono ?_
  rintro e w4 ⟨rfl, s4, g4⟩
  have hz4 := g4.size
  have BT4 := BT3.grown g4 (by intro e; injection e with e; omega)
  have BZ4 := BZ3.grown g4 (by intro e; injection e with e; omega)
  have G4 := G3.trans g4
  clear EN s3 BT3 BZ3 G3 g4 gS s2 BZ2 BT2 G2 x0 x1 x2 x3 x4 x5 x6 x7 x8 x9 x10 x11 f1
  rw [show cellA (p0, p1, p2, p3, p4) = .agg #[.bool p0, .int .i64 p1, .string (bstr p2), .int .i64 p3, .int .i64 p4] from rfl, show cellA (q0, q1, q2, q3, q4) = .agg #[.bool q0, .int .i64 q1, .string (bstr q2), .int .i64 q3, .int .i64 q4] from rfl]
  go_wp2_with (first
    | (refine wpList_store5G rfl 35 (.tmp 21) (.tmp 19) rfl w1.heap.size 2 rfl rfl BT4 (by simp) (by kernel_rfl) (by simp [Value.oneCell']) ?_
       intro W5 BT5 G5
       simp only [List.setIfInBounds_toArray, List.set_cons_zero, List.set_cons_succ] at BT5)
    | (refine wpList_store5G rfl 35 (.tmp 22) (.tmp 20) rfl w1.heap.size 7 rfl rfl BT5 (by simp) (by kernel_rfl) (by simp [Value.oneCell']) ?_
       intro W6 BT6 G6
       simp only [List.setIfInBounds_toArray, List.set_cons_zero, List.set_cons_succ] at BT6
       have hz5 := G5.size
       have hz6 := G6.size
       have s6 := (s4.keep G5 BT4 (by omega) (by decide)).keep G6 BT5 (by omega) (by decide)
       have BZ6 := (BZ4.grown G5 (by simp; omega)).grown G6 (by simp; omega)
       have G06 := grown_then (grown_then G4 G5 (by omega)) G6 (by omega)
       clear BT4 BT5 G5 G6 s4 BZ4 G4
       obtain ⟨z0, z1, z2, z3, z4, z5, z6, z7, z8, z9, z10, z11⟩ := cells12 BT6
       have BD := Lib.hid (badS s6)
       have t1 : decide ((1 : Int) < 1) = false := by simp))
  cases S3 with
  | none =>
    refine BD.out.mono ?_
    rintro e w7 ⟨rfl, rfl⟩
    have hX := HX.out
    rw [if_neg (by simp)] at hX
    clear HX
    have HX := Lib.hid hX
    clear hX
    have s7 := s6
    have BZ7 := BZ6
    have BT7 := BT6
    have G7 := G06
    clear s6 BZ6 BT6 G06 BD
    have F := Lib.hid (failS s7)
    go_wp2_with fail
    refine F.out.mono ?_
    rintro e w8 ⟨rfl, s8, g8⟩
    have hz8 := g8.size
    have BZ8 := BZ7.grown g8 (by intro e; injection e with e; omega)
    have G8 := Lib.hid (G7.trans g8)
    have HS8 := Lib.hid s8
    clear F BZ7 BT7 G7 g8 s7 s8 z0 z1 z2 z3 z4 z5 z6 z7 z8 z9 z10 z11
    go_wp2_with (refine wpList_storeG rfl 37 (.tmp 4) (.tmp 37) rfl w.heap.size _ rfl rfl BZ8 (by kernel_rfl) (by simp [statV, stat0, cellV]) (by simp [Value.oneCell']) ?_
                 intro W9 BR G9
                 obtain ⟨s0, s1, s2, s3, s4, s5, s6, s7, s8, s9, s10, s11⟩ := cells12 BR)
    have hX := HX.out
    subst hX
    exact bodyPost_ret (v := statA stat0) (by simp [results, Tryz.results49, go_sem, s0, s1, s2, s3, s4, s5, s6, s7, s8, s9, s10, s11, statA, statV, cellV, stat0, cell0, show bstr [] = ⟨#[]⟩ from rfl]) rfl ⟨rfl, HS8.out.keep G9 BZ8 (by omega) (by decide), grown_then G8.out G9 (Nat.le_refl _)⟩
  | some S3 =>
    refine BD.out.mono ?_
    rintro e w7' ⟨rfl, rfl⟩
    go_wp2_with fail
    refine (SR.out _).mono ?_
    rintro e w7 ⟨rfl, b7⟩
    have hz7 := b7.size
    have BZ7 := BZ6.below b7 BZ6.lt
    have BT7 := BT6.below b7 BT6.lt
    have G7 := G06.trans (Far.of_new b7)
    have s7 := s6.below b7
    clear s6 BZ6 BT6 G06 BD b7 z0 z1 z2 z3 z4 z5 z6 z7 z8 z9 z10 z11 SR
    obtain ⟨z0, z1, z2, z3, z4, z5, z6, z7, z8, z9, z10, z11⟩ := cells12 BT7
    have hX := HX.out
    clear HX
    cases R with
    | false =>
      rw [if_neg (by simp)] at hX
      have HX := Lib.hid hX
      clear hX
      have F := Lib.hid (failS s7)
      go_wp2_with fail
      refine F.out.mono ?_
      rintro e w8 ⟨rfl, s8, g8⟩
      have hz8 := g8.size
      have BZ8 := BZ7.grown g8 (by intro e; injection e with e; omega)
      have G8 := Lib.hid (G7.trans g8)
      have HS8 := Lib.hid s8
      clear F BZ7 BT7 G7 g8 s7 s8 z0 z1 z2 z3 z4 z5 z6 z7 z8 z9 z10 z11
      go_wp2_with (refine wpList_storeG rfl 37 (.tmp 4) (.tmp 37) rfl w.heap.size _ rfl rfl BZ8 (by kernel_rfl) (by simp [statV, stat0, cellV]) (by simp [Value.oneCell']) ?_
                   intro W9 BR G9
                   obtain ⟨s0, s1, s2, s3, s4, s5, s6, s7, s8, s9, s10, s11⟩ := cells12 BR)
      have hX := HX.out
      subst hX
      exact bodyPost_ret (v := statA stat0) (by simp [results, Tryz.results49, go_sem, s0, s1, s2, s3, s4, s5, s6, s7, s8, s9, s10, s11, statA, statV, cellV, stat0, cell0, show bstr [] = ⟨#[]⟩ from rfl]) rfl ⟨rfl, HS8.out.keep G9 BZ8 (by omega) (by decide), grown_then G8.out G9 (Nat.le_refl _)⟩
    | true =>
      rw [if_pos ⟨by omega, by simp, by trivial⟩] at hX
      have HX := Lib.hid hX
      have G7 := Lib.hid G7
      have s7 := Lib.hid s7
      clear hX
      go_wp2_with (refine wpList_storeG rfl 37 (.tmp 4) (.tmp 38) rfl w.heap.size _ rfl rfl BZ7 (by kernel_rfl) (by simp [statV, stat0, cellV]) (by simp [Value.oneCell']) ?_
                   intro W9 BR G9
                   obtain ⟨s0, s1, s2, s3, s4, s5, s6, s70, s8, s9, s10, s11⟩ := cells12 BR)
      have hX := HX.out
      subst hX
      exact bodyPost_ret (v := statA ((n : Int), true, (p0, p1, p2, p3, p4), (q0, q1, q2, q3, q4))) (by simp [results, Tryz.results49, go_sem, s0, s1, s2, s3, s4, s5, s6, s70, s8, s9, s10, s11, statA, statV, cellV]) rfl ⟨rfl, s7.out.keep G9 BZ7 (by omega) (by decide), grown_then G7.out G9 (Nat.le_refl _)⟩

end Go.Proofs.YtflaaahcoglflaaGreat
