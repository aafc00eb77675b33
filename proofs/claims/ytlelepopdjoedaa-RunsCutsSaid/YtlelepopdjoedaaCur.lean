/- Contracts of package cursor. -/
import Derived.Test.YtlelepopdjoedaaFacts
import Derived.Test.YtlelepopdjoedaaSpec
import Derived.Test.YtlelepopdjoedaaBits

namespace Go.Proofs.Ytlelepopdjoedaa
open Go.RowKit Go.Hm

/-- Block g is a cursor with the bytes l left. -/
def Cur (w : World) (g : Nat) (l : List Nat) (bad : Bool) : Prop :=
  ∃ A c, Blk w g 60 #[.slice A l.length c, .bool bad] ∧ l.length ≤ c ∧ c ≤ maxLen ∧ TR w 5 A l.length (nums .u8 l) ∧ (∀ x ∈ l, x < 256) ∧ (bad = true → l = [])

section
variable {w w' : World} {g : Nat} {l : List Nat} {bad : Bool}
theorem Cur.lt (h : Cur w g l bad) : g < w.heap.size := by
  obtain ⟨A, c, h1, _⟩ := h
  exact h1.lt
theorem Cur.len (h : Cur w g l bad) : l.length ≤ maxLen := by
  obtain ⟨A, c, _, h1, h2, _⟩ := h
  omega
theorem Cur.below (h : Cur w g l bad) (hb : Below w.heap.size w w') : Cur w' g l bad := by
  obtain ⟨A, c, h1, h2, h3, h4, h5, h6⟩ := h
  exact ⟨A, c, h1.below hb h1.lt, h2, h3, h4.below hb, h5, h6⟩
theorem Cur.keep {g' : Nat} {t : TypeId} {cs : Array Value} (h : Cur w g l bad) (hg : w.grownBy w' (some g')) (hT : Blk w g' t cs) (hne : g ≠ g') (ht : 5 ≠ t) : Cur w' g l bad := by
  obtain ⟨A, c, h1, h2, h3, h4, h5, h6⟩ := h
  exact ⟨A, c, h1.grown hg (by simpa using hne), h2, h3, h4.keep hg hT ht, h5, h6⟩
theorem Cur.blk (h : Cur w g l bad) : ∃ cs, Blk w g 60 cs := by
  obtain ⟨A, c, h1, _⟩ := h
  exact ⟨_, h1⟩
end

def Unit0 : Ending := .returned (.tuple #[])
def CurPost (e0 : Ending) (g : Nat) (l : List Nat) (bad : Bool) (w : World) (e : Ending) (w' : World) : Prop := e = e0 ∧ Cur w' g l bad ∧ w.grownBy w' (some g)

theorem setCell2_grown {w : World} {g i j : Nat} {x y : Value} : w.grownBy ((w.setCell ⟨g, i, none⟩ x).setCell ⟨g, j, none⟩ y) (some g) :=
  ⟨rfl, rfl, rfl, by simp [World.setCell], fun k _ hne => (Below.heap_setCell _ _ _ _ (by intro e; exact hne (by rw [e]))).trans (Below.heap_setCell _ _ _ _ (by intro e; exact hne (by rw [e])))⟩
theorem setCell_grown {w : World} {g i : Nat} {x : Value} : w.grownBy (w.setCell ⟨g, i, none⟩ x) (some g) :=
  ⟨rfl, rfl, rfl, by simp [World.setCell], fun k _ hne => Below.heap_setCell _ _ _ _ (by intro e; exact hne (by rw [e]))⟩

set_option maxHeartbeats 400000 in
theorem fail_any {w : World} {g : Nat} {l : List Nat} {bad : Bool} (h : Cur w g l bad) :
    Calls Try.prog 50 #[.pointer (some ⟨g, 0, none⟩)] w (CurPost (.returned (.tuple #[])) g [] true w) := by
  obtain ⟨A, c, h1, h2, h3, h4, h5, h6⟩ := h
  have c0 := h1.cell 0
  have c1 := h1.cell 1
  have f0 := h1.frozen 0
  have f1 := h1.frozen 1
  simp at c0 c1
  have H1 := Lib.hid h1
  clear h1
  go_enter Try.func50, Try.ntmps50
  go_wp2
  go_end0
  refine ⟨rfl, ⟨none, 0, ?_, by simp, by simp [maxLen], TR.nil_, by simp, by simp⟩, setCell2_grown⟩
  simpa using (H1.out.set_ 0 (.slice none 0 0)).set_ 1 (.bool true)

def LeftPost (l : List Nat) (w : World) (e : Ending) (w' : World) : Prop := e = .returned (.int .i64 (l.length : Int)) ∧ w = w'
def BadPost (b : Bool) (w : World) (e : Ending) (w' : World) : Prop := e = .returned (.bool b) ∧ w = w'

set_option maxHeartbeats 400000 in
theorem left_any {w : World} {g : Nat} {l : List Nat} {bad : Bool} (h : Cur w g l bad) : Calls Try.prog 28 #[.pointer (some ⟨g, 0, none⟩)] w (LeftPost l w) := by
  obtain ⟨A, c, h1, h2, h3, h4, h5, h6⟩ := h
  have c0 := h1.cell 0
  simp at c0
  clear h1 h4 h5 h6
  go_enter Try.func28, Try.ntmps28
  go_wp2
  go_ret
  exact ⟨rfl, rfl⟩

set_option maxHeartbeats 400000 in
theorem bad_any {w : World} {g : Nat} {l : List Nat} {bad : Bool} (h : Cur w g l bad) : Calls Try.prog 27 #[.pointer (some ⟨g, 0, none⟩)] w (BadPost bad w) := by
  obtain ⟨A, c, h1, h2, h3, h4, h5, h6⟩ := h
  have c1 := h1.cell 1
  simp at c1
  clear h1 h4 h5 h6
  go_enter Try.func27, Try.ntmps27
  go_wp2
  go_ret
  exact ⟨rfl, rfl⟩


def NextPost (g : Nat) (l : List Nat) (n : Nat) (w : World) (e : Ending) (w' : World) : Prop :=
  ∃ A c, e = .returned (.slice A n c) ∧ TR w' 5 A n (nums .u8 (l.take n)) ∧ Cur w' g (l.drop n) false ∧ w.grownBy w' (some g)

theorem next_fin {w : World} {g : Nat} {l : List Nat} {n c : Nat} {A A' : Option Addr} (h1 : Blk w g 60 #[.slice A l.length c, .bool false]) (h2 : l.length ≤ c) (h3 : c ≤ maxLen) (h4 : TR w 5 A l.length (nums .u8 l)) (h5 : ∀ x ∈ l, x < 256) (hn : n ≤ l.length)
    (hA : A' = if c = n then A else A.map (·.add n)) : NextPost g l n w (.returned (.slice A n c)) (w.setCell ⟨g, 0, none⟩ (.slice A' (l.length - n) (c - n))) := by
  have hg : w.grownBy (w.setCell ⟨g, 0, none⟩ (.slice A' (l.length - n) (c - n))) (some g) := setCell_grown
  have ht := h4.take hn
  rw [nums_take] at ht
  have hc := h4.cut hn h2
  rw [nums_drop, ← hA] at hc
  refine ⟨A, c, rfl, ht.keep hg h1 (by decide), ⟨A', c - n, ?_, by rw [List.length_drop]; omega, by omega, ?_, fun x hx => h5 x (List.mem_of_mem_drop hx), by simp⟩, hg⟩
  · rw [List.length_drop]
    simpa using h1.set_ 0 (.slice A' (l.length - n) (c - n))
  · rw [List.length_drop]
    exact hc.keep hg h1 (by decide)

set_option maxHeartbeats 400000 in
theorem next_good {w : World} {g : Nat} {l : List Nat} {n : Nat} (h : Cur w g l false) (hn : n ≤ l.length) : Calls Try.prog 55 #[.pointer (some ⟨g, 0, none⟩), .int .i64 (n : Int)] w (NextPost g l n w) := by
  obtain ⟨A, c, h1, h2, h3, h4, h5, _⟩ := h
  have c0 := h1.cell 0
  have c1 := h1.cell 1
  have f0 := h1.frozen 0
  simp at c0 c1
  have F := Lib.hid (next_fin (A' := if c = n then A else A.map (·.add n)) h1 h2 h3 h4 h5 hn rfl)
  clear h1 h4 h5
  have h3' := h3
  unfold maxLen at h3'
  by_cases hcn : c = n
  · subst hcn
    go_enter Try.func55, Try.ntmps55
    go_wp2
    all_goals first | (exfalso; omega) | go_ret
    have F' := F.out
    rw [show l.length - c = 0 by omega, Nat.sub_self] at F'
    simpa using F'
  · have Hcn := Lib.hid hcn
    clear hcn
    go_enter Try.func55, Try.ntmps55
    go_wp2
    all_goals first | (exfalso; have := Hcn.out; omega) | go_ret
    have F' := F.out
    rw [if_neg Hcn.out] at F'
    exact F'

def NoneSlice : Ending := .returned (.slice none 0 0)
set_option maxHeartbeats 400000 in
theorem next_bad {w : World} {g : Nat} {l : List Nat} {bad : Bool} {n : Int} (h : Cur w g l bad) (hn : bad = true ∨ n < 0 ∨ (l.length : Int) < n) (h1 : -9223372036854775808 ≤ n) (h2 : n ≤ 9223372036854775807) :
    Calls Try.prog 55 #[.pointer (some ⟨g, 0, none⟩), .int .i64 n] w (CurPost (.returned (.slice none 0 0)) g [] true w) := by
  have hF := fail_any h
  have HF := Lib.hid hF
  clear hF
  obtain ⟨A, c, b1, _, _, _, _, _⟩ := h
  have c0 := b1.cell 0
  have c1 := b1.cell 1
  simp at c0 c1
  clear b1
  cases bad
  · by_cases hn0 : n < 0
    · clear hn
      go_enter Try.func55, Try.ntmps55
      go_wp2_with (go_at_call 50; refine HF.out.mono ?_; rintro e w' ⟨rfl, k1, k2⟩)
      go_ret
      exact ⟨rfl, k1, k2⟩
    · have hn1 : (l.length : Int) < n := by rcases hn with hn | hn | hn <;> first | cases hn | omega
      clear hn
      have hn0' : 0 ≤ n := by omega
      clear hn0
      go_enter Try.func55, Try.ntmps55
      go_wp2_with (go_at_call 50; refine HF.out.mono ?_; rintro e w' ⟨rfl, k1, k2⟩)
      go_ret
      exact ⟨rfl, k1, k2⟩
  · clear hn
    go_enter Try.func55, Try.ntmps55
    go_wp2_with (go_at_call 50; refine HF.out.mono ?_; rintro e w' ⟨rfl, k1, k2⟩)
    go_ret
    exact ⟨rfl, k1, k2⟩

/-- bytes.Clone: a copy of one's own. -/
def ClonePost (l : List Nat) (w : World) (e : Ending) (w' : World) : Prop :=
  ∃ A n c, e = .returned (.slice A n c) ∧ Own w' w.heap.size 5 (.slice A n c) (nums .u8 l) ∧ Below w.heap.size w w'

set_option maxHeartbeats 400000 in
theorem clone_any {w : World} {A : Option Addr} {n c : Nat} {l : List Nat} (h : Reads w w.heap.size 1 A n (nums .u8 l)) (hl : n ≤ 140737488355328) :
    Calls Try.prog 44 #[.slice A n c] w (ClonePost l w) := by
  obtain rfl := h.len
  rcases A with _ | ad
  · have hl0 : l.length = 0 := by
      rcases Nat.eq_zero_or_pos l.length with h0 | h0
      · exact h0
      · obtain ⟨ad, h', _⟩ := h.2 h0
        cases h'
    obtain rfl : l = [] := List.eq_nil_of_length_eq_zero hl0
    have hq := fun W : World => Lib.run_eql_slice_nil (P := Try.prog) W 24 5 none 0 c 0 0 elB.ht
    go_enter Try.func44, Try.ntmps44
    go_wp2
    go_ret
    exact ⟨none, 0, 0, rfl, Own.nil_, Below.refl _ _⟩
  · have hq := fun W : World => Lib.run_eql_slice_nil (P := Try.prog) W 24 5 (some ad) l.length c 0 0 elB.ht
    go_enter Try.func44, Try.ntmps44
    go_wp2_with (first
      | (refine wpList_pushesN elB rfl (.tmp 5) (.tmp 6) rfl (W := w) (B := w.heap.size) (k := .u8) (l := []) (l2 := l) (c2 := c) (Own.empty _ _) ((h.alloc (Nat.le_refl _) _).more (by simp)) rfl rfl ((Below.refl _ _).alloc (Nat.le_refl _) _) (Nat.le_refl _) (by simp) (by omega) (by simp only [maxLen]; omega) ?_
         simp only [Nat.zero_add, List.nil_append]
         intro A' c' w' k1 k2 k3 k4 k5 k6))
    go_ret
    exact ⟨A', _, c', rfl, k3, k5⟩

def OverPost (l : List Nat) (w : World) (e : Ending) (w' : World) : Prop :=
  ∃ g, e = .returned (.pointer (some ⟨g, 0, none⟩)) ∧ w.heap.size ≤ g ∧ Cur w' g l false ∧ Below w.heap.size w w'

set_option maxHeartbeats 400000 in
theorem over_any {w : World} {A : Option Addr} {n c : Nat} {l : List Nat} (h : Reads w w.heap.size 1 A n (nums .u8 l)) (hl : n ≤ 140737488355328) (h8 : ∀ x ∈ l, x < 256) :
    Calls Try.prog 26 #[.slice A n c] w (OverPost l w) := by
  obtain rfl := h.len
  go_enter Try.func26, Try.ntmps26
  go_wp2_with (go_at_call 44; refine (clone_any h hl).mono ?_; rintro e w1 ⟨A', n', c', rfl, k1, k2⟩)
  go_ret
  have hc := k1.cap
  obtain rfl : n' = l.length := by have := k1.len; rwa [nums_length] at this
  exact ⟨_, rfl, k2.size, ⟨A', c', Blk.new _ _ _, by omega, by omega, (TR.of_own k1).alloc _, h8, by simp⟩, k2.alloc k2.size _⟩

def TakePost (g : Nat) (l : List Nat) (n : Nat) (w : World) (e : Ending) (w' : World) : Prop :=
  ∃ A c, e = .returned (.slice A n c) ∧ Own w' w.heap.size 5 (.slice A n c) (nums .u8 (l.take n)) ∧ Cur w' g (l.drop n) false ∧ w.grownBy w' (some g)

theorem grown_below {w w1 w2 : World} {row : Option Nat} (h : w.grownBy w1 row) (hb : Below w1.heap.size w1 w2) : w.grownBy w2 row :=
  ⟨hb.os.trans h.os, hb.tape.trans h.tape, hb.output.trans h.output, Nat.le_trans h.size hb.size, fun k hk hne => (hb.block k (Nat.lt_of_lt_of_le hk h.size)).trans (h.block k hk hne)⟩

set_option maxHeartbeats 400000 in
theorem take_good {w : World} {g : Nat} {l : List Nat} {n : Nat} (h : Cur w g l false) (hn : n ≤ l.length) (hs : n ≤ 140737488355328) :
    Calls Try.prog 48 #[.pointer (some ⟨g, 0, none⟩), .int .i64 (n : Int)] w (TakePost g l n w) := by
  have hlt : (l.take n).length = n := by rw [List.length_take]; omega
  go_enter Try.func48, Try.ntmps48
  go_wp2_with (first
    | (go_at_call 55; refine (next_good h hn).mono ?_; rintro e w1 ⟨A', c', rfl, k1, k2, k3⟩
       have k4 := k1.1
       have C := Lib.hid (clone_any (c := c') k4 hs)
       have hg := k3.size)
    | (go_at_call 44; refine C.out.mono ?_; rintro e w2 ⟨A2, n2, c2, rfl, k5, k6⟩))
  go_ret
  obtain rfl : n2 = n := by have := k5.len; rwa [nums_length, hlt] at this
  exact ⟨A2, c2, rfl, k5.base_le hg, k2.below k6, grown_below k3 k6⟩

set_option maxHeartbeats 400000 in
theorem take_bad {w : World} {g : Nat} {l : List Nat} {bad : Bool} {n : Int} (h : Cur w g l bad) (hn : bad = true ∨ n < 0 ∨ (l.length : Int) < n) (h1 : -9223372036854775808 ≤ n) (h2 : n ≤ 9223372036854775807) :
    Calls Try.prog 48 #[.pointer (some ⟨g, 0, none⟩), .int .i64 n] w (CurPost (.returned (.slice none 0 0)) g [] true w) := by
  have HN := Lib.hid (next_bad h hn h1 h2)
  clear hn h1 h2
  have hq := fun W : World => Lib.run_eql_slice_nil (P := Try.prog) W 24 5 none 0 0 0 0 elB.ht
  go_enter Try.func48, Try.ntmps48
  go_wp2_with (first
    | (go_at_call 55; refine HN.out.mono ?_; rintro e w1 ⟨rfl, k1, k2⟩)
    | (go_at_call 44; go_in))
  go_ret
  exact ⟨rfl, k1, k2⟩

end Go.Proofs.Ytlelepopdjoedaa
