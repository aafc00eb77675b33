/- Contracts of the document's own cursor (layer 3's answer): its bytes lie in old memory, below block B. -/
import Derived.Test.YtlelepopdjoedaaRefC
import Derived.Test.YtlelepopdjoedaaCurN
import Derived.Test.YtlelepopdjoedaaUp

namespace Go.Proofs.Ytlelepopdjoedaa
open Go.RowKit Go.Hm

/-- Block g is the answer's cursor; what is left are the bytes l, in blocks below B. -/
def RCur (w : World) (B g : Nat) (l : List Nat) (bad : Bool) : Prop :=
  ∃ A c, Blk w g 49 #[.slice A l.length c, .bool bad] ∧ l.length ≤ c ∧ c ≤ maxLen ∧ Reads w B 1 A l.length (nums .u8 l) ∧ B ≤ g ∧ (∀ x ∈ l, x < 256)

section
variable {w w' : World} {B g : Nat} {l : List Nat} {bad : Bool}
theorem RCur.lt (h : RCur w B g l bad) : g < w.heap.size := by
  obtain ⟨A, c, h1, _⟩ := h
  exact h1.lt
theorem RCur.ge (h : RCur w B g l bad) : B ≤ g := by
  obtain ⟨A, c, _, _, _, _, h5, _⟩ := h
  exact h5
theorem RCur.lt8 (h : RCur w B g l bad) : ∀ x ∈ l, x < 256 := by
  obtain ⟨A, c, _, _, _, _, _, h6⟩ := h
  exact h6
theorem RCur.below (h : RCur w B g l bad) (hb : Below w.heap.size w w') : RCur w' B g l bad := by
  obtain ⟨A, c, h1, h2, h3, h4, h5, h6⟩ := h
  exact ⟨A, c, h1.below hb h1.lt, h2, h3, h4.below (hb.mono (by have := h1.lt; omega)), h5, h6⟩
theorem RCur.keep {g' : Nat} (h : RCur w B g l bad) (hg : w.grownBy w' (some g')) (hB : B ≤ g') (hne : g ≠ g') : RCur w' B g l bad := by
  obtain ⟨A, c, h1, h2, h3, h4, h5, h6⟩ := h
  exact ⟨A, c, h1.grown hg (by simpa using hne), h2, h3, h4.grown hg (by have := h1.lt; omega) (fun g e => by injection e with e; omega), h5, h6⟩
theorem RCur.blk (h : RCur w B g l bad) : ∃ cs, Blk w g 49 cs := by
  obtain ⟨A, c, h1, _⟩ := h
  exact ⟨_, h1⟩
end

def RPost (e0 : Ending) (B g : Nat) (l : List Nat) (bad : Bool) (w : World) (e : Ending) (w' : World) : Prop := e = e0 ∧ RCur w' B g l bad ∧ w.grownBy w' (some g)

set_option maxHeartbeats 400000 in
theorem rfail_any {w : World} {B g : Nat} {l : List Nat} {bad : Bool} (h : RCur w B g l bad) :
    Calls Try.prog 52 #[.pointer (some ⟨g, 0, none⟩)] w (RPost (.returned (.tuple #[])) B g [] true w) := by
  obtain ⟨A, c, h1, h2, h3, h4, h5, h6⟩ := h
  have c0 := h1.cell 0
  have c1 := h1.cell 1
  have f0 := h1.frozen 0
  have f1 := h1.frozen 1
  simp at c0 c1
  have H1 := Lib.hid h1
  clear h1
  go_enter Try.func52, Try.ntmps52
  go_wp2
  go_end0
  refine ⟨rfl, ⟨none, 0, ?_, by simp, by simp [maxLen], Reads.none_, h5, by simp⟩, setCell2_grown⟩
  simpa using (H1.out.set_ 0 (.slice none 0 0)).set_ 1 (.bool true)

def RTake (B g : Nat) (l : List Nat) (n : Nat) (w : World) (e : Ending) (w' : World) : Prop :=
  ∃ A c, e = .returned (.slice A n c) ∧ Own w' w.heap.size 5 (.slice A n c) (nums .u8 (l.take n)) ∧ RCur w' B g (l.drop n) false ∧ w.grownBy w' (some g)

theorem rtake_fin {w w1 : World} {B g : Nat} {l : List Nat} {n c : Nat} {A A' : Option Addr} (h1 : Blk w g 49 #[.slice A l.length c, .bool false]) (h2 : l.length ≤ c) (h3 : c ≤ maxLen) (h4 : Reads w B 1 A l.length (nums .u8 l)) (h5 : B ≤ g) (h6 : ∀ x ∈ l, x < 256) (hn : n ≤ l.length)
    (hA : A' = if c = n then A else A.map (·.add n)) (A1 : Option Addr) (c1 : Nat) (b1 : Below w.heap.size w w1) (o1 : Own w1 w.heap.size 5 (.slice A1 n c1) (nums .u8 (l.take n))) :
    RTake B g l n w (.returned (.slice A1 n c1)) (w1.setCell ⟨g, 0, none⟩ (.slice A' (l.length - n) (c - n))) := by
  have B1 := h1.below b1 h1.lt
  have hs : w.grownBy (w1.setCell ⟨g, 0, none⟩ (.slice A' (l.length - n) (c - n))) (some g) := (Far.of_new b1).trans setCell_grown
  have hs1 : w1.grownBy (w1.setCell ⟨g, 0, none⟩ (.slice A' (l.length - n) (c - n))) (some g) := setCell_grown
  have hc := h4.cut hn h2
  rw [Nat.mul_one, nums_drop, ← hA] at hc
  refine ⟨A1, c1, rfl, o1.keepT hs1 B1 (by decide), ⟨A', c - n, ?_, by rw [List.length_drop]; omega, by omega, ?_, h5, fun x hx => h6 x (List.mem_of_mem_drop hx)⟩, hs⟩
  · rw [List.length_drop]
    simpa using B1.set_ 0 (.slice A' (l.length - n) (c - n))
  · rw [List.length_drop]
    exact (hc.below (b1.mono (by have := h1.lt; omega))).setCell h5 _

set_option maxHeartbeats 800000 in
theorem rtake_good {w : World} {B g : Nat} {l : List Nat} {n : Nat} (h : RCur w B g l false) (hn : n ≤ l.length) (hs : n ≤ 140737488355200) :
    Calls Try.prog 35 #[.pointer (some ⟨g, 0, none⟩), .int .i64 (n : Int)] w (RTake B g l n w) := by
  obtain ⟨A, c, h1, h2, h3, h4, h5, h6⟩ := h
  have hgl := h1.lt
  have c0 := h1.cell 0
  have c1 := h1.cell 1
  simp at c0 c1
  have ht := h4.take hn
  rw [Nat.mul_one, nums_take] at ht
  have h3' := h3
  unfold maxLen at h3'
  have F := Lib.hid (fun w1 => rtake_fin (w1 := w1) (A' := if c = n then A else A.map (·.add n)) h1 h2 h3 h4 h5 h6 hn rfl)
  have H1 := Lib.hid h1
  clear h1 h4 h6
  by_cases hcn : c = n
  · obtain rfl : n = c := hcn.symm
    go_enter Try.func35, Try.ntmps35
    go_wp2_with (first
      | (refine wpList_pushesN elB rfl (.tmp 25) (.tmp 31) rfl (W := w) (B := w.heap.size) (k := .u8) (l := []) (l2 := l.take n) (c2 := n) (Own.empty _ _) ((ht.alloc (by omega) _).more (by simp; omega)) rfl rfl ((Below.refl _ _).alloc (Nat.le_refl _) _) (Nat.le_refl _) (by simp) (by omega) (by simp only [maxLen]; omega) ?_
         simp only [Nat.zero_add, List.nil_append]
         intro A1 c1 w1 _ _ o1 _ b1 _
         have B1 := H1.out.below b1 hgl
         have d0 := B1.cell 0
         have e0 := B1.frozen 0
         simp at d0))
    all_goals first | (exfalso; omega) | go_ret
    have F' := F.out w1 _ _ b1 o1
    rw [show l.length - n = 0 by omega, Nat.sub_self] at F'
    simpa using F'
  · have Hcn := Lib.hid hcn
    clear hcn
    go_enter Try.func35, Try.ntmps35
    go_wp2_with (first
      | (refine wpList_pushesN elB rfl (.tmp 25) (.tmp 31) rfl (W := w) (B := w.heap.size) (k := .u8) (l := []) (l2 := l.take n) (c2 := c) (Own.empty _ _) ((ht.alloc (by omega) _).more (by simp; omega)) rfl rfl ((Below.refl _ _).alloc (Nat.le_refl _) _) (Nat.le_refl _) (by simp) (by omega) (by simp only [maxLen]; omega) ?_
         simp only [Nat.zero_add, List.nil_append]
         intro A1 c1 w1 _ _ o1 _ b1 _
         have B1 := H1.out.below b1 hgl
         have d0 := B1.cell 0
         have e0 := B1.frozen 0
         simp at d0))
    all_goals first | (exfalso; have := Hcn.out; omega) | go_ret
    have F' := F.out w1 _ _ b1 o1
    rw [if_neg Hcn.out] at F'
    exact F'


set_option maxHeartbeats 400000 in
theorem rtake_bad {w : World} {B g : Nat} {l : List Nat} {bad : Bool} {n : Int} (h : RCur w B g l bad) (hn : bad = true ∨ n < 0 ∨ (l.length : Int) < n) (h1 : -9223372036854775808 ≤ n) (h2 : n ≤ 9223372036854775807) :
    Calls Try.prog 35 #[.pointer (some ⟨g, 0, none⟩), .int .i64 n] w (RPost (.returned (.slice none 0 0)) B g [] true w) := by
  have hF := rfail_any h
  have HF := Lib.hid hF
  clear hF
  obtain ⟨A, c, b1, _, _, _, _, _⟩ := h
  have c0 := b1.cell 0
  have c1 := b1.cell 1
  simp at c0 c1
  clear b1
  cases bad
  · by_cases hn0 : n < 0
    · clear hn
      go_enter Try.func35, Try.ntmps35
      go_wp2_with (go_at_call 52; refine HF.out.mono ?_; rintro e w' ⟨rfl, k1, k2⟩)
      go_ret
      exact ⟨rfl, k1, k2⟩
    · have hn1 : (l.length : Int) < n := by rcases hn with hn | hn | hn <;> first | cases hn | omega
      clear hn
      have hn0' : 0 ≤ n := by omega
      clear hn0
      go_enter Try.func35, Try.ntmps35
      go_wp2_with (go_at_call 52; refine HF.out.mono ?_; rintro e w' ⟨rfl, k1, k2⟩)
      go_ret
      exact ⟨rfl, k1, k2⟩
  · clear hn
    go_enter Try.func35, Try.ntmps35
    go_wp2_with (go_at_call 52; refine HF.out.mono ?_; rintro e w' ⟨rfl, k1, k2⟩)
    go_ret
    exact ⟨rfl, k1, k2⟩

end Go.Proofs.Ytlelepopdjoedaa
