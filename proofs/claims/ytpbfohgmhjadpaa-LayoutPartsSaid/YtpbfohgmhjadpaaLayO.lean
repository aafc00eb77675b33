/- Contracts of sort.Search with a closure that only draws, and of layout.Over and its answer. -/
import Derived.Test.YtpbfohgmhjadpaaLayM
import Derived.Test.YtpbfohgmhjadpaaRow
import Derived.Test.YtpbfohgmhjadpaaOpt
import Derived.Test.YtpbfohgmhjadpaaOpen
import Derived.Shelf.Abstract
import Derived.Outline
import Derived.Deep.QuietTactic
import Derived.BigQuiet

namespace Go.Proofs.Ytpbfohgmhjadpaa
open Go.RowKit Go.Hm

set_option maxHeartbeats 1000000 in
/-- sort.Search with a closure that only draws. -/
theorem search_any (g : Nat) (cb : Array Value) (n : Nat) (p : Nat → Bool) (w : World) (eg : ∀ args w, (callFunc g args).run Try.prog w = .ok (.enter g args) w) (hn : n ≤ 4611686018427387903)
    (hf : ∀ (q i : Nat), i < n → Calls Try.prog g (#[.int .i64 (i : Int)] ++ cb) (w.drewN q) (DrewPost (.bool (p i)) (w.drewN q))) (hmono : ∀ i j, i ≤ j → j < n → p i = true → p j = true) :
    Calls Try.prog 17 #[.int .i64 (n : Int), .func (.func g) #[] cb] w fun e w' => ∃ r q : Nat, e = .returned (.int .i64 (r : Int)) ∧ w' = w.drewN q ∧ r ≤ n ∧ (∀ i, i < r → p i = false) ∧ ∀ i, r ≤ i → i < n → p i = true := by
  have HF := Lib.hid hf
  have HM := Lib.hid hmono
  clear hf hmono
  go_enter Try.func17, Try.ntmps17
  go_wp2
  go_loopw [5, 6] (fun x y wr => ∃ (lo hi q : Nat), x = .int .i64 (lo : Int) ∧ y = .int .i64 (hi : Int) ∧ lo ≤ hi ∧ hi ≤ n ∧ wr = w.drewN q ∧ Hid ((∀ i, i < lo → p i = false) ∧ ∀ i, hi ≤ i → i < n → p i = true)) (fun x y _ => (intOf y).toNat - (intOf x).toNat)
  case atStart => exact ⟨0, n, 0, rfl, rfl, by omega, by omega, rfl, Lib.hid ⟨fun i h => by omega, fun i h1 h2 => by omega⟩⟩
  case round =>
    obtain ⟨lo, hi, q, rfl, rfl, hlh, hin, rfl, H⟩ := hrel
    by_cases hlt : lo < hi
    · have hc := HF.out q ((lo + hi) / 2) (by omega)
      rw [show (((lo + hi) / 2 : Nat) : Int) = ((lo : Int) + (hi : Int)) / 2 by omega] at hc
      cases hp : p ((lo + hi) / 2) <;> rw [hp] at hc
      · have HP := Lib.hid hp
        clear hp
        go_wp2_with (go_at_fn g; refine hc.mono ?_; rintro e w' ⟨rfl, nq, rfl⟩)
        go_roundw
        case rel => exact ⟨(lo + hi) / 2 + 1, hi, q + nq, by congr 1 <;> omega, rfl, by omega, hin, rfl, Lib.hid ⟨fun i h => Bool.eq_false_iff.2 fun h' => by have := HM.out i ((lo + hi) / 2) (by omega) (by omega) h'; rw [HP.out] at this; simp at this, H.out.2⟩⟩
        case measure => simp [intOf]; omega
      · have HP := Lib.hid hp
        clear hp
        go_wp2_with (go_at_fn g; refine hc.mono ?_; rintro e w' ⟨rfl, nq, rfl⟩)
        go_roundw
        case rel => exact ⟨lo, (lo + hi) / 2, q + nq, rfl, by congr 1 <;> omega, by omega, by omega, rfl, Lib.hid ⟨H.out.1, fun i h1 h2 => HM.out _ i h1 h2 HP.out⟩⟩
        case measure => simp [intOf]; omega
    · obtain rfl : lo = hi := by omega
      go_wp2
      go_ret
      exact ⟨lo, q, rfl, rfl, hin, H.out.1, H.out.2⟩

set_option maxHeartbeats 1000000 in
theorem overTo_any {W : World} {A : Option Addr} {n c i g1 g2 : Nat} {l : List (Int × Int)} {f : Int} (hl : W.cell? ⟨g1, 0, none⟩ = some (.slice A n c)) (hf : W.cell? ⟨g2, 0, none⟩ = some (.int .i64 f)) (hr : Reads W W.heap.size 2 A n (pairs l)) (hi : i < n) :
    Calls Try.prog 18 (#[.int .i64 (i : Int)] ++ #[.pointer (some ⟨g1, 0, none⟩), .pointer (some ⟨g2, 0, none⟩)]) W (DrewPost (.bool (decide (f < (l.getD i (0, 0)).2))) W) := by
  obtain ⟨ad, rfl, hb, h1, h2⟩ := hr.pair2 hi
  generalize (l.getD i (0, 0)).2 = y at *
  have hiz : (i : Int) < (n : Int) := by omega
  go_enter Try.func18, Try.ntmps18
  go_wp2
  go_quiet (fail)
  go_wp2
  go_ret
  exact ⟨rfl, _, rfl⟩

set_option maxHeartbeats 1000000 in
theorem overFrom_any {W : World} {A : Option Addr} {n c i g1 g2 : Nat} {l : List (Int × Int)} {t : Int} (hl : W.cell? ⟨g1, 0, none⟩ = some (.slice A n c)) (hf : W.cell? ⟨g2, 0, none⟩ = some (.int .i64 t)) (hr : Reads W W.heap.size 2 A n (pairs l)) (hi : i < n) :
    Calls Try.prog 19 (#[.int .i64 (i : Int)] ++ #[.pointer (some ⟨g1, 0, none⟩), .pointer (some ⟨g2, 0, none⟩)]) W (DrewPost (.bool (decide (t ≤ (l.getD i (0, 0)).1))) W) := by
  obtain ⟨ad, rfl, hb, h1, h2⟩ := hr.pair2 hi
  generalize (l.getD i (0, 0)).1 = y at *
  have hiz : (i : Int) < (n : Int) := by omega
  go_enter Try.func19, Try.ntmps19
  go_wp2
  go_quiet (fail)
  go_wp2
  go_ret
  exact ⟨rfl, _, rfl⟩

/-- The places of the first and behind the last span that has rows of these. -/
def OverPost (l : List (Int × Int)) (f t : Int) (w : World) (e : Ending) (w' : World) : Prop := ∃ a b : Nat, e = .returned (.tuple #[.int .i64 (a : Int), .int .i64 (b : Int)]) ∧ IsOver l f t a b ∧ New w w'
set_option maxHeartbeats 1000000 in
set_option maxRecDepth 100000 in
theorem over_any {w : World} {A : Option Addr} {n c : Nat} {l : List (Int × Int)} {f t : Int} (hr : Reads w w.heap.size 2 A n (pairs l)) (hu : UpS l) (hn : n ≤ 4611686018427387903) :
    Calls Try.prog 12 #[.slice A n c, .int .i64 f, .int .i64 t] w (OverPost l f t w) := by
  obtain rfl := hr.lenP
  obtain ⟨W0, hW0⟩ : ∃ W, W = ((w.alloc (.cells #[.slice A l.length c] 24)).alloc (.cells #[.int .i64 f] 3)).alloc (.cells #[.int .i64 t] 3) := ⟨_, rfl⟩
  have b0 : New w W0 := by rw [hW0]; exact (((Below.refl _ _).alloc (Nat.le_refl _) _).alloc (by simp) _).alloc (by simp; omega) _
  have B1 : Blk W0 w.heap.size 24 #[.slice A l.length c] := by rw [hW0]; exact ((Blk.new _ _ _).alloc _).alloc _
  have B2 : Blk W0 (w.heap.size + 1) 3 #[.int .i64 f] := by
    rw [hW0]
    have := (Blk.new (w.alloc (.cells #[.slice A l.length c] 24)) 3 #[.int .i64 f]).alloc (.cells #[.int .i64 t] 3)
    simpa using this
  have B3 : Blk W0 (w.heap.size + 1 + 1) 3 #[.int .i64 t] := by
    rw [hW0]
    have := Blk.new ((w.alloc (.cells #[.slice A l.length c] 24)).alloc (.cells #[.int .i64 f] 3)) 3 #[.int .i64 t]
    simpa using this
  by_cases hft : t ≤ f
  · have HO := Lib.hid (over_none (l := l) (f := f) (t := t) (fun i _ hh => by have := hh.2.2; omega))
    clear B1 B2 B3
    go_enter Try.func12, Try.ntmps12
    go_wp2
    go_ret2
    exact ⟨0, 0, rfl, HO.out, by rw [← hW0]; exact b0⟩
  · have d1 : decide (t ≤ f) = false := by simpa using hft
    have E1 : ∀ args w, (callFunc 18 args).run Try.prog w = .ok (.enter 18 args) w := enters_of Try.func18 (by kernel_rfl) rfl
    have E2 : ∀ args w, (callFunc 19 args).run Try.prog w = .ok (.enter 19 args) w := enters_of Try.func19 (by kernel_rfl) rfl
    have S1 := Lib.hid (fun q0 : Nat => search_any 18 #[.pointer (some ⟨w.heap.size, 0, none⟩), .pointer (some ⟨w.heap.size + 1, 0, none⟩)] l.length (fun i => decide (f < (l.getD i (0, 0)).2)) (W0.drewN q0) E1 hn
      (fun q i hi => overTo_any (c := c) (by have := (B1.drewN q0).drewN q |>.cell 0; simpa using this) (by have := (B2.drewN q0).drewN q |>.cell 0; simpa using this) (((Reads.later hr b0).drewN q0).drewN q) hi)
      (fun i j hij hj h => by simp only [decide_eq_true_eq] at h ⊢; have := (hu.1 i j hij hj).2; omega))
    have S2 := Lib.hid (fun q0 : Nat => search_any 19 #[.pointer (some ⟨w.heap.size, 0, none⟩), .pointer (some ⟨w.heap.size + 1 + 1, 0, none⟩)] l.length (fun i => decide (t ≤ (l.getD i (0, 0)).1)) (W0.drewN q0) E2 hn
      (fun q i hi => overFrom_any (c := c) (by have := (B1.drewN q0).drewN q |>.cell 0; simpa using this) (by have := (B3.drewN q0).drewN q |>.cell 0; simpa using this) (((Reads.later hr b0).drewN q0).drewN q) hi)
      (fun i j hij hj h => by simp only [decide_eq_true_eq] at h ⊢; have := (hu.1 i j hij hj).1; omega))
    have x1 : ∀ q, (W0.drewN q).cell? ⟨w.heap.size, 0, none⟩ = some (.slice A l.length c) := fun q => by have := (B1.drewN q).cell 0; simpa using this
    have X1 := Lib.hid x1
    have x0 := x1 0
    clear B1 B2 B3 E1 E2 hr x1
    have HFT := Lib.hid hft
    clear hft
    go_enter Try.func12, Try.ntmps12
    go_wp2_with fail
    rw [← hW0]
    refine (S1.out 0).mono ?_
    rintro e w1 ⟨r1, q1, rfl, rfl, k1, k2, k3⟩
    have x2 := X1.out (0 + q1)
    rw [← drewN_add] at x2
    have S3 := Lib.hid (S2.out (0 + q1))
    rw [← drewN_add] at S3
    have HA := Lib.hid (And.intro k2 k3)
    clear S1 S2 x0 k2 k3
    go_wp2_with fail
    rw [← hW0]
    refine S3.out.mono ?_
    rintro e w2 ⟨r2, q2, rfl, rfl, k4, k5, k6⟩
    have HB := Lib.hid (And.intro k5 k6)
    clear S3 x2 X1 k5 k6
    have b1 : New w (((W0.drewN 0).drewN q1).drewN q2) := by rw [drewN_add, drewN_add]; exact New.trans b0 (new_drewN _ _)
    have a1 : ∀ i, i < r1 → (l.getD i (0, 0)).2 ≤ f := fun i hi => by have := HA.out.1 i hi; simpa using this
    have a2 : ∀ i, r1 ≤ i → i < l.length → f < (l.getD i (0, 0)).2 := fun i h1 h2 => by have := HA.out.2 i h1 h2; simpa using this
    have a3 : ∀ i, i < r2 → (l.getD i (0, 0)).1 < t := fun i hi => by have := HB.out.1 i hi; simpa using this
    have a4 : ∀ i, r2 ≤ i → i < l.length → t ≤ (l.getD i (0, 0)).1 := fun i h1 h2 => by have := HB.out.2 i h1 h2; simpa using this
    by_cases hlt : r1 < r2
    · have HO := Lib.hid (over_of HFT.out k4 hlt a1 a2 a3 a4)
      have d2 : decide (r2 ≤ r1) = false := by simp; omega
      clear a1 a2 a3 a4
      go_wp2
      go_ret2
      exact ⟨r1, r2, rfl, HO.out, by rw [← hW0, ← drewN_add]; exact b1⟩
    · have HO := Lib.hid (over_far (by omega) a1 a4)
      have d2 : decide (r2 ≤ r1) = true := by simp; omega
      clear a1 a2 a3 a4
      go_wp2
      go_ret2
      exact ⟨0, 0, rfl, HO.out, by rw [← hW0, ← drewN_add]; exact b1⟩

end Go.Proofs.Ytpbfohgmhjadpaa
