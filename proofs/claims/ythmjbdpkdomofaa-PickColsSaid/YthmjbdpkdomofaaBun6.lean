/- Texts merged, for a claim has at most 60 files: LayO, LayR, PicD, PicE, PicP, SplN, EvM, TreS, PrfO, PrfN, PicG, PicH, PicJ, FooPd. -/
import Derived.BigQuiet
import Derived.Deep.QuietTactic
import Derived.Laws.EntriesVeiled
import Derived.Lib.BitFns
import Derived.Outline
import Derived.Shelf.Abstract
import Derived.Test.YthmjbdpkdomofaaBun1
import Derived.Test.YthmjbdpkdomofaaBun2
import Derived.Test.YthmjbdpkdomofaaBun3
import Derived.Test.YthmjbdpkdomofaaBun4
import Derived.Test.YthmjbdpkdomofaaBun5
/- Contracts of sort.Search with a closure that only draws, and of layout.Over and its answer. -/

namespace Go.Proofs.Ythmjbdpkdomofaa
open Go.RowKit Go.Hm

set_option maxHeartbeats 1000000 in
/-- sort.Search with a closure that only draws. -/
theorem search_any (g : Nat) (cb : Array Value) (n : Nat) (p : Nat → Bool) (w : World) (eg : ∀ args w, (callFunc g args).run Try.prog w = .ok (.enter g args) w) (hn : n ≤ 4611686018427387903)
    (hf : ∀ (q i : Nat), i < n → Calls Try.prog g (#[.int .i64 (i : Int)] ++ cb) (w.drewN q) (DrewPost (.bool (p i)) (w.drewN q))) (hmono : ∀ i j, i ≤ j → j < n → p i = true → p j = true) :
    Calls Try.prog 41 #[.int .i64 (n : Int), .func (.func g) #[] cb] w fun e w' => ∃ r q : Nat, e = .returned (.int .i64 (r : Int)) ∧ w' = w.drewN q ∧ r ≤ n ∧ (∀ i, i < r → p i = false) ∧ ∀ i, r ≤ i → i < n → p i = true := by
  have HF := Lib.hid hf
  have HM := Lib.hid hmono
  clear hf hmono
  go_enter Try.func41, Try.ntmps41
  go_wp2
  go_loopw [5, 6] (fun x y wr => ∃ (lo hi q : Nat), x = .int .i64 (lo : Int) ∧ y = .int .i64 (hi : Int) ∧ lo ≤ hi ∧ hi ≤ n ∧ wr = w.drewN q ∧ Hid ((∀ i, i < lo → p i = false) ∧ ∀ i, hi ≤ i → i < n → p i = true)) (fun x y _ => (intOf y).toNat - (intOf x).toNat)
  case atStart => exact ⟨0, n, 0, rfl, rfl, by omega, by omega, rfl, Lib.hid ⟨fun i h => by omega, fun i h1 h2 => by omega⟩⟩
  case round =>
    obtain ⟨lo, hi, q, rfl, rfl, hlh, hin, rfl, H⟩ := hrel
    by_cases hlt : lo < hi
    · have hc := HF.out q ((lo + hi) / 2) (by omega)
      rw [show (((lo + hi) / 2 : Nat) : Int) = ((lo : Int) + (hi : Int)) / 2 by omega] at hc
      cases hp : p ((lo + hi) / 2) <;> rw [hp] at hc
      · have HP := Lib.hid hp
        clear hp
        go_wp2_with (go_at_fn g; refine hc.mono ?_; rintro e w' ⟨rfl, nq, rfl⟩)
        go_roundw
        case rel => exact ⟨(lo + hi) / 2 + 1, hi, q + nq, by congr 1 <;> omega, rfl, by omega, hin, rfl, Lib.hid ⟨fun i h => Bool.eq_false_iff.2 fun h' => by have := HM.out i ((lo + hi) / 2) (by omega) (by omega) h'; rw [HP.out] at this; simp at this, H.out.2⟩⟩
        case measure => simp [intOf]; omega
      · have HP := Lib.hid hp
        clear hp
        go_wp2_with (go_at_fn g; refine hc.mono ?_; rintro e w' ⟨rfl, nq, rfl⟩)
        go_roundw
        case rel => exact ⟨lo, (lo + hi) / 2, q + nq, rfl, by congr 1 <;> omega, by omega, by omega, rfl, Lib.hid ⟨H.out.1, fun i h1 h2 => HM.out _ i h1 h2 HP.out⟩⟩
        case measure => simp [intOf]; omega
    · obtain rfl : lo = hi := by omega
      go_wp2
      go_ret
      exact ⟨lo, q, rfl, rfl, hin, H.out.1, H.out.2⟩

set_option maxHeartbeats 1000000 in
theorem overTo_any {W : World} {A : Option Addr} {n c i g1 g2 : Nat} {l : List (Int × Int)} {f : Int} (hl : W.cell? ⟨g1, 0, none⟩ = some (.slice A n c)) (hf : W.cell? ⟨g2, 0, none⟩ = some (.int .i64 f)) (hr : Reads W W.heap.size 2 A n (pairs l)) (hi : i < n) :
    Calls Try.prog 42 (#[.int .i64 (i : Int)] ++ #[.pointer (some ⟨g1, 0, none⟩), .pointer (some ⟨g2, 0, none⟩)]) W (DrewPost (.bool (decide (f < (l.getD i (0, 0)).2))) W) := by
  obtain ⟨ad, rfl, hb, h1, h2⟩ := hr.pair2 hi
  generalize (l.getD i (0, 0)).2 = y at *
  have hiz : (i : Int) < (n : Int) := by omega
  go_enter Try.func42, Try.ntmps42
  go_wp2
  go_quiet (fail)
  go_wp2
  go_ret
  exact ⟨rfl, _, rfl⟩

set_option maxHeartbeats 1000000 in
theorem overFrom_any {W : World} {A : Option Addr} {n c i g1 g2 : Nat} {l : List (Int × Int)} {t : Int} (hl : W.cell? ⟨g1, 0, none⟩ = some (.slice A n c)) (hf : W.cell? ⟨g2, 0, none⟩ = some (.int .i64 t)) (hr : Reads W W.heap.size 2 A n (pairs l)) (hi : i < n) :
    Calls Try.prog 43 (#[.int .i64 (i : Int)] ++ #[.pointer (some ⟨g1, 0, none⟩), .pointer (some ⟨g2, 0, none⟩)]) W (DrewPost (.bool (decide (t ≤ (l.getD i (0, 0)).1))) W) := by
  obtain ⟨ad, rfl, hb, h1, h2⟩ := hr.pair2 hi
  generalize (l.getD i (0, 0)).1 = y at *
  have hiz : (i : Int) < (n : Int) := by omega
  go_enter Try.func43, Try.ntmps43
  go_wp2
  go_quiet (fail)
  go_wp2
  go_ret
  exact ⟨rfl, _, rfl⟩

/-- The places of the first and behind the last span that has rows of these. -/
def LOverPost (l : List (Int × Int)) (f t : Int) (w : World) (e : Ending) (w' : World) : Prop := ∃ a b : Nat, e = .returned (.tuple #[.int .i64 (a : Int), .int .i64 (b : Int)]) ∧ IsOver l f t a b ∧ New w w'
set_option maxHeartbeats 1000000 in
set_option maxRecDepth 100000 in
theorem lover_any {w : World} {A : Option Addr} {n c : Nat} {l : List (Int × Int)} {f t : Int} (hr : Reads w w.heap.size 2 A n (pairs l)) (hu : UpS l) (hn : n ≤ 4611686018427387903) :
    Calls Try.prog 25 #[.slice A n c, .int .i64 f, .int .i64 t] w (LOverPost l f t w) := by
  obtain rfl := hr.lenP
  obtain ⟨W0, hW0⟩ : ∃ W, W = ((w.alloc (.cells #[.slice A l.length c] 41)).alloc (.cells #[.int .i64 f] 3)).alloc (.cells #[.int .i64 t] 3) := ⟨_, rfl⟩
  have b0 : New w W0 := by rw [hW0]; exact (((Below.refl _ _).alloc (Nat.le_refl _) _).alloc (by simp) _).alloc (by simp; omega) _
  have B1 : Blk W0 w.heap.size 41 #[.slice A l.length c] := by rw [hW0]; exact ((Blk.new _ _ _).alloc _).alloc _
  have B2 : Blk W0 (w.heap.size + 1) 3 #[.int .i64 f] := by
    rw [hW0]
    have := (Blk.new (w.alloc (.cells #[.slice A l.length c] 41)) 3 #[.int .i64 f]).alloc (.cells #[.int .i64 t] 3)
    simpa using this
  have B3 : Blk W0 (w.heap.size + 1 + 1) 3 #[.int .i64 t] := by
    rw [hW0]
    have := Blk.new ((w.alloc (.cells #[.slice A l.length c] 41)).alloc (.cells #[.int .i64 f] 3)) 3 #[.int .i64 t]
    simpa using this
  by_cases hft : t ≤ f
  · have HO := Lib.hid (over_none (l := l) (f := f) (t := t) (fun i _ hh => by have := hh.2.2; omega))
    clear B1 B2 B3
    go_enter Try.func25, Try.ntmps25
    go_wp2
    go_ret2
    exact ⟨0, 0, rfl, HO.out, by rw [← hW0]; exact b0⟩
  · have d1 : decide (t ≤ f) = false := by simpa using hft
    have E1 : ∀ args w, (callFunc 42 args).run Try.prog w = .ok (.enter 42 args) w := enters_of Try.func42 (by kernel_rfl) rfl
    have E2 : ∀ args w, (callFunc 43 args).run Try.prog w = .ok (.enter 43 args) w := enters_of Try.func43 (by kernel_rfl) rfl
    have S1 := Lib.hid (fun q0 : Nat => search_any 42 #[.pointer (some ⟨w.heap.size, 0, none⟩), .pointer (some ⟨w.heap.size + 1, 0, none⟩)] l.length (fun i => decide (f < (l.getD i (0, 0)).2)) (W0.drewN q0) E1 hn
      (fun q i hi => overTo_any (c := c) (by have := (B1.drewN q0).drewN q |>.cell 0; simpa using this) (by have := (B2.drewN q0).drewN q |>.cell 0; simpa using this) (((Reads.later hr b0).drewN q0).drewN q) hi)
      (fun i j hij hj h => by simp only [decide_eq_true_eq] at h ⊢; have := (hu.1 i j hij hj).2; omega))
    have S2 := Lib.hid (fun q0 : Nat => search_any 43 #[.pointer (some ⟨w.heap.size, 0, none⟩), .pointer (some ⟨w.heap.size + 1 + 1, 0, none⟩)] l.length (fun i => decide (t ≤ (l.getD i (0, 0)).1)) (W0.drewN q0) E2 hn
      (fun q i hi => overFrom_any (c := c) (by have := (B1.drewN q0).drewN q |>.cell 0; simpa using this) (by have := (B3.drewN q0).drewN q |>.cell 0; simpa using this) (((Reads.later hr b0).drewN q0).drewN q) hi)
      (fun i j hij hj h => by simp only [decide_eq_true_eq] at h ⊢; have := (hu.1 i j hij hj).1; omega))
    have x1 : ∀ q, (W0.drewN q).cell? ⟨w.heap.size, 0, none⟩ = some (.slice A l.length c) := fun q => by have := (B1.drewN q).cell 0; simpa using this
    have X1 := Lib.hid x1
    have x0 := x1 0
    clear B1 B2 B3 E1 E2 hr x1
    have HFT := Lib.hid hft
    clear hft
    go_enter Try.func25, Try.ntmps25
    go_wp2_with fail
    rw [← hW0]
    refine (S1.out 0).mono ?_
    rintro e w1 ⟨r1, q1, rfl, rfl, k1, k2, k3⟩
    have x2 := X1.out (0 + q1)
    rw [← drewN_add] at x2
    have S3 := Lib.hid (S2.out (0 + q1))
    rw [← drewN_add] at S3
    have HA := Lib.hid (And.intro k2 k3)
    clear S1 S2 x0 k2 k3
    go_wp2_with fail
    rw [← hW0]
    refine S3.out.mono ?_
    rintro e w2 ⟨r2, q2, rfl, rfl, k4, k5, k6⟩
    have HB := Lib.hid (And.intro k5 k6)
    clear S3 x2 X1 k5 k6
    have b1 : New w (((W0.drewN 0).drewN q1).drewN q2) := by rw [drewN_add, drewN_add]; exact New.trans b0 (new_drewN _ _)
    have a1 : ∀ i, i < r1 → (l.getD i (0, 0)).2 ≤ f := fun i hi => by have := HA.out.1 i hi; simpa using this
    have a2 : ∀ i, r1 ≤ i → i < l.length → f < (l.getD i (0, 0)).2 := fun i h1 h2 => by have := HA.out.2 i h1 h2; simpa using this
    have a3 : ∀ i, i < r2 → (l.getD i (0, 0)).1 < t := fun i hi => by have := HB.out.1 i hi; simpa using this
    have a4 : ∀ i, r2 ≤ i → i < l.length → t ≤ (l.getD i (0, 0)).1 := fun i h1 h2 => by have := HB.out.2 i h1 h2; simpa using this
    by_cases hlt : r1 < r2
    · have HO := Lib.hid (over_of HFT.out k4 hlt a1 a2 a3 a4)
      have d2 : decide (r2 ≤ r1) = false := by simp; omega
      clear a1 a2 a3 a4
      go_wp2
      go_ret2
      exact ⟨r1, r2, rfl, HO.out, by rw [← hW0, ← drewN_add]; exact b1⟩
    · have HO := Lib.hid (over_far (by omega) a1 a4)
      have d2 : decide (r2 ≤ r1) = true := by simp; omega
      clear a1 a2 a3 a4
      go_wp2
      go_ret2
      exact ⟨0, 0, rfl, HO.out, by rw [← hW0, ← drewN_add]; exact b1⟩

end Go.Proofs.Ythmjbdpkdomofaa
/- Contracts of the answer's Over and Spans. -/

namespace Go.Hm
/-- What a walk through the first k spans has seen. -/
def Seen (l : List (Int × Int)) (f t : Int) (k : Nat) (first : Int) (last : Nat) : Prop :=
  (first = -1 ∧ last = 0 ∧ ∀ i, i < k → ¬ hasS (l.getD i (0, 0)) f t) ∨
  (∃ a : Nat, first = (a : Int) ∧ a < last ∧ last ≤ k ∧ hasS (l.getD a (0, 0)) f t ∧ hasS (l.getD (last - 1) (0, 0)) f t ∧ (∀ i, i < a → ¬ hasS (l.getD i (0, 0)) f t) ∧ ∀ i, last ≤ i → i < k → ¬ hasS (l.getD i (0, 0)) f t)
theorem Seen.zero (l : List (Int × Int)) (f t : Int) : Seen l f t 0 (-1) 0 := .inl ⟨rfl, rfl, fun i h => by omega⟩
theorem Seen.no {l : List (Int × Int)} {f t : Int} {k : Nat} {first : Int} {last : Nat} (h : Seen l f t k first last) (hn : ¬ hasS (l.getD k (0, 0)) f t) : Seen l f t (k + 1) first last := by
  rcases h with ⟨h1, h2, h3⟩ | ⟨a, h1, h2, h3, h4, h5, h6, h7⟩
  · refine .inl ⟨h1, h2, fun i hi => ?_⟩
    by_cases e : i = k
    · subst e; exact hn
    · exact h3 i (by omega)
  · refine .inr ⟨a, h1, h2, by omega, h4, h5, h6, fun i hi hi2 => ?_⟩
    by_cases e : i = k
    · subst e; exact hn
    · exact h7 i hi (by omega)
theorem Seen.first {l : List (Int × Int)} {f t : Int} {k : Nat} {first : Int} {last : Nat} (h : Seen l f t k first last) (hf : first < 0) (hy : hasS (l.getD k (0, 0)) f t) : Seen l f t (k + 1) (k : Int) (k + 1) := by
  rcases h with ⟨h1, h2, h3⟩ | ⟨a, h1, _⟩
  · exact .inr ⟨k, rfl, by omega, by omega, hy, by simpa using hy, h3, fun i hi hi2 => by omega⟩
  · omega
theorem Seen.more {l : List (Int × Int)} {f t : Int} {k : Nat} {first : Int} {last : Nat} (h : Seen l f t k first last) (hf : ¬ first < 0) (hy : hasS (l.getD k (0, 0)) f t) : Seen l f t (k + 1) first (k + 1) := by
  rcases h with ⟨h1, h2, h3⟩ | ⟨a, h1, h2, h3, h4, h5, h6, h7⟩
  · omega
  · exact .inr ⟨a, h1, by omega, by omega, h4, by simpa using hy, h6, fun i hi hi2 => by omega⟩
theorem Seen.over {l : List (Int × Int)} (hu : UpS l) {f t : Int} {first : Int} {last : Nat} (h : Seen l f t l.length first last) : (first < 0 → IsOver l f t 0 0) ∧ (¬ first < 0 → ∃ a : Nat, first = (a : Int) ∧ IsOver l f t a last) := by
  rcases h with ⟨h1, h2, h3⟩ | ⟨a, h1, h2, h3, h4, h5, h6, h7⟩
  · exact ⟨fun _ => over_none h3, fun hh => by omega⟩
  · refine ⟨fun hh => by omega, fun _ => ⟨a, h1, by omega, h3, .inl h2, fun i hi => ⟨fun hh => has_between hu hh.1 (by omega) (by omega) h4 h5, fun hh => ?_⟩⟩⟩
    refine ⟨?_, ?_⟩
    · rcases Nat.lt_or_ge i a with h | h
      · exact absurd hh (h6 i h)
      · exact h
    · rcases Nat.lt_or_ge i last with h | h
      · exact h
      · exact absurd hh (h7 i h hi)
theorem has_maxmin {x : Int × Int} {f t : Int} (hx : x.1 < x.2) : (if x.1 < f then f else x.1) < (if t < x.2 then t else x.2) ↔ hasS x f t := by
  unfold hasS
  split <;> split <;> omega

end Go.Hm

namespace Go.Proofs.Ythmjbdpkdomofaa
open Go.RowKit Go.Hm

set_option maxHeartbeats 1000000 in
set_option maxRecDepth 100000 in
theorem rover_any {w : World} {A : Option Addr} {n c : Nat} {l : List (Int × Int)} {f t : Int} (hr : Reads w w.heap.size 2 A n (pairs l)) (hu : UpS l) (hn : n ≤ 4611686018427387903) :
    Calls Try.prog 28 #[.slice A n c, .int .i64 f, .int .i64 t] w (LOverPost l f t w) := by
  obtain rfl := hr.lenP
  have HU := Lib.hid hu
  clear hu
  go_enter Try.func28, Try.ntmps28
  go_wp2
  go_loopw [8, 9, 10] (fun x y z wr => ∃ (first : Int) (last k q : Nat), x = .int .i64 first ∧ y = .int .i64 (last : Int) ∧ z = .int .i64 (k : Int) ∧ k ≤ l.length ∧ wr = w.drewN q ∧ Hid (Seen l f t k first last)) (fun _ _ z _ => l.length - (intOf z).toNat)
  case atStart => exact ⟨-1, 0, 0, 0, rfl, rfl, rfl, by omega, rfl, Lib.hid (Seen.zero l f t)⟩
  case round =>
    obtain ⟨first, last, k, q, rfl, rfl, rfl, hk, rfl, H⟩ := hrel
    by_cases hlt : k < l.length
    · obtain ⟨ad, rfl, hb, h1, h2⟩ := (hr.drewN q).pair2 hlt
      have hup := HU.out.2 k hlt
      have M := has_maxmin (f := f) (t := t) hup
      have N1 := Lib.hid H.out.no
      have N2 := Lib.hid H.out.first
      have N3 := Lib.hid H.out.more
      generalize hasS (l.getD k (0, 0)) f t = ph at *
      generalize (l.getD k (0, 0)).1 = y1 at *
      generalize (l.getD k (0, 0)).2 = y2 at *
      have hiz : (k : Int) < (l.length : Int) := by omega
      clear H hup
      have hbb : (ad.add (k * 2)).block < (w.drewN q).drew.heap.size := by rw [block_of_add]; exact hb
      have C1 := Lib.hid (cell_new h1 hbb)
      have C2 := Lib.hid (cell_new h2 hbb)
      go_wp2_with fail
      refine wp_region_up New [(true, 0), (true, 1), (true, 2), (true, 3), (true, 4), (true, 5), (true, 6), (true, 7), (true, 8), (true, 9), (true, 10), (true, 11), (true, 12), (true, 13), (true, 14)]
        New.refl New.trans (by kernel_rfl) (by kernel_rfl) (by kernel_rfl) (by kernel_rfl) ?_
      repeat (first
        | (refine up_quiet rfl rfl (v := ?_) (fun W hW => ?_) ?_; rotate_left; (have g1 := C1.out W hW; have g2 := C2.out W hW; go_simp <;> with_reducible rfl); simp only [Act.put, List.setIfInBounds_toArray, List.set_cons_zero, List.set_cons_succ]))
      refine up_nil ?_
      have HM := Lib.hid M
      clear M
      go_wp2
      · rename_i x1 x2
        go_roundw
        case rel => exact ⟨(k : Int), k + 1, k + 1, q + 1, rfl, by go_num, by go_num, by omega, rfl, Lib.hid (N2.out x2 (HM.out.1 (by first | exact x1 | (split <;> split <;> omega))))⟩
        case measure => simp [intOf]; omega
      · rename_i x1 x2
        go_roundw
        case rel => exact ⟨first, k + 1, k + 1, q + 1, rfl, by go_num, by go_num, by omega, rfl, Lib.hid (N3.out (by omega) (HM.out.1 (by first | exact x1 | (split <;> split <;> omega))))⟩
        case measure => simp [intOf]; omega
      · rename_i x1
        go_roundw
        case rel => exact ⟨first, last, k + 1, q + 1, rfl, rfl, by go_num, by omega, rfl, Lib.hid (N1.out (fun hh => by have := HM.out.2 hh; omega))⟩
        case measure => simp [intOf]; omega
    · obtain rfl : k = l.length := by omega
      obtain ⟨o1, o2⟩ := H.out.over HU.out
      have O1 := Lib.hid o1
      have O2 := Lib.hid o2
      clear H o1 o2
      by_cases hf : first < 0
      · have o := Lib.hid (O1.out hf)
        clear O1 O2
        go_wp2
        go_ret2
        exact ⟨0, 0, rfl, o.out, new_drewN _ _⟩
      · obtain ⟨a, rfl, o⟩ := O2.out hf
        have o := Lib.hid o
        clear O1 O2 hf
        go_wp2
        go_ret2
        exact ⟨a, last, rfl, o.out, new_drewN _ _⟩

end Go.Proofs.Ythmjbdpkdomofaa
/- The contracts of pick.Groups and the answer's Groups. -/

namespace Go.Proofs.Ythmjbdpkdomofaa
open Go Go.RowKit Go.Hm
abbrev fV (Ac : Option Addr) (cc : Nat) (L : List ColS) (r : Int) (Ag : Option Addr) (cg : Nat) (G : List GrD) : Value := .agg #[.slice Ac L.length cc, .int .i64 r, .slice Ag G.length cg]
def pairN (p : Nat × Nat) : Value := .tuple #[.int .i64 (p.1 : Int), .int .i64 (p.2 : Int)]

section
variable {w : World} {Ac : Option Addr} {cc : Nat} {L : List ColS} {r : Int} {Ag : Option Addr} {cg : Nat} {G : List GrD} {Aq : Option Addr} {cq : Nat} {Q : List Int} {f t : Int}
set_option maxHeartbeats 4000000 in
set_option maxRecDepth 100000 in
theorem pgroups_any (h : FQ w Ac cc L r Ag cg G Aq cq Q) :
    Calls Try.prog 11 #[.agg #[.slice Ac L.length cc, .int .i64 r, .slice Ag G.length cg], qV Aq cq Q f t] w (NewPost (pairN (groupsQ (okQ (footP L r G) Q f t) (footP L r G) f t)) w) := by
  have P1 := Lib.hid (fun (W : World) (hW : New w W) => pfits_any (f := f) (t := t) (h.later hW))
  have S1 := Lib.hid (fun (W : World) (hW : New w W) => groupSpans_any (r := r) (cc := cc) (cg := cg) (h.later hW).foot h.fewG)
  have hfew := h.fewG
  have OV := Lib.hid (fun (e : okQ (footP L r G) Q f t = true) => And.intro (okQ_foot e) (gSpans_up (okQ_foot e)))
  clear h
  obtain ⟨X, hX⟩ : ∃ X, X = groupsQ (okQ (footP L r G) Q f t) (footP L r G) f t := ⟨_, rfl⟩
  rw [← hX]
  generalize footP L r G = F at *
  generalize okQ F Q f t = M at *
  have B0 := (Blk.new w 25 #[.slice Ac L.length cc, .int .i64 r, .slice Ag G.length cg]).alloc (.cells #[.slice Aq Q.length cq, .int .i64 f, .int .i64 t] 28)
  have B1 := Blk.new (w.alloc (.cells #[.slice Ac L.length cc, .int .i64 r, .slice Ag G.length cg] 25)) 28 #[.slice Aq Q.length cq, .int .i64 f, .int .i64 t]
  have b0 := new2 w (.cells #[.slice Ac L.length cc, .int .i64 r, .slice Ag G.length cg] 25) (.cells #[.slice Aq Q.length cq, .int .i64 f, .int .i64 t] 28)
  simp only [World.size_alloc] at B1
  obtain ⟨x0, x1, x2⟩ := ccells B0
  obtain ⟨y0, y1, y2⟩ := ccells B1
  have HX := Lib.hid hX
  clear hX
  unfold pairN
  go_enter Try.func11, Try.ntmps11
  go_wp2_with fail
  refine (P1.out _ b0).mono ?_
  rintro e w1 ⟨rfl, b1⟩
  have B0 := B0.below b1 B0.lt
  have B1 := B1.below b1 B1.lt
  have b01 := New.trans b0 b1
  clear x0 x1 x2 y0 y1 y2 b0 b1 P1
  cases M with
  | false =>
    have e1 : X = (0, 0) := HX.out
    subst e1
    go_wp2
    go_ret2
    exact ⟨rfl, b01⟩
  | true =>
    obtain ⟨hfo, hup⟩ := OV.out rfl
    have F3 := Lib.hid (fun (W : World) (hW : New w1 W) => And.intro (B0.below hW B0.lt) (B1.below hW B1.lt))
    have HFo := Lib.hid hfo
    have HUp := Lib.hid hup
    clear hfo hup OV B0 B1
    go_wp2_with fail
    refine wp_region_up New [(true, 0), (true, 2), (true, 3), (true, 4), (true, 5), (false, 1), (false, 6), (true, 7), (true, 8), (true, 9), (true, 10)]
      New.refl New.trans (by kernel_rfl) (by kernel_rfl) (by kernel_rfl) (by kernel_rfl) ?_
    have hU := New.drew w1
    repeat (first
      | (refine up_quiet rfl rfl (v := ?_) (fun W hQ => ?_) ?_; rotate_left; (obtain ⟨F1, F2⟩ := F3.out W (New.trans hU hQ); obtain ⟨x0, x1, x2⟩ := ccells F1; obtain ⟨y0, y1, y2⟩ := ccells F2; clear F1 F2; go_simp <;> with_reducible rfl); simp only [Act.put, List.setIfInBounds_toArray, List.set_cons_zero, List.set_cons_succ]))
    refine up_call rfl rfl (fun K hK => ?_)
    go_simp
    refine (S1.out _ (New.trans b01 hU)).mono ?_
    rintro e w2 ⟨A2, c2, l, rfl, hl, hlc, hgs, o2, b2⟩
    refine hK _ _ b2 ?_
    clear hK
    replace hU := New.trans hU b2
    have hls := hgs HFo.out
    subst hls
    have OP := Lib.hid (lover_any (c := c2) (f := f) (t := t) (Reads.of_own o2) HUp.out (by omega))
    clear o2 b2 hgs S1
    refine up_call rfl rfl (fun K hK => ?_)
    go_simp
    refine OP.out.mono ?_
    rintro e w3 ⟨a, b, rfl, hov, b3⟩
    refine hK _ _ b3 ?_
    clear hK
    replace hU := New.trans hU b3
    have hXX := HX.out
    unfold groupsQ at hXX
    rw [if_pos rfl, ovr_is hov] at hXX
    subst hXX
    clear OP hov b3 HX HUp HFo
    repeat (first
      | (refine up_quiet rfl rfl (v := ?_) (fun W hQ => ?_) ?_; rotate_left; (go_simp <;> with_reducible rfl); simp only [Act.put, List.setIfInBounds_toArray, List.set_cons_zero, List.set_cons_succ]))
    refine up_nil ?_
    go_wp2
    go_ret2
    exact ⟨rfl, New.trans b01 hU⟩
set_option maxHeartbeats 4000000 in
set_option maxRecDepth 100000 in
theorem rpgroups_any (h : FQ w Ac cc L r Ag cg G Aq cq Q) :
    Calls Try.prog 12 #[.agg #[.slice Ac L.length cc, .int .i64 r, .slice Ag G.length cg], qV Aq cq Q f t] w (NewPost (pairN (groupsQ (okQ (footP L r G) Q f t) (footP L r G) f t)) w) := by
  have P1 := Lib.hid (fun (W : World) (hW : New w W) => rpfits_any (f := f) (t := t) (h.later hW))
  have HG := Lib.hid h.foot.groups
  have hfew := h.fewG
  have OV := Lib.hid (fun (e : okQ (footP L r G) Q f t = true) => And.intro (okQ_foot e) (gSpans_up (okQ_foot e)))
  have hGl : (footP L r G).groups.length = G.length := by unfold footP; simp
  have GM := fun (k : Nat) (hk : k < G.length) => show ((footP L r G).groups.getD k groupZ).1 = (G.getD k grZ).1 from by
    unfold footP
    rw [getD_mapX grP G grZ groupZ hk]
    rfl
  have AH := Lib.hid (fun (k : Nat) (hk : k < G.length) (e : FootOk (footP L r G)) => show 0 ≤ aheadR (footP L r G).groups k ∧ aheadR (footP L r G).groups (k + 1) = aheadR (footP L r G).groups k + (G.getD k grZ).1 ∧ aheadR (footP L r G).groups (k + 1) ≤ 65536 ∧ 1 ≤ (G.getD k grZ).1 from by
    have := foot_ahead e (k := k) (by rw [hGl]; exact hk)
    rw [GM k hk] at this
    exact ⟨this.1, this.2.1, this.2.2.1, this.2.2.2⟩)
  have GT := Lib.hid (fun (k : Nat) (hk : k < G.length) => gSpans_take (F := footP L r G) (k := k) (by rw [hGl]; exact hk))
  have GL := Lib.hid (show (gSpans (footP L r G)).length = G.length by rw [gSpans_len, hGl])
  have A0 : Hid (aheadR (footP L r G).groups 0 = 0) := Lib.hid rfl
  have hG6 := fun (e : FootOk (footP L r G)) => show G.length ≤ 65536 from by
    have := (rows_sum_le e)
    rwa [hGl] at this
  clear h GM hGl
  obtain ⟨X, hX⟩ : ∃ X, X = groupsQ (okQ (footP L r G) Q f t) (footP L r G) f t := ⟨_, rfl⟩
  rw [← hX]
  unfold groupsQ at hX
  generalize okQ (footP L r G) Q f t = M at *
  generalize hAR : aheadR (footP L r G).groups = AR at *
  generalize hGS : gSpans (footP L r G) = GS at *
  generalize FootOk (footP L r G) = OK at *
  clear hAR hGS
  have B0 := (Blk.new w 25 #[.slice Ac L.length cc, .int .i64 r, .slice Ag G.length cg]).alloc (.cells #[.slice Aq Q.length cq, .int .i64 f, .int .i64 t] 28)
  have B1 := Blk.new (w.alloc (.cells #[.slice Ac L.length cc, .int .i64 r, .slice Ag G.length cg] 25)) 28 #[.slice Aq Q.length cq, .int .i64 f, .int .i64 t]
  have b0 := new2 w (.cells #[.slice Ac L.length cc, .int .i64 r, .slice Ag G.length cg] 25) (.cells #[.slice Aq Q.length cq, .int .i64 f, .int .i64 t] 28)
  simp only [World.size_alloc] at B1
  obtain ⟨x0, x1, x2⟩ := ccells B0
  obtain ⟨y0, y1, y2⟩ := ccells B1
  have HX := Lib.hid hX
  clear hX
  unfold pairN
  go_enter Try.func12, Try.ntmps12
  go_wp2_with fail
  refine (P1.out _ b0).mono ?_
  rintro e w1 ⟨rfl, b1⟩
  have B0 := B0.below b1 B0.lt
  have B1 := B1.below b1 B1.lt
  have b01 := New.trans b0 b1
  clear x0 x1 x2 y0 y1 y2 b0 b1 P1
  cases M with
  | false =>
    have e1 : X = (0, 0) := HX.out
    subst e1
    go_wp2
    go_ret2
    exact ⟨rfl, b01⟩
  | true =>
    obtain ⟨hfo, hup⟩ := OV.out rfl
    have HUp := Lib.hid hup
    have HX : Hid (X = ovr GS f t) := Lib.hid (by have := HX.out; simpa using this)
    have AHk := Lib.hid (fun (k : Nat) (hk : k < G.length) => AH.out k hk hfo)
    have hG65 := hG6 hfo
    clear hfo hup OV AH hG6
    go_wp2_with fail
    go_loopw [7, 8, 9] (fun v a i wr => ∃ (k : Nat) (A : Option Addr) (d : Nat), k ≤ G.length ∧ i = .int .i64 (k : Int) ∧ v = .slice A k d ∧ a = .int .i64 (AR k) ∧ wr.ownsRow w.heap.size 44 2 (.slice A k d) k (pairs (GS.take k))
      ∧ Blk wr w.heap.size 25 #[.slice Ac L.length cc, .int .i64 r, .slice Ag G.length cg] ∧ Blk wr (w.heap.size + 1) 28 #[.slice Aq Q.length cq, .int .i64 f, .int .i64 t] ∧ New w wr) (fun _ _ i _ => G.length - (intOf i).toNat)
    case atStart => exact ⟨0, none, 0, Nat.zero_le _, rfl, rfl, by rw [A0.out], by rw [List.take_zero]; exact row_nil, B0, B1, b01⟩
    case round =>
      obtain ⟨k, A, d, hk, rfl, rfl, rfl, o, B0q, B1q, b⟩ := hrel
      clear B0 B1 b01 A0
      obtain ⟨x0, x1, x2⟩ := ccells B0q
      by_cases hlt : k < G.length
      · obtain ⟨ad, rfl, hb, -⟩ := (Reads.later HG.out b).gr2 hlt
        have FG := Lib.hid (fun (W : World) (hW : New w W) => show W.cell? (ad.add (k * 2)) = some (.int .i64 (G.getD k grZ).1) from by
          obtain ⟨al', e, _, f, _⟩ := (Reads.later HG.out hW).gr2 hlt
          injection e with e
          subst e
          exact f)
        obtain ⟨a1, a2, a3, a4⟩ := AHk.out k hlt
        have gtk := GT.out k hlt
        rw [a2] at gtk a3
        have HGT := Lib.hid gtk
        have HA2 := Lib.hid a2
        have z0 := b.size
        clear gtk a2 hb
        generalize (G.getD k grZ).1 = gr at *
        have d0 := FG.out _ b
        have O2 := Lib.hid o
        clear o
        go_wp2_with (refine wpList_pushR elP rfl (.tmp 22) (.tmp 33) rfl (W := w) (B := w.heap.size) (base := w.heap.size) (n := k) O2.out rfl rfl b (Nat.le_refl _) z0 rfl (by simp [Value.oneCell']) (by omega) (by simp only [maxLen]; omega) ?_
                     intro A' c' w' _ _ o' g' b' _ _
                     have d0' := FG.out _ b'
                     have B0' := B0q.grown g' (fun e => row_blk_ne O2.out B0q (by decide) e.symm)
                     have B1' := B1q.grown g' (fun e => row_blk_ne O2.out B1q (by decide) e.symm)
                     obtain ⟨x0', x1', x2'⟩ := ccells B0')
        go_roundw
        case rel => exact ⟨k + 1, A', c', by omega, by go_num, rfl, by rw [HA2.out], by rw [HGT.out, pairs_snoc]; exact o', B0', B1', b'⟩
        case measure => simp [intOf]; omega
      · have hkk : k = G.length := by omega
        subst hkk
        rw [List.take_of_length_le (by rw [GL.out]; exact Nat.le_refl _)] at o
        have OP := Lib.hid (rover_any (c := d) (f := f) (t := t) (Reads.of_own o) HUp.out (by omega))
        obtain ⟨y0, y1, y2⟩ := ccells B1q
        clear o
        go_wp2_with fail
        refine OP.out.mono ?_
        rintro e w3 ⟨a, b', rfl, hov, b3⟩
        have hXX := HX.out
        rw [ovr_is hov] at hXX
        subst hXX
        clear OP hov HX HUp x0 x1 x2 y0 y1 y2
        go_wp2_with fail
        go_ret2
        exact ⟨rfl, New.trans b b3⟩
end

end Go.Proofs.Ythmjbdpkdomofaa
/- The contract of pick.Parts. -/

namespace Go.Hm
open Go Go.RowKit
/-- x[:m], of records of any size. -/
theorem slice_hS {P : Program} {t : TypeId} {sz : Nat} (ht : P.underlying t = some (.slice (P.elem t))) (hs : ∀ w, (sizeOf (P.elem t)).run P w = .ok sz w) (A : Option Addr) (n c m : Nat) (hc : m ≤ c) (w : World) :
    (Instr.sliceAt t (.slice A n c) none (some (.int .i64 (m : Int))) none).run P w = .ok (.slice A m c) w := by
  rw [run_sliceAt_slice w t _ _ _ _ ht, run_slice_h w t A n c ht .i64 (m : Int) (by omega) (by omega), hs]
  have e : ∀ a : Addr, a.add 0 = a := fun a => by simp [Addr.add]
  cases A <;> simp [Result.andThen, sliced, e]

end Go.Hm

namespace Go.Proofs.Ythmjbdpkdomofaa
open Go Go.RowKit Go.Hm
def PartsPost (l : List PartS) (w : World) (e : Ending) (w' : World) : Prop :=
  ∃ A n c, e = .returned (.slice A n c) ∧ n = l.length ∧ w'.ownsRow w.heap.size 40 4 (.slice A n c) n (recs partV l) ∧ New w w'
theorem elPt : ElT Try.prog 34 40 (.agg #[.int .i64 0, .int .i64 0, .int .i64 0, .int .i64 0]) 4 32 := ⟨by kernel_rfl, by kernel_rfl, rfl, by omega⟩
theorem sSp : Try.prog.underlying 41 = some (.slice (Try.prog.elem 41)) := by kernel_rfl
theorem zSp (w : World) : (sizeOf (Try.prog.elem 41)).run Try.prog w = .ok 2 w := by kernel_rfl
theorem recs_partV_snoc (D : List PartS) (x : PartS) : recs partV (D ++ [x]) = recs partV D ++ [.int .i64 x.1, .int .i64 x.2.1, .int .i64 x.2.2.1, .int .i64 x.2.2.2] := by
  rw [recs_append]
  rfl
theorem partG_of {F : FootS} (h : FootOk F) {f t : Int} {g : Nat} (hg : g < F.groups.length) {c : Int} (h0 : 0 ≤ c) (h1 : c < (F.cols.length : Int)) {x y : Nat}
    (ho : IsOver (spansL 0 (pagesAt F.groups g c.toNat)) (f - aheadR F.groups g) (t - aheadR F.groups g) x y) : partG F f t g c = ((g : Int), c, (x : Int), (y : Int)) := by
  unfold partG
  rw [spansF_in h hg h0 h1]
  rw [spansL_steps] at ho
  have := over_shift ho
  rw [← spansL_steps] at this
  rw [ovr_is this]
theorem partG_of' {F : FootS} {f t : Int} {g : Nat} {c : Int} {x y : Nat}
    (ho : IsOver (spansF F (g : Int) c) f t x y) : partG F f t g c = ((g : Int), c, (x : Int), (y : Int)) := by
  unfold partG
  rw [ovr_is ho]
theorem groupsQ_le {F : FootS} {Q : List Int} {f t : Int} (h : okQ F Q f t = true) : (groupsQ true F f t).1 ≤ (groupsQ true F f t).2 ∧ (groupsQ true F f t).2 ≤ F.groups.length := by
  have ho := ovr_spec (gSpans_up (okQ_foot h)) f t
  unfold groupsQ
  rw [if_pos rfl]
  have := ho.2.1
  rw [gSpans_len] at this
  exact ⟨ho.1, this⟩

section
variable {w : World} {Ac : Option Addr} {cc : Nat} {L : List ColS} {r : Int} {Ag : Option Addr} {cg : Nat} {G : List GrD} {Aq : Option Addr} {cq : Nat} {Q : List Int} {f t : Int}
set_option maxHeartbeats 8000000 in
set_option maxRecDepth 100000 in
theorem pparts_any (h : FQ w Ac cc L r Ag cg G Aq cq Q) :
    Calls Try.prog 14 #[.agg #[.slice Ac L.length cc, .int .i64 r, .slice Ag G.length cg], qV Aq cq Q f t] w (PartsPost (partsQ (okQ (footP L r G) Q f t) (footP L r G) Q f t) w) := by
  have P1 := Lib.hid (fun (W : World) (hW : New w W) => pgroups_any (f := f) (t := t) (h.later hW))
  have S1 := Lib.hid (fun (W : World) (hW : New w W) => groupSpans_any (r := r) (cc := cc) (cg := cg) (h.later hW).foot h.fewG)
  have PS := Lib.hid (fun (W : World) (hW : New w W) (e : FootOk (footP L r G)) (k j : Nat) (hk : k < G.length) (hj : j < L.length) => pageSpans_any (r := r) (cc := cc) (cg := cg) (h.later hW).foot h.stat e (fun g hg => (h.caps g hg).1) hk hj)
  have hGl : (footP L r G).groups.length = G.length := by unfold footP; simp
  have HQ := Lib.hid h.cols
  have H8 := Lib.hid h.q8
  have hfewq := h.fewq
  have hfewG := h.fewG
  have OV := fun (e : okQ (footP L r G) Q f t = true) => And.intro (okQ_foot e) (And.intro (okQ_cols e) (groupsQ_le e))
  have GA := fun (e : FootOk (footP L r G)) (k : Nat) (hk : k < G.length) => And.intro (gSpans_at (F := footP L r G) (k := k) (by rw [hGl]; exact hk)) (foot_ahead e (k := k) (by rw [hGl]; exact hk))
  have PG := fun (e : FootOk (footP L r G)) (k : Nat) (hk : k < G.length) (c : Int) (h0 : 0 ≤ c) (h1 : c < ((footP L r G).cols.length : Int)) (x y : Nat) (ho : IsOver (spansL 0 (pagesAt (footP L r G).groups k c.toNat)) (f - aheadR (footP L r G).groups k) (t - aheadR (footP L r G).groups k) x y) => partG_of e (by rw [hGl]; exact hk) h0 h1 ho
  have UP := fun (e : FootOk (footP L r G)) (k j : Nat) (hk : k < G.length) (hj : j < L.length) => show UpS (spansL 0 (pagesAt (G.map grP) k j)) from by
    obtain ⟨ty, nu, hc⟩ := chunk_at e (g := k) (by rw [hGl]; exact hk) (c := (j : Int)) (by omega) (by unfold footP; dsimp only; omega)
    rw [Int.toNat_natCast] at hc
    exact spansL_up hc 0
  have SPN := fun (e : FootOk (footP L r G)) (k j : Nat) (hk : k < G.length) (hj : j < L.length) => show (spansL 0 (pagesAt (G.map grP) k j)).length ≤ 65536 from by
    obtain ⟨ty, nu, hc⟩ := chunk_at e (g := k) (by rw [hGl]; exact hk) (c := (j : Int)) (by omega) (by unfold footP; dsimp only; omega)
    rw [Int.toNat_natCast] at hc
    have h1 := (rowsL_pos hc.1).2.1
    have h2 := hc.2
    have h3 := foot_rows e (k := k) (by rw [hGl]; exact hk)
    have h4 := (foot_ahead e (k := k) (by rw [hGl]; exact hk)).1
    unfold aheadR at h4
    rw [spansL_len]
    have h5 : pagesAt (footP L r G).groups k j = pagesAt (G.map grP) k j := rfl
    rw [h5] at h1 h2
    omega
  obtain ⟨X, hX⟩ : ∃ X, X = partsQ (okQ (footP L r G) Q f t) (footP L r G) Q f t := ⟨_, rfl⟩
  rw [← hX]
  unfold partsQ at hX
  have hcl : (footP L r G).cols = L := rfl
  have hgg : (footP L r G).groups = G.map grP := rfl
  rw [hgg] at GA PG
  rw [hcl] at PG OV
  clear h hcl hgg
  generalize footP L r G = F at *
  have HX := Lib.hid hX
  have HOV := Lib.hid OV
  have HGA := Lib.hid GA
  have HPG := Lib.hid PG
  have HUP := Lib.hid UP
  have HSPN := Lib.hid SPN
  clear hX OV GA PG UP SPN
  have B0 := (Blk.new w 25 #[.slice Ac L.length cc, .int .i64 r, .slice Ag G.length cg]).alloc (.cells #[.slice Aq Q.length cq, .int .i64 f, .int .i64 t] 28)
  have B1 := Blk.new (w.alloc (.cells #[.slice Ac L.length cc, .int .i64 r, .slice Ag G.length cg] 25)) 28 #[.slice Aq Q.length cq, .int .i64 f, .int .i64 t]
  have b0 := new2 w (.cells #[.slice Ac L.length cc, .int .i64 r, .slice Ag G.length cg] 25) (.cells #[.slice Aq Q.length cq, .int .i64 f, .int .i64 t] 28)
  simp only [World.size_alloc] at B1
  obtain ⟨x0, x1, x2⟩ := ccells B0
  obtain ⟨y0, y1, y2⟩ := ccells B1
  go_enter Try.func14, Try.ntmps14
  go_wp2_with fail
  refine (P1.out _ b0).mono ?_
  rintro e w1 ⟨rfl, b1⟩
  unfold pairN
  have B0 := B0.below b1 B0.lt
  have B1 := B1.below b1 B1.lt
  have b01 := New.trans b0 b1
  clear x0 x1 x2 y0 y1 y2 b0 b1 P1
  obtain ⟨M, hM⟩ : ∃ M, M = okQ F Q f t := ⟨_, rfl⟩
  rw [← hM]
  rw [← hM] at HX
  obtain ⟨a, b, hab⟩ : ∃ a b, groupsQ M F f t = (a, b) := ⟨_, _, rfl⟩
  rw [hab]
  rw [hab] at HX
  have HX : Hid (X = partsTo F Q f t a (b - a)) := HX
  have hz : M = false → b = 0 := fun e => by
    rw [e] at hab
    have : groupsQ false F f t = (0, 0) := rfl
    rw [this] at hab
    injection hab with _ hb
    exact hb.symm
  have hok : M = true → FootOk F ∧ ((∀ c ∈ Q, 0 ≤ c ∧ c < (L.length : Int)) ∧ Q.Nodup ∧ 0 ≤ f ∧ f ≤ t ∧ t ≤ F.rows ∧ Q.length ≤ 64) ∧ a ≤ b ∧ b ≤ F.groups.length := fun e => by
    rw [e] at hab hM
    have := HOV.out hM.symm
    rw [hab] at this
    exact this
  have hbG : b ≤ G.length := by
    cases M with
    | false => rw [hz rfl]; exact Nat.zero_le _
    | true => have := (hok rfl).2.2.2; omega
  have HOK := Lib.hid hok
  have HZ := Lib.hid hz
  have HGL := Lib.hid hGl
  dsimp only
  clear hok hz hM hab HOV hGl
  obtain ⟨x0, x1, x2⟩ := ccells B0
  go_wp2_with fail
  refine (S1.out _ b01).mono ?_
  rintro e w2 ⟨A2, c2, l, rfl, hl, hlc, hgs, o2, b2⟩
  have B0 := B0.below b2 B0.lt
  have B1 := B1.below b2 B1.lt
  have b02 := New.trans b01 b2
  have SLH := fun W => slice_hS sSp zSp A2 G.length c2 b (by omega) W
  have R2 := Lib.hid (Reads.of_own o2)
  have HGS := Lib.hid hgs
  clear x0 x1 x2 S1 b01 b2 o2 hgs
  go_wp2_with fail
  clear SLH
  go_loopw [5, 25] (fun v i wr => ∃ (k n : Nat) (A : Option Addr) (d : Nat), k ≤ b ∧ i = .int .i64 (k : Int) ∧ v = .slice A n d ∧ n ≤ 64 * k ∧ Hid (n = (partsTo F Q f t a (k - a)).length) ∧ wr.ownsRow w2.heap.size 40 4 (.slice A n d) n (recs partV (partsTo F Q f t a (k - a)))
    ∧ Blk wr w.heap.size 25 #[.slice Ac L.length cc, .int .i64 r, .slice Ag G.length cg] ∧ Blk wr (w.heap.size + 1) 28 #[.slice Aq Q.length cq, .int .i64 f, .int .i64 t] ∧ New w2 wr) (fun _ i _ => b - (intOf i).toNat)
  case atStart => exact ⟨0, 0, none, 0, Nat.zero_le _, rfl, rfl, Nat.zero_le _, Lib.hid (by simp [partsTo]), by rw [Nat.zero_sub]; exact row_nil, B0, B1, New.refl _⟩
  case round =>
    obtain ⟨k, n, A, d, hk, rfl, rfl, hn, hnl, o, B0q, B1q, b2⟩ := hrel
    clear B0 B1
    by_cases hlt : k < b
    · have hkG : k < G.length := by omega
      have hMt : M = true := by
        cases M with
        | false => have := HZ.out rfl; omega
        | true => rfl
      obtain ⟨hFo, ⟨hQc, -, hf0, hft, htr, hQ64⟩, hab, hbF⟩ := HOK.out hMt
      have h65 := rows_sum_le hFo
      have hls := HGS.out hFo
      subst hls
      obtain ⟨g1, g2⟩ := HGA.out hFo k hkG
      obtain ⟨ad2, rfl, -, d0, d1⟩ := (Reads.later R2.out b2).pair2 hkG
      rw [g1] at d0 d1
      dsimp only at d0 d1
      have HG2 := Lib.hid g2
      have ga0 := g2.1
      have gaN := g2.2.2.1
      have gaS := g2.2.1
      have gaP := g2.2.2.2
      have ga1 : aheadR (G.map grP) k ≤ 65536 := by omega
      have htF : t ≤ 65536 := by have := hFo.2.2.2.1; omega
      clear g1 g2 gaS gaP
      generalize hAk : aheadR (G.map grP) k = Ak at *
      generalize aheadR (G.map grP) (k + 1) = Ak1 at *
      have ha : New wr (wr.alloc (.cells #[.int .i64 Ak, .int .i64 Ak1] 44)) := (Below.refl _ _).alloc (Nat.le_refl _) _
      have BR := Blk.new wr 44 #[.int .i64 Ak, .int .i64 Ak1]
      have B0r := B0q.below ha B0q.lt
      have B1r := B1q.below ha B1q.lt
      have o3 := row_later o ha
      have b3 := New.trans b2 ha
      have hkb : (k : Int) < (b : Int) := by omega
      have hz2 := b2.size
      clear o B0q B1q b2
      by_cases hka : k < a
      · have hkai : (k : Int) < (a : Int) := by omega
        go_wp2_with fail
        go_roundw
        case rel => exact ⟨k + 1, n, A, d, by omega, by go_num, rfl, by omega, by rw [show k + 1 - a = k - a by omega]; exact hnl, by rw [show k + 1 - a = k - a by omega]; exact o3, B0r, B1r, b3⟩
        case measure => simp [intOf]; omega
      · have hkai : ¬ (k : Int) < (a : Int) := by omega
        obtain ⟨y0, y1, y2⟩ := ccells B1r
        go_wp2_with fail
        clear y0 y1 y2 d0 d1
        have hgR : w2.heap.size ≤ wr.heap.size := hz2
        generalize wr.heap.size = gR at *
        have hkk : k - a + a = k := by omega
        go_loopw [5, 36] (fun v i wr => ∃ (j n : Nat) (A : Option Addr) (d : Nat), j ≤ Q.length ∧ i = .int .i64 (j : Int) ∧ v = .slice A n d ∧ n ≤ 64 * k + j ∧ Hid (n = (partsTo F Q f t a (k - a) ++ (Q.take j).map (partG F f t k)).length) ∧ wr.ownsRow w2.heap.size 40 4 (.slice A n d) n (recs partV (partsTo F Q f t a (k - a) ++ (Q.take j).map (partG F f t k)))
          ∧ Blk wr gR 44 #[.int .i64 Ak, .int .i64 Ak1] ∧ Blk wr w.heap.size 25 #[.slice Ac L.length cc, .int .i64 r, .slice Ag G.length cg] ∧ Blk wr (w.heap.size + 1) 28 #[.slice Aq Q.length cq, .int .i64 f, .int .i64 t] ∧ New w2 wr) (fun _ i _ => Q.length - (intOf i).toNat)
        case atStart => exact ⟨0, n, A, d, Nat.zero_le _, rfl, rfl, by omega, by simpa using hnl, by simpa using o3, BR, B0r, B1r, b3⟩
        case round =>
          clear hnl o3 BR B0r B1r b3 hn ha
          obtain ⟨j, n, A, d, hj, rfl, rfl, hn, hnl, o, BR, B0q, B1q, b⟩ := hrel
          by_cases hlj : j < Q.length
          · obtain ⟨aq, rfl, -, q0⟩ := (Reads.later HQ.out (New.trans b02 b)).int hlj
            have hqm := mem_getDF (0 : Int) hlj
            obtain ⟨c0, c1⟩ := hQc _ hqm
            have htk := take_snoc Q j 0 hlj
            have hmp : (Q.take (j + 1)).map (partG F f t k) = (Q.take j).map (partG F f t k) ++ [partG F f t k (Q.getD j 0)] := by rw [htk, List.map_append]; rfl
            have PGk := HPG.out hFo k hkG (Q.getD j 0) c0 c1
            obtain ⟨cN, hcN⟩ := Int.eq_ofNat_of_zero_le c0
            rw [hcN] at q0 c1 hmp PGk
            rw [Int.toNat_natCast, hAk] at PGk
            have hcL : cN < L.length := by omega
            have PSk := Lib.hid (fun (W : World) (hW : New w W) => PS.out W hW hFo k cN hkG hcL)
            have UPk := Lib.hid (HUP.out hFo k cN hkG hcL)
            have hsp := HSPN.out hFo k cN hkG hcL
            have HMP := Lib.hid hmp
            have HPGk := Lib.hid PGk
            have hji : (j : Int) < (Q.length : Int) := by omega
            clear hqm htk hmp PGk c0 hcN
            generalize hSL : spansL 0 (pagesAt (G.map grP) k cN) = SL at *
            have wf : IntKind.i64.wrap (f - Ak) = f - Ak := by rw [IntKind.wrap_i64]; omega
            have wt : IntKind.i64.wrap (t - Ak) = t - Ak := by rw [IntKind.wrap_i64]; omega
            have F3 := Lib.hid (fun (W : World) (hW : New wr W) => And.intro (B0q.below hW B0q.lt) (And.intro (B1q.below hW B1q.lt) (BR.below hW BR.lt)))
            have HO := Lib.hid (fun (W : World) (hW : New wr W) => row_later o hW)
            have hw2 : w2.heap.size ≤ wr.heap.size := b.size
            clear o B0q B1q BR hSL
            go_wp2_with fail
            refine wp_region_up New [(true, 0), (true, 1), (true, 2), (true, 4), (true, 5), (true, 6), (true, 7), (true, 8), (true, 9), (true, 10), (true, 11), (true, 12), (true, 13), (false, 3), (false, 14), (true, 15), (true, 16), (true, 17), (true, 18), (true, 19)]
              New.refl New.trans (by kernel_rfl) (by kernel_rfl) (by kernel_rfl) (by kernel_rfl) ?_
            have hU := New.drew wr
            repeat (first
              | (refine up_quiet rfl rfl (v := ?_) (fun W hQ => ?_) ?_; rotate_left; (obtain ⟨F1, F2, F4⟩ := F3.out W (New.trans hU hQ); obtain ⟨x0, x1, x2⟩ := ccells F1; obtain ⟨y0, y1, y2⟩ := ccells F2; obtain ⟨z0, z1⟩ := cells2 F4; clear F1 F2 F4; go_simp <;> with_reducible rfl); simp only [Act.put, List.setIfInBounds_toArray, List.set_cons_zero, List.set_cons_succ]))
            refine up_call rfl rfl (fun K hK => ?_)
            go_simp
            refine (PSk.out _ (New.trans (New.trans b02 b) hU)).mono ?_
            rintro e w3 ⟨A3, n3, c3, rfl, o3, b3⟩
            refine hK _ _ b3 ?_
            clear hK
            replace hU := New.trans hU b3
            have OP := Lib.hid (lover_any (c := c3) (f := f - Ak) (t := t - Ak) (Reads.of_own o3) UPk.out (by have := (Reads.of_own o3).lenP; omega))
            clear o3 b3
            refine up_call rfl rfl (fun K hK => ?_)
            go_simp
            refine OP.out.mono ?_
            rintro e w4 ⟨x, y, rfl, hov, b4⟩
            refine hK _ _ b4 ?_
            clear hK
            replace hU := New.trans hU b4
            have hpg := HPGk.out x y hov
            have HPT := Lib.hid hpg
            clear OP b4 hov hpg wf wt
            repeat (first
              | (refine up_quiet rfl rfl (v := ?_) (fun W hQ => ?_) ?_; rotate_left; (go_simp <;> with_reducible rfl); simp only [Act.put, List.setIfInBounds_toArray, List.set_cons_zero, List.set_cons_succ]))
            refine up_nil ?_
            have o4 := HO.out _ hU
            obtain ⟨B0s, B1s, BRs⟩ := F3.out _ hU
            have b4 := New.trans b hU
            have O4 := Lib.hid o4
            have hz4 := b4.size
            clear HO F3 hU o4 q0 PSk UPk hsp
            go_wp2_with (refine wpList_pushR elPt rfl (.tmp 58) (.tmp 64) rfl (W := w2) (B := w2.heap.size) (base := w2.heap.size) (n := n) O4.out rfl rfl b4 (Nat.le_refl _) hz4 rfl (by simp [Value.oneCell']) (by omega) (by simp only [maxLen]; omega) ?_
                         intro A' c' w' _ _ o' g' b' _ _
                         have B0t := B0s.grown g' (fun e => row_blk_ne O4.out B0s (by decide) e.symm)
                         have B1t := B1s.grown g' (fun e => row_blk_ne O4.out B1s (by decide) e.symm)
                         have BRt := BRs.grown g' (fun e => row_blk_ne O4.out BRs (by decide) e.symm))
            have o5 : w'.ownsRow w2.heap.size 40 4 (.slice A' (n + 1) c') (n + 1) (recs partV (partsTo F Q f t a (k - a) ++ (Q.take (j + 1)).map (partG F f t k))) := by
              rw [HMP.out, ← List.append_assoc, recs_partV_snoc, HPT.out]
              exact o'
            have hnl5 : Hid (n + 1 = (partsTo F Q f t a (k - a) ++ (Q.take (j + 1)).map (partG F f t k)).length) := Lib.hid (by rw [HMP.out, ← List.append_assoc, List.length_append, ← hnl.out]; rfl)
            go_roundw
            case rel => exact ⟨j + 1, n + 1, A', c', by omega, by go_num, rfl, by omega, hnl5, o5, BRt, B0t, B1t, b'⟩
            case measure => simp [intOf]; omega
          · obtain rfl : j = Q.length := by omega
            have hfin : partsTo F Q f t a (k - a) ++ (Q.take Q.length).map (partG F f t k) = partsTo F Q f t a (k + 1 - a) := by
              rw [List.take_length, show k + 1 - a = (k - a) + 1 by omega, partsTo_snoc, show a + (k - a) = k by omega]
            rw [hfin] at o hnl
            clear hfin
            go_wp2_with fail
            go_roundw
            case rel => exact ⟨k + 1, n, A, d, by omega, by go_num, rfl, by omega, hnl, o, B0q, B1q, b⟩
            case measure => simp [intOf]; omega
    · have hkb : k = b := by omega
      subst hkb
      have O := Lib.hid o
      have hz2 : w.heap.size ≤ w2.heap.size := b02.size
      clear o
      go_wp2_with fail
      go_ret
      rw [HX.out]
      exact ⟨A, n, d, rfl, hnl.out, row_base O.out hz2, New.trans b02 b2⟩
end

end Go.Proofs.Ythmjbdpkdomofaa
/- What a query needs, cut anywhere, and column by column: plain. -/

namespace Go.Proofs.Ythmjbdpkdomofaa
open Go Go.RowKit Go.Hm
theorem sum_swap {α β : Type} (f : α → β → Int) (l : List α) : ∀ m : List β, (l.map fun x => (m.map (f x)).sum).sum = (m.map fun y => (l.map fun x => f x y).sum).sum
  | [] => by simp only [List.map_nil, List.sum_nil]; exact map_sum_zero _ _ (fun _ _ => rfl)
  | y :: m => by
    have ih := sum_swap f l m
    have key : (l.map fun x => ((y :: m).map (f x)).sum).sum = (l.map fun x => f x y).sum + (l.map fun x => (m.map (f x)).sum).sum := by
      clear ih
      induction l with
      | nil => rfl
      | cons x l ihl =>
        simp only [List.map_cons, List.sum_cons] at ihl ⊢
        omega
    rw [key, ih, List.map_cons, List.sum_cons]
theorem sum_add {α : Type} (f g : α → Int) : ∀ l : List α, (l.map f).sum + (l.map g).sum = (l.map fun x => f x + g x).sum
  | [] => rfl
  | x :: l => by
    have := sum_add f g l
    simp only [List.map_cons, List.sum_cons]
    omega
/-- Bytes of the pages of a column in a group that m cuts. -/
def midChunk (F : FootS) (f m t c : Int) (g : Nat) : Int := (((spansL (aheadR F.groups g) (pagesAt F.groups g c.toNat)).zip (pagesAt F.groups g c.toNat)).map (midI f m t)).sum
theorem colBytes_cut {F : FootS} (h : FootOk F) {f m t : Int} (h1 : f ≤ m) (h2 : m ≤ t) {g : Nat} (hg : g < F.groups.length) {c : Int} (h0 : 0 ≤ c) (hc : c < (F.cols.length : Int)) : colBytes F f m c g + colBytes F m t c g = colBytes F f t c g + midChunk F f m t c g := by
  obtain ⟨ty, nu, hk⟩ := chunk_at h hg h0 hc
  exact sizeOver_cut h1 h2 _ _ (fun p hp => (pageB_most.1 (hk.1 p hp)).1.1)
theorem bytes_cut {F : FootS} (h : FootOk F) {cols : List Int} (hc : ∀ c ∈ cols, 0 ≤ c ∧ c < (F.cols.length : Int)) {f m t : Int} (h1 : f ≤ m) (h2 : m ≤ t) :
    bytesI F cols f m + bytesI F cols m t = bytesI F cols f t + (cols.map fun c => ((List.range F.groups.length).map (midChunk F f m t c)).sum).sum := by
  unfold bytesI grBytes
  rw [sum_add, sum_swap (fun c g => midChunk F f m t c g) cols (List.range F.groups.length), sum_add]
  congr 1
  refine List.map_congr_left fun g hg => ?_
  have hg := List.mem_range.1 hg
  rw [sum_add, sum_add]
  congr 1
  exact List.map_congr_left fun c hcm => colBytes_cut h h1 h2 hg (hc c hcm).1 (hc c hcm).2
theorem bytes_cols (F : FootS) (cols : List Int) (f t : Int) : (cols.map fun c => bytesI F [c] f t).sum = bytesI F cols f t := by
  unfold bytesI grBytes
  have e : ∀ c, ((List.range F.groups.length).map fun g => (([c] : List Int).map fun c => colBytes F f t c g).sum) = (List.range F.groups.length).map fun g => colBytes F f t c g := fun c => List.map_congr_left fun g _ => by simp
  simp only [e]
  exact sum_swap (fun c g => colBytes F f t c g) cols (List.range F.groups.length)
theorem bytes_none (F : FootS) (cols : List Int) (f : Int) : bytesI F cols f f = 0 := by
  unfold bytesI grBytes colBytes
  exact map_sum_zero _ _ fun g _ => map_sum_zero _ _ fun c _ => sizeOver_none _ _
/-- Sizes are bounded by the footer's. -/
theorem sizeOver_le {f t : Int} : ∀ (l : List PageS) (a : Int), (∀ p ∈ l, 1 ≤ p.1) → 0 ≤ sizeOver a f t l ∧ sizeOver a f t l ≤ sizesL l
  | [], _, _ => by simp [sizeOver, sizesL]
  | p :: l, a, hp => by
    have ih := sizeOver_le (f := f) (t := t) l (a + p.2.1) (fun q hq => hp q (by simp [hq]))
    have h1 := hp p (by simp)
    rw [sizesL_cons]
    simp only [sizeOver]
    by_cases c : hasS (a, a + p.2.1) f t
    · rw [indI_pos c]; omega
    · rw [indI_neg c]; omega

end Go.Proofs.Ythmjbdpkdomofaa
/- How trees are split, and how deep they are: plain numbers. -/

namespace Go.Hm
open Go Go.RowKit
/-- How many of n leaves are in the first half. -/
def splitN (n : Nat) : Nat := if n < 2 then 0 else 2 ^ (n - 1).log2
/-- How many nodes are at most above a leaf of n. -/
def depthN (n : Nat) : Nat := if n < 2 then 0 else (n - 1).log2 + 1
theorem splitN_pow {n : Nat} (h : 2 ≤ n) : splitN n = 2 ^ (n - 1).log2 ∧ 2 ^ (n - 1).log2 < n ∧ n ≤ 2 ^ ((n - 1).log2 + 1) := by
  have h1 := Nat.log2_self_le (n := n - 1) (by omega)
  have h2 := Nat.lt_log2_self (n := n - 1)
  refine ⟨by unfold splitN; rw [if_neg (by omega)], by omega, by omega⟩
theorem splitN_lt {n : Nat} (h : 2 ≤ n) : 1 ≤ splitN n ∧ splitN n < n ∧ n - splitN n ≤ splitN n := by
  obtain ⟨h1, h2, h3⟩ := splitN_pow h
  rw [h1]
  rw [Nat.pow_succ] at h3
  have := Nat.pow_pos (n := (n - 1).log2) (show 0 < 2 by omega)
  omega
theorem log2_is {x k : Nat} (h1 : 2 ^ k ≤ x) (h2 : x < 2 ^ (k + 1)) : x.log2 = k := by
  have hx : x ≠ 0 := by have := Nat.pow_pos (n := k) (show 0 < 2 by omega); omega
  have a1 := Nat.log2_self_le hx
  have a2 := Nat.lt_log2_self (n := x)
  have b1 : x.log2 < k + 1 := (Nat.pow_lt_pow_iff_right (by omega : 1 < 2)).1 (Nat.lt_of_le_of_lt a1 h2)
  have b2 : k < x.log2 + 1 := (Nat.pow_lt_pow_iff_right (by omega : 1 < 2)).1 (Nat.lt_of_le_of_lt h1 a2)
  omega
theorem splitN_is {n k : Nat} (h1 : 2 ^ k < n) (h2 : n ≤ 2 ^ (k + 1)) : splitN n = 2 ^ k ∧ depthN n = k + 1 := by
  have hk := Nat.pow_pos (n := k) (show 0 < 2 by omega)
  have hl := log2_is (x := n - 1) (k := k) (by omega) (by omega)
  unfold splitN depthN
  rw [if_neg (by omega), if_neg (by omega), hl]
  exact ⟨rfl, rfl⟩
theorem depthN_pow (k : Nat) : depthN (2 ^ k) = k := by
  cases k with
  | zero => rfl
  | succ k =>
    have hk := Nat.pow_pos (n := k) (show 0 < 2 by omega)
    exact (splitN_is (n := 2 ^ (k + 1)) (k := k) (by rw [Nat.pow_succ]; omega) (Nat.le_refl _)).2
theorem depthN_step {n : Nat} (h : 2 ≤ n) : depthN n = 1 + depthN (splitN n) := by
  obtain ⟨h1, h2, h3⟩ := splitN_pow h
  rw [h1, depthN_pow, (splitN_is h2 h3).2]
  omega
theorem depthN_mono {m n : Nat} (h : m ≤ n) : depthN m ≤ depthN n := by
  by_cases hm : m < 2
  · unfold depthN
    rw [if_pos hm]
    omega
  · obtain ⟨_, a2, a3⟩ := splitN_pow (n := m) (by omega)
    obtain ⟨_, b2, b3⟩ := splitN_pow (n := n) (by omega)
    rw [(splitN_is a2 a3).2, (splitN_is b2 b3).2]
    have : 2 ^ (m - 1).log2 < 2 ^ ((n - 1).log2 + 1) := by omega
    have := (Nat.pow_lt_pow_iff_right (by omega : 1 < 2)).1 this
    omega

end Go.Hm
/- What a walk over a tree tells, and how many parts are beside: plain. -/

namespace Go.Hm
open Go Go.RowKit
/-- What a walk over a tree tells: marked leaves, leaves beside, a node. -/
inductive Ev where
  | among (lo hi : Nat)
  | beside (lo hi : Nat)
  | node
/-- What is told of the leaves from lo on, ahead of hi. -/
def evs (f t lo hi : Nat) : List Ev :=
  if lo = hi ∨ (f ≤ lo ∧ hi ≤ t) then [.among lo hi]
  else if min hi t ≤ max lo f then [.beside lo hi]
  else if _h : hi - lo < 2 then []
  else evs f t lo (lo + splitN (hi - lo)) ++ (evs f t (lo + splitN (hi - lo)) hi ++ [.node])
termination_by hi - lo
decreasing_by
  · have := splitN_lt (n := hi - lo) (by omega)
    omega
  · have := splitN_lt (n := hi - lo) (by omega)
    omega
theorem evs_among {f t lo hi : Nat} (h : lo = hi ∨ (f ≤ lo ∧ hi ≤ t)) : evs f t lo hi = [.among lo hi] := by rw [evs, if_pos h]
theorem evs_beside {f t lo hi : Nat} (h : ¬ (lo = hi ∨ (f ≤ lo ∧ hi ≤ t))) (h2 : min hi t ≤ max lo f) : evs f t lo hi = [.beside lo hi] := by rw [evs, if_neg h, if_pos h2]
theorem evs_node {f t lo hi : Nat} (hl : lo ≤ hi) (h : ¬ (lo = hi ∨ (f ≤ lo ∧ hi ≤ t))) (h2 : ¬ min hi t ≤ max lo f) : evs f t lo hi = evs f t lo (lo + splitN (hi - lo)) ++ (evs f t (lo + splitN (hi - lo)) hi ++ [.node]) := by
  rw [evs, if_neg h, if_neg h2, dif_neg (by omega)]
/-- By what a walk tells. -/
theorem evs_ind {f t : Nat} {C : Nat → Nat → Prop}
    (h1 : ∀ lo hi, lo ≤ hi → (lo = hi ∨ (f ≤ lo ∧ hi ≤ t)) → C lo hi)
    (h2 : ∀ lo hi, lo < hi → ¬ (lo = hi ∨ (f ≤ lo ∧ hi ≤ t)) → min hi t ≤ max lo f → C lo hi)
    (h3 : ∀ lo hi k, 2 ≤ hi - lo → ¬ (lo = hi ∨ (f ≤ lo ∧ hi ≤ t)) → ¬ min hi t ≤ max lo f → k = splitN (hi - lo) → 1 ≤ k → k < hi - lo → C lo (lo + k) → C (lo + k) hi → C lo hi) : ∀ lo hi, lo ≤ hi → C lo hi := by
  intro lo hi
  induction hn : hi - lo using Nat.strongRecOn generalizing lo hi with
  | _ n ih =>
    intro hl
    by_cases a : lo = hi ∨ (f ≤ lo ∧ hi ≤ t)
    · exact h1 lo hi hl a
    by_cases b : min hi t ≤ max lo f
    · exact h2 lo hi (by omega) a b
    have hs := splitN_lt (n := hi - lo) (by omega)
    exact h3 lo hi _ (by omega) a b rfl hs.1 hs.2.1 (ih _ (by omega) lo _ rfl (by omega)) (ih _ (by omega) _ hi rfl (by omega))
/-- Is it of leaves beside? -/
def besideB : Ev → Bool
  | .beside _ _ => true
  | _ => false
/-- How many parts are beside. -/
def cnt (es : List Ev) : Nat := es.countP besideB
theorem cnt_app (a b : List Ev) : cnt (a ++ b) = cnt a + cnt b := List.countP_append
theorem cnt_node {f t lo hi : Nat} (hl : lo ≤ hi) (h : ¬ (lo = hi ∨ (f ≤ lo ∧ hi ≤ t))) (h2 : ¬ min hi t ≤ max lo f) : cnt (evs f t lo hi) = cnt (evs f t lo (lo + splitN (hi - lo))) + cnt (evs f t (lo + splitN (hi - lo)) hi) := by
  rw [evs_node hl h h2, cnt_app, cnt_app]
  simp [cnt, besideB]
theorem cnt_le {f t : Nat} : ∀ lo hi, lo ≤ hi → cnt (evs f t lo hi) ≤ hi - lo := by
  refine evs_ind (f := f) (t := t) ?_ ?_ ?_
  · intro lo hi _ h
    rw [evs_among h]
    simp [cnt, besideB]
  · intro lo hi _ h h2
    rw [evs_beside h h2]
    simp [cnt, besideB]
    omega
  · intro lo hi k hn h h2 hk k1 k2 i1 i2
    rw [cnt_node (by omega) h h2, ← hk]
    omega
theorem cnt_pre {a b : List Ev} (h : a <+: b) : cnt a ≤ cnt b := by
  obtain ⟨c, rfl⟩ := h
  rw [cnt_app]
  omega
/-- There are none beside just if all are marked. -/
theorem cnt_zero {f t : Nat} (hft : f < t) : ∀ lo hi, lo ≤ hi → (cnt (evs f t lo hi) = 0 ↔ (lo = hi ∨ (f ≤ lo ∧ hi ≤ t))) := by
  refine evs_ind (f := f) (t := t) ?_ ?_ ?_
  · intro lo hi _ h
    rw [evs_among h]
    simp [cnt, besideB, h]
  · intro lo hi _ h h2
    rw [evs_beside h h2]
    simp [cnt, besideB, h]
  · intro lo hi k hn h h2 hk k1 k2 i1 i2
    rw [cnt_node (by omega) h h2, ← hk]
    constructor
    · intro e
      have a := i1.1 (by omega)
      have b := i2.1 (by omega)
      omega
    · intro e
      exact absurd e h
/-- At most one for each step, where marked leaves are the first or the last. -/
theorem cnt_edge {f t : Nat} : ∀ lo hi, lo ≤ hi → (f ≤ lo ∨ hi ≤ t) → cnt (evs f t lo hi) ≤ depthN (hi - lo) ∨ (cnt (evs f t lo hi) = 1 ∧ min hi t ≤ max lo f) := by
  refine evs_ind (f := f) (t := t) ?_ ?_ ?_
  · intro lo hi _ h _
    rw [evs_among h]
    simp [cnt, besideB]
  · intro lo hi _ h h2 _
    rw [evs_beside h h2]
    simp [cnt, besideB, h2]
  · intro lo hi k hn h h2 hk k1 k2 i1 i2 he
    have hs := splitN_lt hn
    rw [← hk] at hs
    have hd := depthN_step hn
    rw [← hk] at hd
    have hm := depthN_mono hs.2.2
    have e1 : lo + k - lo = k := by omega
    have e2 : hi - (lo + k) = hi - lo - k := by omega
    rw [e1] at i1
    rw [e2] at i2
    rw [cnt_node (by omega) h h2, ← hk]
    left
    rcases he with he | he
    · -- the first are marked
      by_cases ht : lo + k ≤ t
      · have a : cnt (evs f t lo (lo + k)) = 0 := by rw [evs_among (.inr ⟨he, ht⟩)]; simp [cnt, besideB]
        rcases i2 (.inl (by omega)) with b | b <;> omega
      · have b : cnt (evs f t (lo + k) hi) = 1 := by rw [evs_beside (by omega) (by omega)]; simp [cnt, besideB]
        rcases i1 (.inl he) with a | a
        · omega
        · omega
    · by_cases hf : f ≤ lo + k
      · have b : cnt (evs f t (lo + k) hi) = 0 := by rw [evs_among (.inr ⟨hf, he⟩)]; simp [cnt, besideB]
        rcases i1 (.inr (by omega)) with a | a <;> omega
      · have a : cnt (evs f t lo (lo + k)) = 1 := by rw [evs_beside (by omega) (by omega)]; simp [cnt, besideB]
        rcases i2 (.inr he) with b | b
        · omega
        · omega
/-- At most two for each step. -/
theorem cnt_few {f t : Nat} (hft : f < t) : ∀ lo hi, lo ≤ hi → ¬ min hi t ≤ max lo f → cnt (evs f t lo hi) ≤ 2 * depthN (hi - lo) ∧ (t - f = 1 → cnt (evs f t lo hi) ≤ depthN (hi - lo)) := by
  refine evs_ind (f := f) (t := t) ?_ ?_ ?_
  · intro lo hi _ h _
    rw [evs_among h]
    simp [cnt, besideB]
  · intro lo hi _ h h2 h3
    exact absurd h2 h3
  · intro lo hi k hn h h2 hk k1 k2 i1 i2 _
    have hs := splitN_lt hn
    rw [← hk] at hs
    have hd := depthN_step hn
    rw [← hk] at hd
    have hm := depthN_mono hs.2.2
    have e1 : lo + k - lo = k := by omega
    have e2 : hi - (lo + k) = hi - lo - k := by omega
    rw [e1] at i1
    rw [e2] at i2
    rw [cnt_node (by omega) h h2, ← hk]
    by_cases a : min (lo + k) t ≤ max lo f
    · have a1 : cnt (evs f t lo (lo + k)) = 1 := by rw [evs_beside (by omega) a]; simp [cnt, besideB]
      have := i2 (by omega)
      omega
    by_cases b : min hi t ≤ max (lo + k) f
    · have b1 : cnt (evs f t (lo + k) hi) = 1 := by rw [evs_beside (by omega) b]; simp [cnt, besideB]
      have := i1 a
      omega
    have c1 := cnt_edge lo (lo + k) (by omega) (.inr (by omega)) (f := f) (t := t)
    have c2 := cnt_edge (lo + k) hi (by omega) (.inl (by omega)) (f := f) (t := t)
    rw [e1] at c1
    rw [e2] at c2
    omega

end Go.Hm
/- Contracts on tree.Split, Depth, and the document's own. -/

namespace Go.Hm
open Go Go.RowKit
theorem bitLen_iff2 (n : Nat) : ∀ k, k ≤ 64 → n < 18446744073709551616 → (Lib.bitLen n ≤ k ↔ n < 2 ^ k) := by
  intro k hk hn
  refine ⟨fun h => ?_, fun h => Lib.bitLen_le n k hk h⟩
  induction k generalizing n with
  | zero =>
    by_cases h0 : n = 0
    · omega
    · have := Lib.bitLen_half n h0 hn
      omega
  | succ k ih =>
    by_cases h0 : n = 0
    · subst h0; exact Nat.two_pow_pos _
    · have h1 := Lib.bitLen_half n h0 hn
      have h2 := ih (n / 2) (by omega) (by omega) (by omega)
      rw [Nat.pow_succ]; omega
theorem bitLen_log {x : Nat} (h0 : x ≠ 0) (h : x < 9223372036854775808) : Lib.bitLen x = x.log2 + 1 ∧ x.log2 < 63 := by
  have a1 := Nat.log2_self_le h0
  have a2 := Nat.lt_log2_self (n := x)
  have hl : x.log2 < 63 := (Nat.pow_lt_pow_iff_right (by omega : 1 < 2)).1 (Nat.lt_of_le_of_lt a1 h)
  have b1 := (bitLen_iff2 x (x.log2 + 1) (by omega) (by omega)).2 a2
  have b2 : ¬ Lib.bitLen x ≤ x.log2 := fun hb => by
    have := (bitLen_iff2 x x.log2 (by omega) (by omega)).1 hb
    omega
  omega

end Go.Hm

namespace Go.Proofs.Ythmjbdpkdomofaa
open Go.RowKit Go.Hm
theorem len_any (x : Nat) (w : World) (h : x ≤ 9223372036854775807) : Calls Try.prog 53 #[.int .u64 (x : Int)] w (ValPost (.int .i64 (Lib.bitLen x : Nat)) w) := by
  have L := Lib.hid (bits_Len64 (x : Int) w (by omega) (by omega))
  go_enter Try.func53, Try.ntmps53
  go_wp2_with (go_at_call 60; refine L.out.mono ?_; rintro e w' ⟨rfl, rfl⟩)
  go_ret
  exact ⟨by simp, rfl⟩
set_option maxHeartbeats 1000000 in
theorem split_any (n : Int) (w : World) (h0 : -9223372036854775808 ≤ n) (h : n ≤ 9223372036854775807) : Calls Try.prog 39 #[.int .i64 n] w (ValPost (.int .i64 (splitN n.toNat : Nat)) w) := by
  by_cases h2 : n < 2
  · have hs : splitN n.toNat = 0 := by unfold splitN; exact if_pos (by omega)
    rw [hs]
    have d : decide (n < 2) = true := decide_eq_true h2
    go_enter Try.func39, Try.ntmps39
    go_wp2
    go_ret
    exact ⟨by simp, rfl⟩
  · have d : decide (n < 2) = false := decide_eq_false h2
    obtain ⟨m, rfl⟩ : ∃ m : Nat, n = (m : Int) := ⟨n.toNat, by omega⟩
    obtain ⟨s1, s2, s3⟩ := splitN_pow (n := m) (by omega)
    obtain ⟨b1, b2⟩ := bitLen_log (x := m - 1) (by omega) (by omega)
    have L := len_any (m - 1) w (by omega)
    rw [b1] at L
    have L := Lib.hid L
    have e1 : (m : Int) - 1 = ((m - 1 : Nat) : Int) := by omega
    rw [Int.toNat_natCast, s1]
    have hp : 2 ^ (m - 1).log2 < 9223372036854775808 := by omega
    generalize hk : (m - 1).log2 = k at *
    obtain ⟨p, hpp⟩ : ∃ p, p = 2 ^ k := ⟨_, rfl⟩
    have e2 : ((k + 1 : Nat) : Int) - 1 = (k : Int) := by omega
    clear s1 s2 s3 b1 hk
    go_enter Try.func39, Try.ntmps39
    go_wp2_with (go_at_call 53; refine L.out.mono ?_; rintro e w' ⟨rfl, rfl⟩)
    go_ret
    have c : (2 : Int) ^ k = (p : Int) := by rw [hpp]; simp
    have c2 : wrap64 ((2 : Int) ^ k) = ((2 ^ k : Nat) : Int) := by
      rw [c, ← hpp]
      rw [← hpp] at hp
      unfold wrap64
      omega
    exact ⟨by rw [← c2]; rfl, rfl⟩
/-- The document's own halves. -/
theorem split_loop {n k : Nat} (hk : 2 ^ k < n) : (2 ^ k < n - 2 ^ k ↔ 2 ^ (k + 1) < n) := by
  rw [Nat.pow_succ]
  omega
set_option maxHeartbeats 1000000 in
theorem rsplit_any (n : Int) (w : World) (h0 : -9223372036854775808 ≤ n) (h : n ≤ 1152921504606846976) : Calls Try.prog 55 #[.int .i64 n] w (ValPost (.int .i64 (splitN n.toNat : Nat)) w) := by
  by_cases h2 : n < 2
  · have hs : splitN n.toNat = 0 := by unfold splitN; exact if_pos (by omega)
    rw [hs]
    have d : decide (n < 2) = true := decide_eq_true h2
    go_enter Try.func55, Try.ntmps55
    go_wp2
    go_ret
    exact ⟨by simp, rfl⟩
  · have d : decide (n < 2) = false := decide_eq_false h2
    obtain ⟨m, rfl⟩ : ∃ m : Nat, n = (m : Int) := ⟨n.toNat, by omega⟩
    go_enter Try.func55, Try.ntmps55
    go_wp2
    go_loop [3] (fun v => ∃ k p : Nat, v = .int .i64 (p : Int) ∧ Hid (p = 2 ^ k) ∧ p < m) (fun v => m - (intOf v).toNat)
    case atStart => exact ⟨0, 1, rfl, Lib.hid rfl, by omega⟩
    case round =>
      obtain ⟨k, p, rfl, HP, hp⟩ := hrel
      have hp0 : 0 < p := by rw [HP.out]; exact Nat.pow_pos (by omega)
      by_cases hlt : p < m - p
      · have d2 : decide ((p : Int) < (m : Int) - (p : Int)) = true := decide_eq_true (by omega)
        have HP2 := Lib.hid (show 2 * p = 2 ^ (k + 1) by rw [HP.out, Nat.pow_succ]; omega)
        go_wp2
        go_round
        case rel => exact ⟨k + 1, 2 * p, by go_num, HP2, by omega⟩
        case measure => simp [intOf]; omega
      · have d2 : decide ((p : Int) < (m : Int) - (p : Int)) = false := decide_eq_false (by omega)
        have hs := (splitN_is (n := m) (k := k) (by rw [← HP.out]; exact hp) (by rw [Nat.pow_succ, ← HP.out]; omega)).1
        have HS := Lib.hid hs
        clear hs
        go_wp2
        go_ret
        exact ⟨by rw [HS.out, ← HP.out]; rfl, rfl⟩
/-- Depths, of numbers that were halved. -/
theorem depth_any : ∀ (k : Nat) (n : Int) (w : World), n.toNat < k → -9223372036854775808 ≤ n → n ≤ 9223372036854775807 → Calls Try.prog 23 #[.int .i64 n] w (ValPost (.int .i64 (depthN n.toNat : Nat)) w) := by
  intro k
  induction k with
  | zero => intro n w hk; omega
  | succ k ih =>
    intro n w hk h0 h1
    by_cases h2 : n < 2
    · have hs : depthN n.toNat = 0 := by unfold depthN; exact if_pos (by omega)
      rw [hs]
      have d : decide (n < 2) = true := decide_eq_true h2
      clear ih
      go_enter Try.func23, Try.ntmps23
      go_wp2
      go_ret
      exact ⟨by simp, rfl⟩
    · have d : decide (n < 2) = false := decide_eq_false h2
      have s := splitN_lt (n := n.toNat) (by omega)
      have S := Lib.hid (split_any n w h0 h1)
      have D := Lib.hid (ih (splitN n.toNat : Nat) w (by omega) (by omega) (by omega))
      have e := depthN_step (n := n.toNat) (by omega)
      have e2 : depthN n.toNat ≤ 63 := by
        unfold depthN
        rw [if_neg (by omega)]
        have := (bitLen_log (x := n.toNat - 1) (by omega) (by omega)).2
        omega
      rw [Int.toNat_natCast] at D
      have HE := Lib.hid e
      have e3 : depthN (splitN n.toNat) ≤ 62 := by omega
      generalize depthN (splitN n.toNat) = dd at *
      generalize depthN n.toNat = dn at *
      generalize splitN n.toNat = sn at *
      clear ih e s
      go_enter Try.func23, Try.ntmps23
      go_wp2_with fail
      refine S.out.mono ?_
      rintro e w' ⟨rfl, rfl⟩
      go_wp2_with fail
      refine D.out.mono ?_
      rintro e w' ⟨rfl, rfl⟩
      go_wp2
      go_ret
      exact ⟨by rw [HE.out]; simp, rfl⟩

end Go.Proofs.Ythmjbdpkdomofaa
/- The contract of proof.walk.over, for whatever three functions it is given. -/

namespace Go.Hm
open Go Go.RowKit
/-- Blocks of a type lie as they lay. -/
def KeepT (t : TypeId) (w w' : World) : Prop := w.heap.size ≤ w'.heap.size ∧ ∀ b cs, Blk w b t cs → Blk w' b t cs
theorem KeepT.refl (t : TypeId) (w : World) : KeepT t w w := ⟨Nat.le_refl _, fun _ _ h => h⟩
theorem KeepT.trans {t : TypeId} {w w1 w2 : World} (h : KeepT t w w1) (k : KeepT t w1 w2) : KeepT t w w2 := ⟨Nat.le_trans h.1 k.1, fun b cs hb => k.2 b cs (h.2 b cs hb)⟩
theorem KeepT.new {t : TypeId} {w w' : World} (h : New w w') : KeepT t w w' := ⟨h.size, fun _ _ hb => hb.below h hb.lt⟩

end Go.Hm

namespace Go.Proofs.Ythmjbdpkdomofaa
open Go.RowKit Go.Hm
abbrev tW : TypeId := 75
def OvPost (R : List Ev → World → Prop) (es : List Ev) (w : World) (e : Ending) (w' : World) : Prop := e = .returned (.tuple #[]) ∧ R es w' ∧ KeepT tW w w'
theorem OvPost.after {R : List Ev → World → Prop} {es : List Ev} {w w1 : World} (k : KeepT tW w w1) {e : Ending} {w' : World} (h : OvPost R es w1 e w') : OvPost R es w e w' := ⟨h.1, h.2.1, k.trans h.2.2⟩
set_option maxHeartbeats 4000000 in
set_option maxRecDepth 100000 in
theorem wover_any {f t kA kB kC : Nat} {eA eB eC : Array Value} {total : List Ev} {R : List Ev → World → Prop}
    (hk : ∀ k, k = kA ∨ k = kB ∨ k = kC → ∀ args w, (callFunc k args).run Try.prog w = .ok (.enter k args) w)
    (hR : ∀ es w w', R es w → New w w' → R es w')
    (hA : ∀ es lo hi w, (es ++ [.among lo hi]) <+: total → R es w → Calls Try.prog kA (#[.int .i64 (lo : Int), .int .i64 (hi : Int)] ++ eA) w (OvPost R (es ++ [.among lo hi]) w))
    (hB : ∀ es lo hi w, (es ++ [.beside lo hi]) <+: total → R es w → Calls Try.prog kB (#[.int .i64 (lo : Int), .int .i64 (hi : Int)] ++ eB) w (OvPost R (es ++ [.beside lo hi]) w))
    (hC : ∀ es w, (es ++ [.node]) <+: total → R es w → Calls Try.prog kC eC w (OvPost R (es ++ [.node]) w)) :
    ∀ (m lo hi : Nat) (es : List Ev) (w : World), hi - lo < m → lo ≤ hi → hi ≤ 1000000 → (es ++ evs f t lo hi) <+: total → R es w →
      Calls Try.prog 47 #[.agg #[.int .i64 (f : Int), .int .i64 (t : Int), .func (.func kA) #[] eA, .func (.func kB) #[] eB, .func (.func kC) #[] eC], .int .i64 (lo : Int), .int .i64 (hi : Int)] w (OvPost R (es ++ evs f t lo hi) w) := by
  intro m
  induction m with
  | zero => intro lo hi es w h; omega
  | succ m ih =>
    intro lo hi es w hm hl hh hp hr
    obtain ⟨W, hW⟩ : ∃ W, W = w.alloc (.cells #[.int .i64 (f : Int), .int .i64 (t : Int), .func (.func kA) #[] eA, .func (.func kB) #[] eB, .func (.func kC) #[] eC] tW) := ⟨_, rfl⟩
    have n1 : New w W := by rw [hW]; exact (Below.refl _ _).alloc (Nat.le_refl _) _
    have g1 : Blk W w.heap.size tW #[.int .i64 (f : Int), .int .i64 (t : Int), .func (.func kA) #[] eA, .func (.func kB) #[] eB, .func (.func kC) #[] eC] := by rw [hW]; exact Blk.new _ _ _
    have R1 := Lib.hid (hR es w W hr n1)
    have N1 := Lib.hid n1
    have hW' := hW
    have HW := Lib.hid hW
    have HH := Lib.hid (And.intro hA (And.intro hB hC))
    have IH := Lib.hid ih
    have HP := Lib.hid hp
    have EV := Lib.hid (@evs_among f t lo hi)
    have EB := Lib.hid (@evs_beside f t lo hi)
    have EN := Lib.hid (@evs_node f t lo hi)
    have c0 : W.cell? ⟨w.heap.size, 0, none⟩ = some (.int .i64 (f : Int)) := g1.cell 0
    have c1 : W.cell? ⟨w.heap.size, 1, none⟩ = some (.int .i64 (t : Int)) := g1.cell 1
    have c2 : W.cell? ⟨w.heap.size, 2, none⟩ = some (.func (.func kA) #[] eA) := g1.cell 2
    have c3 : W.cell? ⟨w.heap.size, 3, none⟩ = some (.func (.func kB) #[] eB) := g1.cell 3
    rw [hW] at c0 c1 c2 c3
    have G1 := Lib.hid g1
    clear hr hA hB hC ih g1 hp hW n1
    have kA1 := hk kA (by simp)
    have kB1 := hk kB (by simp)
    have kC1 := hk kC (by simp)
    clear hk
    go_enter Try.func47, Try.ntmps47
    have AM : (lo = hi ∨ (f ≤ lo ∧ hi ≤ t)) → Hid (Calls Try.prog kA (#[.int .i64 (lo : Int), .int .i64 (hi : Int)] ++ eA) (w.alloc (.cells #[.int .i64 (f : Int), .int .i64 (t : Int), .func (.func kA) #[] eA, .func (.func kB) #[] eB, .func (.func kC) #[] eC] tW)) (OvPost R (es ++ evs f t lo hi) w)) := fun h => Lib.hid (by
      rw [← HW.out, EV.out h]
      refine (HH.out.1 es lo hi W (by rw [← EV.out h]; exact HP.out) R1.out).mono fun _ _ p => p.after (KeepT.new N1.out))
    by_cases a0 : lo = hi
    · subst a0
      have AM2 := AM (.inl rfl)
      clear AM
      clear EV EB EN IH HH HP
      go_wp2_with fail
      refine AM2.out.mono ?_
      rintro e w' hpost
      obtain rfl := hpost.1
      have HPO := Lib.hid hpost
      clear hpost AM2
      go_wp2_with fail
      go_end0
      exact HPO.out
    have q0 : ((lo : Int) == (hi : Int)) = false := by simp; omega
    by_cases aa : f ≤ lo ∧ hi ≤ t
    · have q1 : decide (f ≤ lo) = true := by simp; omega
      have q2 : decide (hi ≤ t) = true := by simp; omega
      have AM2 := AM (.inr aa)
      clear AM
      clear EV EB EN IH HH HP
      go_wp2_with fail
      refine AM2.out.mono ?_
      rintro e w' hpost
      obtain rfl := hpost.1
      have HPO := Lib.hid hpost
      clear hpost AM2
      go_wp2_with fail
      go_end0
      exact HPO.out
    clear AM EV
    have na : ¬ (lo = hi ∨ (f ≤ lo ∧ hi ≤ t)) := by omega
    have NA := Lib.hid na
    by_cases bb : min hi t ≤ max lo f
    · have BE : Hid (Calls Try.prog kB (#[.int .i64 (lo : Int), .int .i64 (hi : Int)] ++ eB) (w.alloc (.cells #[.int .i64 (f : Int), .int .i64 (t : Int), .func (.func kA) #[] eA, .func (.func kB) #[] eB, .func (.func kC) #[] eC] tW)) (OvPost R (es ++ evs f t lo hi) w)) := Lib.hid (by
        rw [← HW.out, EB.out na bb]
        refine (HH.out.2.1 es lo hi W (by rw [← EB.out na bb]; exact HP.out) R1.out).mono fun _ _ p => p.after (KeepT.new N1.out))
      clear EB EN IH HH HP
      have q4 : decide (min (hi : Int) (t : Int) ≤ max (lo : Int) (f : Int)) = true := by simp; omega
      have q5 : decide (f ≤ lo) = true ∨ decide (f ≤ lo) = false := by cases decide (f ≤ lo) <;> simp
      rcases q5 with q5 | q5
      · have q6 : decide (hi ≤ t) = false := by simp at q5 ⊢; omega
        clear na aa
        go_wp2_with fail
        refine BE.out.mono ?_
        rintro e w' hpost
        obtain rfl := hpost.1
        have HPO := Lib.hid hpost
        clear hpost BE
        go_wp2_with fail
        go_end0
        exact HPO.out
      · clear na aa
        go_wp2_with fail
        refine BE.out.mono ?_
        rintro e w' hpost
        obtain rfl := hpost.1
        have HPO := Lib.hid hpost
        clear hpost BE
        go_wp2_with fail
        go_end0
        exact HPO.out
    have q4 : decide (min (hi : Int) (t : Int) ≤ max (lo : Int) (f : Int)) = false := by simp; omega
    have hn : 2 ≤ hi - lo := by omega
    have hs := splitN_lt hn
    have SP := Lib.hid (split_any ((hi : Int) - (lo : Int)) W (by omega) (by omega))
    rw [show ((hi : Int) - (lo : Int)).toNat = hi - lo by omega, hW'] at SP
    have EN := EN.out hl na bb
    obtain ⟨k, hk⟩ : ∃ k, k = splitN (hi - lo) := ⟨_, rfl⟩
    rw [← hk] at hs SP EN
    have EN := Lib.hid EN
    have q5 : decide (f ≤ lo) = true ∨ decide (f ≤ lo) = false := by cases decide (f ≤ lo) <;> simp
    have q6 : decide (f ≤ lo) = true → decide (hi ≤ t) = false := by simp; omega
    have W4 : ∀ w', KeepT tW W w' → Hid (Blk w' w.heap.size tW #[.int .i64 (f : Int), .int .i64 (t : Int), .func (.func kA) #[] eA, .func (.func kB) #[] eB, .func (.func kC) #[] eC]) := fun w' h => Lib.hid (h.2 _ _ G1.out)
    have I1 := Lib.hid (fun w' => IH.out lo (lo + k) es w' (by omega) (by omega) (by omega) (by
      refine List.IsPrefix.trans ?_ HP.out
      rw [EN.out]
      exact (List.prefix_append_right_inj _).2 (List.prefix_append _ _)))
    have I2 := Lib.hid (fun w' => IH.out (lo + k) hi (es ++ evs f t lo (lo + k)) w' (by omega) (by omega) (by omega) (by
      refine List.IsPrefix.trans ?_ HP.out
      rw [EN.out, List.append_assoc]
      exact (List.prefix_append_right_inj _).2 ((List.prefix_append_right_inj _).2 (List.prefix_append _ _))))
    have I3 := Lib.hid (fun w' => HH.out.2.2 (es ++ evs f t lo (lo + k) ++ evs f t (lo + k) hi) w' (by
      rw [List.append_assoc, List.append_assoc, ← EN.out]
      exact HP.out))
    have hcast : ((lo + k : Nat) : Int) = (lo : Int) + (k : Int) := by omega
    rw [hcast] at I1 I2
    have ER := Lib.hid (show es ++ evs f t lo hi = es ++ evs f t lo (lo + k) ++ evs f t (lo + k) hi ++ [.node] by rw [EN.out]; simp only [List.append_assoc])
    clear EB EN IH HH HP na aa bb hk hcast
    rcases q5 with q5 | q5
    · have q6 := q6 q5
      go_wp2_with fail
      refine SP.out.mono ?_
      rintro e w1 ⟨rfl, rfl⟩
      go_wp2_with fail
      have J1 := I1.out W R1.out
      rw [HW.out] at J1
      refine J1.mono ?_
      clear J1
      rintro e w1 hpost
      obtain rfl := hpost.1
      have R2 := Lib.hid hpost.2.1
      have k1 : KeepT tW W w1 := by rw [HW.out]; exact hpost.2.2
      have K1 := Lib.hid k1
      have g2 := (W4 w1 k1).out
      have d0 : w1.cell? ⟨w.heap.size, 0, none⟩ = some (.int .i64 (f : Int)) := g2.cell 0
      have d1 : w1.cell? ⟨w.heap.size, 1, none⟩ = some (.int .i64 (t : Int)) := g2.cell 1
      have d2 : w1.cell? ⟨w.heap.size, 2, none⟩ = some (.func (.func kA) #[] eA) := g2.cell 2
      have d3 : w1.cell? ⟨w.heap.size, 3, none⟩ = some (.func (.func kB) #[] eB) := g2.cell 3
      have d4 : w1.cell? ⟨w.heap.size, 4, none⟩ = some (.func (.func kC) #[] eC) := g2.cell 4
      clear hpost k1 g2
      go_wp2_with fail
      refine (I2.out w1 R2.out).mono ?_
      rintro e w2 hpost
      obtain rfl := hpost.1
      have R3 := Lib.hid hpost.2.1
      have k2 : KeepT tW W w2 := K1.out.trans hpost.2.2
      have K2 := Lib.hid k2
      have g2 := (W4 w2 k2).out
      have f4 : w2.cell? ⟨w.heap.size, 4, none⟩ = some (.func (.func kC) #[] eC) := g2.cell 4
      clear hpost k2 g2 d0 d1 d2 d3 d4
      go_wp2_with fail
      refine (I3.out w2 R3.out).mono ?_
      rintro e w3 hpost
      obtain rfl := hpost.1
      have HPO := Lib.hid (show OvPost R (es ++ evs f t lo hi) w _ w3 by rw [ER.out]; exact hpost.after ((KeepT.new N1.out).trans K2.out))
      clear hpost
      go_wp2_with fail
      go_end0
      exact HPO.out
    · clear q6
      go_wp2_with fail
      refine SP.out.mono ?_
      rintro e w1 ⟨rfl, rfl⟩
      go_wp2_with fail
      have J1 := I1.out W R1.out
      rw [HW.out] at J1
      refine J1.mono ?_
      clear J1
      rintro e w1 hpost
      obtain rfl := hpost.1
      have R2 := Lib.hid hpost.2.1
      have k1 : KeepT tW W w1 := by rw [HW.out]; exact hpost.2.2
      have K1 := Lib.hid k1
      have g2 := (W4 w1 k1).out
      have d0 : w1.cell? ⟨w.heap.size, 0, none⟩ = some (.int .i64 (f : Int)) := g2.cell 0
      have d1 : w1.cell? ⟨w.heap.size, 1, none⟩ = some (.int .i64 (t : Int)) := g2.cell 1
      have d2 : w1.cell? ⟨w.heap.size, 2, none⟩ = some (.func (.func kA) #[] eA) := g2.cell 2
      have d3 : w1.cell? ⟨w.heap.size, 3, none⟩ = some (.func (.func kB) #[] eB) := g2.cell 3
      have d4 : w1.cell? ⟨w.heap.size, 4, none⟩ = some (.func (.func kC) #[] eC) := g2.cell 4
      clear hpost k1 g2
      go_wp2_with fail
      refine (I2.out w1 R2.out).mono ?_
      rintro e w2 hpost
      obtain rfl := hpost.1
      have R3 := Lib.hid hpost.2.1
      have k2 : KeepT tW W w2 := K1.out.trans hpost.2.2
      have K2 := Lib.hid k2
      have g2 := (W4 w2 k2).out
      have f4 : w2.cell? ⟨w.heap.size, 4, none⟩ = some (.func (.func kC) #[] eC) := g2.cell 4
      clear hpost k2 g2 d0 d1 d2 d3 d4
      go_wp2_with fail
      refine (I3.out w2 R3.out).mono ?_
      rintro e w3 hpost
      obtain rfl := hpost.1
      have HPO := Lib.hid (show OvPost R (es ++ evs f t lo hi) w _ w3 by rw [ER.out]; exact hpost.after ((KeepT.new N1.out).trans K2.out))
      clear hpost
      go_wp2_with fail
      go_end0
      exact HPO.out

end Go.Proofs.Ythmjbdpkdomofaa
/- The contract of proof.Need, and of the document's own. -/

namespace Go.Hm
open Go Go.RowKit
/-- How many parts are beside; -1 where that may not be. -/
def needI (n f t : Int) : Int := if 65536 < n ∨ f < 0 ∨ t < f ∨ n < t then -1 else (cnt (evs f.toNat t.toNat 0 n.toNat) : Nat)
theorem KeepT.set_ {t t' : TypeId} {w : World} {b : Nat} {cs : Array Value} (h : Blk w b t' cs) (hne : t' ≠ t) (i : Nat) (u : Value) : KeepT t w (w.setCell ⟨b, i, none⟩ u) :=
  ⟨by simp, fun b' cs' h' => h'.far (p := ⟨b, i, none⟩) (fun e => Blk.ne_ h h' hne e.symm) u⟩
theorem prefix_last {a b : List Ev} {x : Ev} (h : (a ++ [x]) <+: b) : cnt (a ++ [x]) ≤ cnt b := cnt_pre h

end Go.Hm

namespace Go.Proofs.Ythmjbdpkdomofaa
open Go.RowKit Go.Hm
def UnitPost (w : World) (e : Ending) (w' : World) : Prop := e = .returned (.tuple #[]) ∧ w' = w
theorem nowhere_any (lo hi : Int) (w : World) : Calls Try.prog 44 #[.int .i64 lo, .int .i64 hi] w (UnitPost w) := by
  go_enter Try.func44, Try.ntmps44
  go_wp2
  go_end0
  exact ⟨rfl, rfl⟩
theorem nothing_any (w : World) : Calls Try.prog 45 #[] w (UnitPost w) := by
  go_enter Try.func45, Try.ntmps45
  go_wp2
  go_end0
  exact ⟨rfl, rfl⟩
def AddPost (c : Nat) (w : World) (b : Nat) (e : Ending) (w' : World) : Prop := e = .returned (.tuple #[]) ∧ w' = w.setCell ⟨b, 0, none⟩ (.int .i64 ((c + 1 : Nat) : Int))
theorem pneed1_any (lo hi : Int) {w : World} {b c : Nat} (h : Blk w b 3 #[.int .i64 (c : Int)]) (hc : c ≤ 1000000) : Calls Try.prog 46 #[.int .i64 lo, .int .i64 hi, .pointer (some ⟨b, 0, none⟩)] w (AddPost c w b) := by
  have c0 : w.cell? ⟨b, 0, none⟩ = some (.int .i64 (c : Int)) := h.cell 0
  have f0 : w.frozen? ⟨b, 0, none⟩ = false := h.frozen 0
  clear h
  go_enter Try.func46, Try.ntmps46
  go_wp2
  go_end0
  exact ⟨rfl, by simp⟩
def CntR (w : World) (b : Nat) (es : List Ev) (W : World) : Prop := Blk W b 3 #[.int .i64 (cnt es : Int)] ∧ Below w.heap.size w W
set_option maxHeartbeats 4000000 in
set_option maxRecDepth 100000 in
theorem pneed_any (n f t : Int) (w : World) (n0 : -9223372036854775808 ≤ n) (n1 : n ≤ 9223372036854775807) : Calls Try.prog 31 #[.int .i64 n, .int .i64 f, .int .i64 t] w (NewPost (.int .i64 (needI n f t)) w) := by
  have hv : ∀ x, needI n f t = x → Hid (needI n f t = x) := fun x h => Lib.hid h
  by_cases a1 : 65536 < n
  · have HV := hv (-1) (if_pos (.inl a1))
    have q1 : decide (65536 < n) = true := decide_eq_true a1
    clear hv
    go_enter Try.func31, Try.ntmps31
    go_wp2
    go_ret
    exact ⟨by rw [HV.out]; simp, Below.refl _ _⟩
  by_cases a2 : f < 0
  · have HV := hv (-1) (if_pos (.inr (.inl a2)))
    have q1 : decide (65536 < n) = false := decide_eq_false a1
    have q2 : decide (f < 0) = true := decide_eq_true a2
    clear hv
    go_enter Try.func31, Try.ntmps31
    go_wp2
    go_ret
    exact ⟨by rw [HV.out]; simp, Below.refl _ _⟩
  by_cases a3 : t < f
  · have HV := hv (-1) (if_pos (.inr (.inr (.inl a3))))
    have q1 : decide (65536 < n) = false := decide_eq_false a1
    have q2 : decide (f < 0) = false := decide_eq_false a2
    have q3 : decide (t < f) = true := decide_eq_true a3
    clear hv
    go_enter Try.func31, Try.ntmps31
    go_wp2
    go_ret
    exact ⟨by rw [HV.out]; simp, Below.refl _ _⟩
  by_cases a4 : n < t
  · have HV := hv (-1) (if_pos (.inr (.inr (.inr a4))))
    have q1 : decide (65536 < n) = false := decide_eq_false a1
    have q2 : decide (f < 0) = false := decide_eq_false a2
    have q3 : decide (t < f) = false := decide_eq_false a3
    have q4 : decide (n < t) = true := decide_eq_true a4
    clear hv
    go_enter Try.func31, Try.ntmps31
    go_wp2
    go_ret
    exact ⟨by rw [HV.out]; simp, Below.refl _ _⟩
  have HV := hv _ (if_neg (by omega))
  clear hv
  obtain ⟨n, rfl⟩ : ∃ m : Nat, n = (m : Int) := ⟨n.toNat, by omega⟩
  obtain ⟨f, rfl⟩ : ∃ m : Nat, f = (m : Int) := ⟨f.toNat, by omega⟩
  obtain ⟨t, rfl⟩ : ∃ m : Nat, t = (m : Int) := ⟨t.toNat, by omega⟩
  rw [Int.toNat_natCast, Int.toNat_natCast, Int.toNat_natCast] at HV
  have q1 : decide ((65536 : Int) < (n : Int)) = false := decide_eq_false a1
  have q2 : decide ((f : Int) < 0) = false := decide_eq_false a2
  have q3 : decide (t < f) = false := by simp; omega
  have q4 : decide (n < t) = false := by simp; omega
  have OV := Lib.hid (fun (W : World) (hW : CntR w w.heap.size [] W) => wover_any (f := f) (t := t) (kA := 44) (kB := 46) (kC := 45) (eA := #[]) (eB := #[.pointer (some ⟨w.heap.size, 0, none⟩)]) (eC := #[]) (total := evs f t 0 n) (R := CntR w w.heap.size)
    (by rintro k (rfl | rfl | rfl) args w <;> go_simp)
    (fun es w1 w2 h k => ⟨h.1.below k h.1.lt, h.2.trans (k.mono h.2.size)⟩)
    (fun es lo hi w1 hp h => (nowhere_any lo hi w1).mono (by
      rintro e w' ⟨rfl, rfl⟩
      exact ⟨rfl, by unfold CntR; rw [cnt_app]; exact h, KeepT.refl _ _⟩))
    (fun es lo hi w1 hp h => (pneed1_any lo hi h.1 (by have := prefix_last hp; have := cnt_le 0 n (Nat.zero_le n) (f := f) (t := t); rw [cnt_app] at *; omega)).mono (by
      rintro e w' ⟨rfl, rfl⟩
      refine ⟨rfl, ⟨?_, h.2.setCell (p := ⟨w.heap.size, 0, none⟩) (Nat.le_refl _) _⟩, KeepT.set_ h.1 (by decide) _ _⟩
      rw [cnt_app]
      exact h.1.set_ 0 _))
    (fun es w1 hp h => (nothing_any w1).mono (by
      rintro e w' ⟨rfl, rfl⟩
      exact ⟨rfl, by unfold CntR; rw [cnt_app]; exact h, KeepT.refl _ _⟩))
    (n + 1) 0 n [] W (by omega) (by omega) (by omega) (List.prefix_refl _) hW)
  clear a1 a2 a3 a4
  have hmf : ∀ (fn : Fn) (first cap : Array Value) (w : World), (Instr.makeFunc fn first cap).run Try.prog w = .ok (.func fn first cap) w := fun _ _ _ _ => rfl
  go_enter Try.func31, Try.ntmps31
  go_wp2_with fail
  have C0 : CntR w w.heap.size [] ((w.alloc (.cells #[.int .i64 0] 3)).alloc (.cells #[.int .i64 (f : Int), .int .i64 (t : Int), .func (.func 44) #[] #[], .func (.func 46) #[] #[.pointer (some ⟨w.heap.size, 0, none⟩)], .func (.func 45) #[] #[]] tW)) :=
    ⟨(Blk.new w _ _).alloc _, New.trans ((Below.refl _ _).alloc (Nat.le_refl _) _) ((Below.refl _ _).alloc (Nat.le_refl _) _)⟩
  refine (OV.out _ C0).mono ?_
  rintro e w1 ⟨rfl, r, -⟩
  rw [List.nil_append] at r
  have c1 : w1.cell? ⟨w.heap.size, 0, none⟩ = some (.int .i64 (cnt (evs f t 0 n) : Int)) := r.1.cell 0
  have B1 := Lib.hid r.2
  clear r C0 OV
  go_wp2
  go_ret
  exact ⟨by rw [HV.out]; simp, B1.out⟩

end Go.Proofs.Ythmjbdpkdomofaa
/- Plain: the count of digests, and what a part of a fitting query is. -/

namespace Go.Proofs.Ythmjbdpkdomofaa
open Go Go.RowKit Go.Hm
abbrev partZ : PartS := (0, 0, 0, 0)
theorem read_part4 {w : World} {B n i : Nat} {A : Option Addr} {l : List PartS} (h : Reads w B 4 A n (recs partV l)) (hi : i < n) :
    ∃ ad, A = some ad ∧ ad.block < B ∧ w.cell? (ad.add (i * 4)) = some (.int .i64 (l.getD i partZ).1) ∧ w.cell? ⟨(ad.add (i * 4)).block, (ad.add (i * 4)).off + 1, none⟩ = some (.int .i64 (l.getD i partZ).2.1) ∧ w.cell? ⟨(ad.add (i * 4)).block, (ad.add (i * 4)).off + 2, none⟩ = some (.int .i64 (l.getD i partZ).2.2.1) ∧ w.cell? ⟨(ad.add (i * 4)).block, (ad.add (i * 4)).off + 3, none⟩ = some (.int .i64 (l.getD i partZ).2.2.2) := by
  obtain ⟨ad, h1, h2, _, h3⟩ := h.rec_ (f := partV) (sz := 4) (fun _ => rfl) partZ hi (by omega)
  refine ⟨ad, h1, h2, h3 0 _ rfl, ?_, ?_, ?_⟩
  · have := h3 1 _ rfl
    rw [← add_of_add] at this
    exact this
  · have := h3 2 _ rfl
    rw [← add_of_add] at this
    exact this
  · have := h3 3 _ rfl
    rw [← add_of_add] at this
    exact this
theorem needI_bnd (n f t : Int) : -1 ≤ needI n f t ∧ needI n f t ≤ 65536 := by
  unfold needI
  by_cases h : 65536 < n ∨ f < 0 ∨ t < f ∨ n < t
  · rw [if_pos h]
    omega
  · rw [if_neg h]
    have := cnt_le (f := f.toNat) (t := t.toNat) 0 n.toNat (Nat.zero_le _)
    omega
/-- What a part is. -/
def IsPart (F : FootS) (p : PartS) : Prop := ∃ g c x y : Nat, p = ((g : Int), (c : Int), (x : Int), (y : Int)) ∧ g < F.groups.length ∧ c < F.cols.length ∧ x ≤ y ∧ y ≤ (pagesAt F.groups g c).length
theorem partG_part {F : FootS} (h : FootOk F) {f t : Int} {g : Nat} (hg : g < F.groups.length) {c : Int} (h0 : 0 ≤ c) (h1 : c < (F.cols.length : Int)) : IsPart F (partG F f t g c) := by
  obtain ⟨ty, nu, hc⟩ := chunk_at h hg h0 h1
  obtain ⟨k, rfl⟩ := Int.eq_ofNat_of_zero_le h0
  have ho := ovr_spec (spansL_up hc (aheadR F.groups g)) f t
  rw [← spansF_in h hg h0 h1] at ho
  refine ⟨g, k, _, _, rfl, hg, by omega, ho.1, ?_⟩
  have h2 := ho.2.1
  rw [spansF_in h hg h0 h1, spansL_len] at h2
  rw [spansF_in h hg h0 h1]
  exact h2
theorem parts_is {F : FootS} {Q : List Int} {f t : Int} (h : okQ F Q f t = true) {p : PartS} (hp : p ∈ partsQ (okQ F Q f t) F Q f t) : IsPart F p := by
  have hle := groupsQ_le h
  rw [h] at hp
  unfold partsQ partsTo at hp
  rw [List.mem_flatMap] at hp
  obtain ⟨g, hg, hp⟩ := hp
  rw [List.mem_map] at hp
  obtain ⟨c, hc, rfl⟩ := hp
  rw [List.mem_range'_1] at hg
  obtain ⟨c0, c1⟩ := (okQ_cols h).1 c hc
  exact partG_part (okQ_foot h) (by omega) c0 c1
theorem parts_len {F : FootS} {Q : List Int} {f t : Int} (h : okQ F Q f t = true) : (partsQ (okQ F Q f t) F Q f t).length ≤ 4194304 := by
  have hle := groupsQ_le h
  have h1 := rows_sum_le (okQ_foot h)
  have h2 := (okQ_cols h).2.2.2.2.2
  rw [h]
  unfold partsQ
  rw [partsTo_len]
  exact Nat.le_trans (Nat.mul_le_mul (show _ ≤ 65536 by omega) h2) (by omega)
def digA (F : FootS) (p : PartS) : Int := needI ((pagesAt F.groups p.1.toNat p.2.1.toNat).length : Nat) p.2.2.1 p.2.2.2
def digB (F : FootS) (p : PartS) : Int := needI (F.cols.length : Nat) p.2.1 (p.2.1 + 1)
def digP (F : FootS) (p : PartS) : Int := digA F p + digB F p
def digTo (F : FootS) (n : Int) (l : List PartS) (k : Nat) : Int := n + ((l.take k).map (digP F)).sum
noncomputable def digestsQ (ok : Bool) (F : FootS) (Q : List Int) (f t : Int) : Int :=
  if ok then
    if Q.length = 0 then needI (F.groups.length : Nat) ((groupsQ ok F f t).1 : Nat) ((groupsQ ok F f t).2 : Nat) + ((groupsQ ok F f t).2 : Nat) - ((groupsQ ok F f t).1 : Nat)
    else digTo F (needI (F.groups.length : Nat) ((groupsQ ok F f t).1 : Nat) ((groupsQ ok F f t).2 : Nat)) (partsQ ok F Q f t) (partsQ ok F Q f t).length
  else -1
theorem digTo_zero (F : FootS) (n : Int) (l : List PartS) : digTo F n l 0 = n := by simp [digTo]
theorem digTo_succ (F : FootS) (n : Int) (l : List PartS) {k : Nat} (h : k < l.length) : digTo F n l (k + 1) = digTo F n l k + digA F (l.getD k partZ) + digB F (l.getD k partZ) := by
  unfold digTo
  rw [take_snoc l k partZ h, List.map_append, List.sum_append]
  simp only [List.map_cons, List.map_nil, List.sum_cons, List.sum_nil, digP]
  omega
theorem digA_bnd (F : FootS) (p : PartS) : -1 ≤ digA F p ∧ digA F p ≤ 65536 := needI_bnd _ _ _
theorem digB_bnd (F : FootS) (p : PartS) : -1 ≤ digB F p ∧ digB F p ≤ 65536 := needI_bnd _ _ _
theorem digTo_bnd (F : FootS) (n : Int) (l : List PartS) : ∀ k, k ≤ l.length → n - 2 * (k : Int) ≤ digTo F n l k ∧ digTo F n l k ≤ n + 131072 * (k : Int)
  | 0, _ => by rw [digTo_zero]; omega
  | k + 1, h => by
    have ih := digTo_bnd F n l k (by omega)
    have a := digA_bnd F (l.getD k partZ)
    have b := digB_bnd F (l.getD k partZ)
    rw [digTo_succ F n l (by omega)]
    omega

end Go.Proofs.Ythmjbdpkdomofaa
/- The contract of pick.Digests. -/

namespace Go.Proofs.Ythmjbdpkdomofaa
open Go Go.RowKit Go.Hm
theorem cells4 {w : World} {g : Nat} {ty : TypeId} {x y z v : Value} (h : Blk w g ty #[x, y, z, v]) : w.cell? ⟨g, 0, none⟩ = some x ∧ w.cell? ⟨g, 1, none⟩ = some y ∧ w.cell? ⟨g, 2, none⟩ = some z ∧ w.cell? ⟨g, 3, none⟩ = some v := by
  have h0 := h.cell 0
  have h1 := h.cell 1
  have h2 := h.cell 2
  have h3 := h.cell 3
  simp at h0 h1 h2 h3
  exact ⟨h0, h1, h2, h3⟩

section
variable {w : World} {Ac : Option Addr} {cc : Nat} {L : List ColS} {r : Int} {Ag : Option Addr} {cg : Nat} {G : List GrD} {Aq : Option Addr} {cq : Nat} {Q : List Int} {f t : Int}
theorem part_step (h : okQ (footP L r G) Q f t = true) {k : Nat} (hk : k < (partsQ (okQ (footP L r G) Q f t) (footP L r G) Q f t).length) :
    ∃ g c x y : Nat, (partsQ (okQ (footP L r G) Q f t) (footP L r G) Q f t).getD k partZ = ((g : Int), (c : Int), (x : Int), (y : Int)) ∧ g < G.length ∧ c < L.length ∧ (G.getD g grZ).2.2.2.length = L.length ∧ x ≤ y ∧ y ≤ ((G.getD g grZ).2.2.2.getD c chZ).2.2.length ∧ pagesAt (footP L r G).groups g c = ((G.getD g grZ).2.2.2.getD c chZ).2.2 := by
  obtain ⟨g, c, x, y, hp, hg, hc, hxy, hy⟩ := parts_is h (mem_getDF partZ hk)
  have hG : g < G.length := by unfold footP at hg; simpa using hg
  have hDl : (G.getD g grZ).2.2.2.length = L.length := by
    have := (foot_group (okQ_foot h) (k := g) hg).2.1
    unfold footP at this
    dsimp only at this
    rw [getD_mapX grP G grZ groupZ hG] at this
    unfold grP at this
    simpa using this
  have hcL : c < L.length := hc
  have hpa : pagesAt (footP L r G).groups g c = ((G.getD g grZ).2.2.2.getD c chZ).2.2 := by
    unfold pagesAt footP
    dsimp only
    rw [getD_mapX grP G grZ groupZ hG]
    exact getD_mapX (fun x : ChD => x.2.2) (G.getD g grZ).2.2.2 chZ [] (by omega)
  rw [hpa] at hy
  exact ⟨g, c, x, y, hp, hG, hcL, hDl, hxy, hy, hpa⟩
theorem dig_step (h : okQ (footP L r G) Q f t = true) {n0 : Int} (hn : -1 ≤ n0 ∧ n0 ≤ 65536) {k : Nat} (hk : k < (partsQ (okQ (footP L r G) Q f t) (footP L r G) Q f t).length) :
    ∃ g c x y : Nat, (partsQ (okQ (footP L r G) Q f t) (footP L r G) Q f t).getD k partZ = ((g : Int), (c : Int), (x : Int), (y : Int)) ∧ g < G.length ∧ c < L.length ∧ (G.getD g grZ).2.2.2.length = L.length ∧
      digTo (footP L r G) n0 (partsQ (okQ (footP L r G) Q f t) (footP L r G) Q f t) (k + 1) = digTo (footP L r G) n0 (partsQ (okQ (footP L r G) Q f t) (footP L r G) Q f t) k + needI (((G.getD g grZ).2.2.2.getD c chZ).2.2.length : Nat) x y + needI (L.length : Nat) c (c + 1) ∧
      -1000000000000 ≤ digTo (footP L r G) n0 (partsQ (okQ (footP L r G) Q f t) (footP L r G) Q f t) k ∧ digTo (footP L r G) n0 (partsQ (okQ (footP L r G) Q f t) (footP L r G) Q f t) k ≤ 1000000000000 := by
  obtain ⟨g, c, x, y, hp, hG, hcL, hDl, hxy, hy, hpa⟩ := part_step h hk
  have hs := digTo_succ (footP L r G) n0 _ hk
  have hb := digTo_bnd (footP L r G) n0 (partsQ (okQ (footP L r G) Q f t) (footP L r G) Q f t) k (Nat.le_of_lt hk)
  have hl := parts_len h
  refine ⟨g, c, x, y, hp, hG, hcL, hDl, ?_, ?_, ?_⟩
  · rw [hs, hp]
    unfold digA digB
    dsimp only
    rw [Int.toNat_natCast, Int.toNat_natCast, hpa]
    rfl
  · generalize digTo (footP L r G) n0 (partsQ (okQ (footP L r G) Q f t) (footP L r G) Q f t) k = z at *
    generalize (partsQ (okQ (footP L r G) Q f t) (footP L r G) Q f t).length = z2 at *
    clear hs
    omega
  · generalize digTo (footP L r G) n0 (partsQ (okQ (footP L r G) Q f t) (footP L r G) Q f t) k = z at *
    generalize (partsQ (okQ (footP L r G) Q f t) (footP L r G) Q f t).length = z2 at *
    clear hs
    omega
set_option maxHeartbeats 8000000 in
set_option maxRecDepth 100000 in
theorem pdigests_any (h : FQ w Ac cc L r Ag cg G Aq cq Q) :
    Calls Try.prog 16 #[.agg #[.slice Ac L.length cc, .int .i64 r, .slice Ag G.length cg], qV Aq cq Q f t] w (NewPost (.int .i64 (digestsQ (okQ (footP L r G) Q f t) (footP L r G) Q f t)) w) := by
  have P1 := Lib.hid (fun (W : World) (hW : New w W) => pfits_any (f := f) (t := t) (h.later hW))
  have P2 := Lib.hid (fun (W : World) (hW : New w W) => pgroups_any (f := f) (t := t) (h.later hW))
  have P3 := Lib.hid (fun (W : World) (hW : New w W) => pparts_any (f := f) (t := t) (h.later hW))
  have hGl : (footP L r G).groups.length = G.length := by unfold footP; simp
  have HG := Lib.hid h.foot.groups
  have HCH := Lib.hid h.foot.chunks
  have HPG := Lib.hid h.foot.pages
  have hfewL := h.foot.few
  have hfewG := h.fewG
  have hfewq := h.fewq
  have NB := Lib.hid needI_bnd
  have OV := fun (e : okQ (footP L r G) Q f t = true) => show ((groupsQ (okQ (footP L r G) Q f t) (footP L r G) f t).1 ≤ (groupsQ (okQ (footP L r G) Q f t) (footP L r G) f t).2 ∧ (groupsQ (okQ (footP L r G) Q f t) (footP L r G) f t).2 ≤ 65536) ∧ (partsQ (okQ (footP L r G) Q f t) (footP L r G) Q f t).length ≤ 4194304 from by
    have h1 := groupsQ_le e
    have h2 := rows_sum_le (okQ_foot e)
    have h3 := parts_len e
    refine ⟨?_, h3⟩
    rw [e]
    omega
  have ST := fun (e : okQ (footP L r G) Q f t = true) (n0 : Int) (hn : -1 ≤ n0 ∧ n0 ≤ 65536) (k : Nat) hk => dig_step e hn (k := k) hk
  have S0 := Lib.hid (fun (n0 : Int) => digTo_zero (footP L r G) n0 (partsQ (okQ (footP L r G) Q f t) (footP L r G) Q f t))
  obtain ⟨X, hX⟩ : ∃ X, X = digestsQ (okQ (footP L r G) Q f t) (footP L r G) Q f t := ⟨_, rfl⟩
  rw [← hX]
  unfold digestsQ at hX
  rw [hGl] at hX
  clear h hGl
  generalize hPQ : partsQ (okQ (footP L r G) Q f t) (footP L r G) Q f t = l at *
  generalize hGQ : groupsQ (okQ (footP L r G) Q f t) (footP L r G) f t = ab at *
  generalize okQ (footP L r G) Q f t = M at *
  generalize hDT : digTo (footP L r G) = DT at *
  obtain ⟨a, b⟩ := ab
  dsimp only at hX OV
  clear hPQ hGQ hDT
  have HX := Lib.hid hX
  have HOV := Lib.hid OV
  have HST := Lib.hid ST
  clear hX OV ST
  have B0 := (Blk.new w 25 #[.slice Ac L.length cc, .int .i64 r, .slice Ag G.length cg]).alloc (.cells #[.slice Aq Q.length cq, .int .i64 f, .int .i64 t] 28)
  have B1 := Blk.new (w.alloc (.cells #[.slice Ac L.length cc, .int .i64 r, .slice Ag G.length cg] 25)) 28 #[.slice Aq Q.length cq, .int .i64 f, .int .i64 t]
  have b0 := new2 w (.cells #[.slice Ac L.length cc, .int .i64 r, .slice Ag G.length cg] 25) (.cells #[.slice Aq Q.length cq, .int .i64 f, .int .i64 t] 28)
  simp only [World.size_alloc] at B1
  obtain ⟨x0, x1, x2⟩ := ccells B0
  obtain ⟨y0, y1, y2⟩ := ccells B1
  go_enter Try.func16, Try.ntmps16
  go_wp2_with fail
  refine (P1.out _ b0).mono ?_
  rintro e w1 ⟨rfl, b1⟩
  have B0 := B0.below b1 B0.lt
  have B1 := B1.below b1 B1.lt
  have b01 := New.trans b0 b1
  clear x0 x1 x2 y0 y1 y2 b0 b1 P1
  cases M with
  | false =>
    have e1 : X = -1 := HX.out
    subst e1
    go_wp2
    go_ret
    exact ⟨rfl, b01⟩
  | true =>
    obtain ⟨⟨hab, hb65⟩, hl4⟩ := HOV.out rfl
    have HST2 := Lib.hid (HST.out rfl)
    have hx1 := HX.out
    rw [if_pos rfl] at hx1
    replace HX := Lib.hid hx1
    clear HST HOV hx1
    obtain ⟨x0, x1, x2⟩ := ccells B0
    obtain ⟨y0, y1, y2⟩ := ccells B1
    go_wp2_with fail
    refine (P2.out _ b01).mono ?_
    rintro e w2 ⟨rfl, b2⟩
    unfold pairN
    have B0 := B0.below b2 B0.lt
    have B1 := B1.below b2 B1.lt
    have b02 := New.trans b01 b2
    clear x0 x1 x2 y0 y1 y2 b01 b2 P2
    obtain ⟨x0, x1, x2⟩ := ccells B0
    obtain ⟨n0, hn0⟩ : ∃ n0, n0 = needI (G.length : Nat) (a : Nat) (b : Nat) := ⟨_, rfl⟩
    have hnb := NB.out (G.length : Nat) (a : Nat) (b : Nat)
    have N1 := Lib.hid (fun (W : World) => pneed_any (G.length : Nat) (a : Nat) (b : Nat) W (by omega) (by omega))
    rw [← hn0] at N1 hnb HX
    clear hn0
    dsimp only
    go_wp2_with fail
    refine (N1.out _).mono ?_
    rintro e w3 ⟨rfl, b3⟩
    have B0 := B0.below b3 B0.lt
    have B1 := B1.below b3 B1.lt
    have b03 := New.trans b02 b3
    clear x0 x1 x2 N1 b02 b3
    obtain ⟨x0, x1, x2⟩ := ccells B0
    obtain ⟨y0, y1, y2⟩ := ccells B1
    have HSTn := Lib.hid (HST2.out n0 hnb)
    have S0n := Lib.hid (S0.out n0)
    clear HST2 S0
    by_cases hq : Q.length = 0
    · have hX2 := HX.out
      rw [if_pos hq] at hX2
      have HX2 := Lib.hid hX2
      have e0 : ((Q.length : Int) == 0) = true := by rw [hq]; rfl
      have hw1 : IntKind.i64.wrap (n0 + (b : Int)) = n0 + (b : Int) := by rw [IntKind.wrap_i64]; omega
      have hw2 : IntKind.i64.wrap (n0 + (b : Int) - (a : Int)) = n0 + (b : Int) - (a : Int) := by rw [IntKind.wrap_i64]; omega
      have HQ := Lib.hid hq
      clear hq hX2
      go_wp2
      go_ret
      exact ⟨by rw [HX2.out]; rfl, b03⟩
    · have hX2 := HX.out
      rw [if_neg hq] at hX2
      have HX2 := Lib.hid hX2
      have e0 : ((Q.length : Int) == 0) = false := by rw [beq_eq_false_iff_ne]; omega
      have HQ := Lib.hid hq
      clear hq hX2
      go_wp2_with fail
      refine (P3.out _ b03).mono ?_
      rintro e w4 ⟨A4, n4, c4, rfl, hn4, o4, b4⟩
      subst hn4
      have B0 := B0.below b4 B0.lt
      have R4 := Lib.hid (Reads.of_own o4)
      have hz4 := b4.size
      have b04 := New.trans b03 b4
      clear x0 x1 x2 y0 y1 y2 B1 o4 b4 b03 P3
      go_wp2_with fail
      go_loopw [7, 39] (fun v i wr => ∃ k : Nat, k ≤ l.length ∧ i = .int .i64 (k : Int) ∧ v = .int .i64 (DT n0 l k) ∧ Blk wr w.heap.size 25 #[.slice Ac L.length cc, .int .i64 r, .slice Ag G.length cg] ∧ New w4 wr) (fun _ i _ => l.length - (intOf i).toNat)
      case atStart => exact ⟨0, Nat.zero_le _, rfl, by rw [S0n.out], B0, New.refl _⟩
      case round =>
        obtain ⟨k, hk, rfl, rfl, B, b⟩ := hrel
        clear B0 S0n
        by_cases hlt : k < l.length
        · obtain ⟨g, c, x, y, hp, hgG, hcL, hDl, hst, hd0, hd1⟩ := HSTn.out k hlt
          obtain ⟨ad, rfl, -, p0, p1, p2, p3⟩ := read_part4 (Reads.later R4.out b) hlt
          rw [hp] at p0 p1 p2 p3
          dsimp only at p0 p1 p2 p3
          have bw := New.trans b04 b
          obtain ⟨ag, rfl, -, -, -⟩ := (Reads.later HG.out bw).gr2 hgG
          have FG := Lib.hid (fun (W : World) (hW : New w W) => show W.cell? ⟨(ag.add (g * 2)).block, (ag.add (g * 2)).off + 1, none⟩ = some (.slice (G.getD g grZ).2.1 (G.getD g grZ).2.2.2.length (G.getD g grZ).2.2.1) from by
            obtain ⟨a', e, _, _, f⟩ := (Reads.later HG.out hW).gr2 hgG
            injection e with e
            subst e
            exact f)
          have hgm := mem_getDF grZ hgG
          have hch := HCH.out _ hgm
          have hpg := HPG.out _ hgm
          clear hgm hp
          generalize G.getD g grZ = gg at *
          obtain ⟨gr, Ach, cch, D⟩ := gg
          dsimp only at FG hch hpg hDl hst
          have hcD : c < D.length := by omega
          obtain ⟨ac, rfl, -, -⟩ := (Reads.later hch.1 bw).ch1 hcD
          have FC := Lib.hid (fun (W : World) (hW : New w W) => show W.cell? (ac.add c) = some (.slice (D.getD c chZ).1 (D.getD c chZ).2.2.length (D.getD c chZ).2.1) from by
            obtain ⟨a', e, _, f⟩ := (Reads.later hch.1 hW).ch1 hcD
            injection e with e
            subst e
            exact f)
          have hpn := (hpg _ (mem_getDF chZ hcD)).2
          clear hch hpg
          generalize D.getD c chZ = xx at *
          obtain ⟨Ax, cx, pl⟩ := xx
          dsimp only at FC hpn hst
          have N2 := Lib.hid (fun (W : World) => pneed_any (pl.length : Nat) (x : Nat) (y : Nat) W (by omega) (by omega))
          have N3 := Lib.hid (fun (W : World) => pneed_any (L.length : Nat) (c : Nat) ((c : Int) + 1) W (by omega) (by omega))
          have nb2 := NB.out (pl.length : Nat) (x : Nat) (y : Nat)
          have nb3 := NB.out (L.length : Nat) (c : Nat) ((c : Int) + 1)
          generalize needI (pl.length : Nat) (x : Nat) (y : Nat) = nA at *
          generalize needI (L.length : Nat) (c : Nat) ((c : Int) + 1) = nB at *
          have HSt := Lib.hid hst
          clear hst
          generalize DT n0 l k = Dk at *
          have wA : IntKind.i64.wrap (Dk + nA) = Dk + nA := by rw [IntKind.wrap_i64]; omega
          have wB : IntKind.i64.wrap (Dk + nA + nB) = Dk + nA + nB := by rw [IntKind.wrap_i64]; omega
          have wC : IntKind.i64.wrap ((c : Int) + 1) = (c : Int) + 1 := by rw [IntKind.wrap_i64]; omega
          have hkl : (k : Int) < (l.length : Int) := by omega
          have hgi : (g : Int) < (G.length : Int) := by omega
          have hci : (c : Int) < (D.length : Int) := by omega
          have HDl := Lib.hid hDl
          clear hDl
          have ha : New wr (wr.alloc (.cells #[.int .i64 (g : Int), .int .i64 (c : Int), .int .i64 (x : Int), .int .i64 (y : Int)] 40)) := (Below.refl _ _).alloc (Nat.le_refl _) _
          have BR := Blk.new wr 40 #[.int .i64 (g : Int), .int .i64 (c : Int), .int .i64 (x : Int), .int .i64 (y : Int)]
          have Br := B.below ha B.lt
          have bwa := New.trans bw ha
          have ba := New.trans b ha
          have F3 := Lib.hid (fun (W : World) (hW : New (wr.alloc (.cells #[.int .i64 (g : Int), .int .i64 (c : Int), .int .i64 (x : Int), .int .i64 (y : Int)] 40)) W) => And.intro (Br.below hW Br.lt) (And.intro (BR.below hW BR.lt) (And.intro (FG.out W (New.trans bwa hW)) (FC.out W (New.trans bwa hW)))))
          clear B Br BR bw ha FG FC bwa
          go_wp2_with fail
          clear p0 p1 p2 p3
          generalize wr.alloc (.cells #[.int .i64 (g : Int), .int .i64 (c : Int), .int .i64 (x : Int), .int .i64 (y : Int)] 40) = wa at *
          refine wp_region_up New [(true, 0), (true, 1), (true, 2), (true, 3), (true, 4), (true, 5), (true, 6), (true, 7), (true, 8), (true, 9), (true, 10), (true, 11), (true, 12), (true, 13), (true, 14), (true, 15), (true, 16), (false, 17), (true, 18), (true, 19)]
            New.refl New.trans (by kernel_rfl) (by kernel_rfl) (by kernel_rfl) (by kernel_rfl) ?_
          have hU := New.drew wa
          repeat (first
            | (refine up_quiet rfl rfl (v := ?_) (fun W hQ => ?_) ?_; rotate_left; (obtain ⟨F1, F2, g1, c1⟩ := F3.out W (New.trans hU hQ); obtain ⟨x0, x1, x2⟩ := ccells F1; obtain ⟨y0, y1, y2, y3⟩ := cells4 F2; clear F1 F2; go_simp <;> with_reducible rfl); simp only [Act.put, List.setIfInBounds_toArray, List.set_cons_zero, List.set_cons_succ]))
          refine up_call rfl rfl (fun K hK => ?_)
          go_simp
          refine (N2.out _).mono ?_
          rintro e w5 ⟨rfl, b5⟩
          refine hK _ _ b5 ?_
          clear hK
          replace hU := New.trans hU b5
          clear b5
          repeat (first
            | (refine up_quiet rfl rfl (v := ?_) (fun W hQ => ?_) ?_; rotate_left; (go_simp <;> with_reducible rfl); simp only [Act.put, List.setIfInBounds_toArray, List.set_cons_zero, List.set_cons_succ]))
          refine up_nil ?_
          obtain ⟨F1, F2, -, -⟩ := F3.out _ hU
          obtain ⟨x0, x1, x2⟩ := ccells F1
          obtain ⟨y0, y1, y2, y3⟩ := cells4 F2
          have b6 := New.trans ba hU
          clear F2 F3 ba hU N2
          go_wp2_with fail
          refine (N3.out _).mono ?_
          rintro e w6 ⟨rfl, b7⟩
          have B7 := F1.below b7 F1.lt
          have b8 := New.trans b6 b7
          clear x0 x1 x2 y0 y1 y2 y3 F1 b6 b7 N3
          go_wp2_with fail
          go_roundw
          case rel => exact ⟨k + 1, by omega, by go_num, by rw [HSt.out], B7, b8⟩
          case measure => simp [intOf]; omega
        · obtain rfl : k = l.length := by omega
          go_wp2_with fail
          go_ret
          exact ⟨by rw [HX2.out]; rfl, New.trans b04 b⟩
end

end Go.Proofs.Ythmjbdpkdomofaa
/- Plain: the bytes of parts, step by step. -/

namespace Go.Proofs.Ythmjbdpkdomofaa
open Go Go.RowKit Go.Hm
theorem sizes_mono {l : List PageS} (h : ∀ i, i < l.length → 1 ≤ (l.getD i pageZ).1) (x : Nat) : ∀ d, x + d ≤ l.length → sizesL (l.take x) ≤ sizesL (l.take (x + d))
  | 0, _ => Int.le_refl _
  | d + 1, hd => by
    have ih := sizes_mono h x d (by omega)
    have h1 := h (x + d) (by omega)
    have h2 := sizesL_take_succ (l := l) (k := x + d) (by omega)
    rw [show x + (d + 1) = x + d + 1 by omega, h2]
    omega
theorem sizes_most {F : FootS} (h : FootOk F) {g c : Nat} (hg : g < F.groups.length) (hc : c < F.cols.length) : ∀ q, q ≤ (pagesAt F.groups g c).length → sizesL ((pagesAt F.groups g c).take q) ≤ 1073741824
  | 0, _ => by simp [sizesL]
  | q + 1, hq => by
    have h1 := placeV_page h hg hc (q := q) (by omega)
    have h0 := (placeV_page h hg hc (q := 0) (by omega)).1
    have h2 := h1.2.2.1
    clear h1
    unfold placeV at h0 h2
    have : sizesL ((pagesAt F.groups g c).take 0) = 0 := by simp [sizesL]
    rw [this] at h0
    omega
theorem sizes_in {F : FootS} (h : FootOk F) {g c : Nat} (hg : g < F.groups.length) (hc : c < F.cols.length) {x q : Nat} (hx : x ≤ q) (hq : q ≤ (pagesAt F.groups g c).length) :
    0 ≤ sizesL ((pagesAt F.groups g c).take q) - sizesL ((pagesAt F.groups g c).take x) ∧ sizesL ((pagesAt F.groups g c).take q) - sizesL ((pagesAt F.groups g c).take x) ≤ 1073741824 := by
  have hp : ∀ i, i < (pagesAt F.groups g c).length → 1 ≤ ((pagesAt F.groups g c).getD i pageZ).1 := fun i hi => (placeV_page h hg hc hi).2.2.2
  have h1 := sizes_mono hp x (q - x) (by omega)
  rw [show x + (q - x) = q by omega] at h1
  have h2 := sizes_most h hg hc q hq
  have h3 := sizes_mono hp 0 x (by omega)
  have : sizesL ((pagesAt F.groups g c).take 0) = 0 := by simp [sizesL]
  rw [this, Nat.zero_add] at h3
  omega
def byTo (F : FootS) (l : List PartS) (k : Nat) : Int := ((l.take k).map (partSize F)).sum
theorem byTo_zero (F : FootS) (l : List PartS) : byTo F l 0 = 0 := by simp [byTo]
theorem byTo_succ (F : FootS) (l : List PartS) {k : Nat} (h : k < l.length) : byTo F l (k + 1) = byTo F l k + partSize F (l.getD k partZ) := by
  unfold byTo
  rw [take_snoc l k partZ h, List.map_append, List.sum_append]
  simp
theorem part_size {F : FootS} (h : FootOk F) {p : PartS} (hp : IsPart F p) : 0 ≤ partSize F p ∧ partSize F p ≤ 1073741824 := by
  obtain ⟨g, c, x, y, rfl, hg, hc, hxy, hy⟩ := hp
  have := sizes_in h hg hc hxy hy
  unfold partSize
  dsimp only
  simp only [Int.toNat_natCast]
  exact this
theorem byTo_bnd {F : FootS} (h : FootOk F) {l : List PartS} (hl : ∀ p ∈ l, IsPart F p) : ∀ k, k ≤ l.length → 0 ≤ byTo F l k ∧ byTo F l k ≤ 1073741824 * (k : Int)
  | 0, _ => by rw [byTo_zero]; omega
  | k + 1, hk => by
    have ih := byTo_bnd h hl k (by omega)
    have := part_size h (hl _ (mem_getDF partZ (show k < l.length by omega)))
    rw [byTo_succ F l (by omega)]
    omega
theorem bytes_parts {F : FootS} {Q : List Int} {f t : Int} (h : okQ F Q f t = true) : byTo F (partsQ (okQ F Q f t) F Q f t) (partsQ (okQ F Q f t) F Q f t).length = bytesQ (okQ F Q f t) F Q f t := by
  unfold byTo bytesQ
  rw [List.take_length, h, if_pos rfl]
  exact parts_bytes (okQ_foot h) (okQ_cols h).1 f t

section
variable {Ac : Option Addr} {cc : Nat} {L : List ColS} {r : Int} {Ag : Option Addr} {cg : Nat} {G : List GrD} {Q : List Int} {f t : Int}
theorem byte_step (h : okQ (footP L r G) Q f t = true) {k : Nat} (hk : k < (partsQ (okQ (footP L r G) Q f t) (footP L r G) Q f t).length) :
    ∃ g c x y : Nat, (partsQ (okQ (footP L r G) Q f t) (footP L r G) Q f t).getD k partZ = ((g : Int), (c : Int), (x : Int), (y : Int)) ∧ g < G.length ∧ c < L.length ∧ (G.getD g grZ).2.2.2.length = L.length ∧ x ≤ y ∧ y ≤ ((G.getD g grZ).2.2.2.getD c chZ).2.2.length ∧
      ∃ V : Nat → Int, V x = byTo (footP L r G) (partsQ (okQ (footP L r G) Q f t) (footP L r G) Q f t) k ∧ V y = byTo (footP L r G) (partsQ (okQ (footP L r G) Q f t) (footP L r G) Q f t) (k + 1) ∧
      ∀ q, x ≤ q → q < y → V (q + 1) = V q + (((G.getD g grZ).2.2.2.getD c chZ).2.2.getD q pageZ).1 ∧ 0 ≤ V q ∧ V q ≤ 10000000000000000 ∧ 0 ≤ (((G.getD g grZ).2.2.2.getD c chZ).2.2.getD q pageZ).1 ∧ (((G.getD g grZ).2.2.2.getD c chZ).2.2.getD q pageZ).1 ≤ 1073741824 := by
  obtain ⟨g, c, x, y, hp, hG, hcL, hDl, hxy, hy, hpa⟩ := part_step h hk
  have hgF : g < (footP L r G).groups.length := by unfold footP; simpa using hG
  have hcF : c < (footP L r G).cols.length := hcL
  have hs := byTo_succ (footP L r G) _ hk
  have hb := byTo_bnd (okQ_foot h) (fun p hp => parts_is h hp) k (Nat.le_of_lt hk)
  have hl := parts_len h
  have hpg := fun q (hq : q < (pagesAt (footP L r G).groups g c).length) => placeV_page (okQ_foot h) hgF hcF hq
  have hin := fun q (h1 : x ≤ q) (hq : q ≤ (pagesAt (footP L r G).groups g c).length) => sizes_in (okQ_foot h) hgF hcF h1 hq
  rw [hp] at hs
  unfold partSize at hs
  dsimp only at hs
  simp only [Int.toNat_natCast] at hs
  rw [hpa] at hs hpg hin
  refine ⟨g, c, x, y, hp, hG, hcL, hDl, hxy, hy, fun q => byTo (footP L r G) (partsQ (okQ (footP L r G) Q f t) (footP L r G) Q f t) k + (sizesL (((G.getD g grZ).2.2.2.getD c chZ).2.2.take q) - sizesL (((G.getD g grZ).2.2.2.getD c chZ).2.2.take x)), ?_, ?_, ?_⟩
  · dsimp only
    omega
  · dsimp only
    rw [hs]
  · intro q h1 h2
    have e := sizesL_take_succ (l := ((G.getD g grZ).2.2.2.getD c chZ).2.2) (k := q) (by omega)
    have i1 := hin q h1 (by omega)
    have i2 := hin (q + 1) (by omega) (by omega)
    have p1 := (hpg q (by omega)).2.2.2
    have i0 := sizes_in (okQ_foot h) hgF hcF (x := q) (q := q + 1) (by omega) (by rw [hpa]; omega)
    rw [hpa] at i0
    dsimp only
    generalize (partsQ (okQ (footP L r G) Q f t) (footP L r G) Q f t).length = n at *
    generalize byTo (footP L r G) (partsQ (okQ (footP L r G) Q f t) (footP L r G) Q f t) k = b0 at *
    clear hs hpg hin hp
    generalize sizesL (((G.getD g grZ).2.2.2.getD c chZ).2.2.take q) = s0 at *
    generalize sizesL (((G.getD g grZ).2.2.2.getD c chZ).2.2.take (q + 1)) = s1 at *
    generalize sizesL (((G.getD g grZ).2.2.2.getD c chZ).2.2.take x) = s2 at *
    generalize (((G.getD g grZ).2.2.2.getD c chZ).2.2.getD q pageZ).1 = z at *
    refine ⟨?_, ?_, ?_, ?_, ?_⟩ <;> omega
end

end Go.Proofs.Ythmjbdpkdomofaa
/- Plain: footers of data. -/

namespace Go.Proofs.Ythmjbdpkdomofaa
open Go.RowKit Go.Hm
/-- Names of bytes, stats of data. -/
def FootData (F : FootS) : Prop := (∀ c ∈ F.cols, ∀ z ∈ c.1, z < 256) ∧ ∀ g ∈ F.groups, ∀ l ∈ g.2, ∀ p ∈ l, statData p.2.2

end Go.Proofs.Ythmjbdpkdomofaa
