/- Contracts of the answer's Over and Spans. -/
import Derived.Test.YtpbfohgmhjadpaaLayO

namespace Go.Hm
/-- What a walk through the first k spans has seen. -/
def Seen (l : List (Int × Int)) (f t : Int) (k : Nat) (first : Int) (last : Nat) : Prop :=
  (first = -1 ∧ last = 0 ∧ ∀ i, i < k → ¬ hasS (l.getD i (0, 0)) f t) ∨
  (∃ a : Nat, first = (a : Int) ∧ a < last ∧ last ≤ k ∧ hasS (l.getD a (0, 0)) f t ∧ hasS (l.getD (last - 1) (0, 0)) f t ∧ (∀ i, i < a → ¬ hasS (l.getD i (0, 0)) f t) ∧ ∀ i, last ≤ i → i < k → ¬ hasS (l.getD i (0, 0)) f t)
theorem Seen.zero (l : List (Int × Int)) (f t : Int) : Seen l f t 0 (-1) 0 := .inl ⟨rfl, rfl, fun i h => by omega⟩
theorem Seen.no {l : List (Int × Int)} {f t : Int} {k : Nat} {first : Int} {last : Nat} (h : Seen l f t k first last) (hn : ¬ hasS (l.getD k (0, 0)) f t) : Seen l f t (k + 1) first last := by
  rcases h with ⟨h1, h2, h3⟩ | ⟨a, h1, h2, h3, h4, h5, h6, h7⟩
  · refine .inl ⟨h1, h2, fun i hi => ?_⟩
    by_cases e : i = k
    · subst e; exact hn
    · exact h3 i (by omega)
  · refine .inr ⟨a, h1, h2, by omega, h4, h5, h6, fun i hi hi2 => ?_⟩
    by_cases e : i = k
    · subst e; exact hn
    · exact h7 i hi (by omega)
theorem Seen.first {l : List (Int × Int)} {f t : Int} {k : Nat} {first : Int} {last : Nat} (h : Seen l f t k first last) (hf : first < 0) (hy : hasS (l.getD k (0, 0)) f t) : Seen l f t (k + 1) (k : Int) (k + 1) := by
  rcases h with ⟨h1, h2, h3⟩ | ⟨a, h1, _⟩
  · exact .inr ⟨k, rfl, by omega, by omega, hy, by simpa using hy, h3, fun i hi hi2 => by omega⟩
  · omega
theorem Seen.more {l : List (Int × Int)} {f t : Int} {k : Nat} {first : Int} {last : Nat} (h : Seen l f t k first last) (hf : ¬ first < 0) (hy : hasS (l.getD k (0, 0)) f t) : Seen l f t (k + 1) first (k + 1) := by
  rcases h with ⟨h1, h2, h3⟩ | ⟨a, h1, h2, h3, h4, h5, h6, h7⟩
  · omega
  · exact .inr ⟨a, h1, by omega, by omega, h4, by simpa using hy, h6, fun i hi hi2 => by omega⟩
theorem Seen.over {l : List (Int × Int)} (hu : UpS l) {f t : Int} {first : Int} {last : Nat} (h : Seen l f t l.length first last) : (first < 0 → IsOver l f t 0 0) ∧ (¬ first < 0 → ∃ a : Nat, first = (a : Int) ∧ IsOver l f t a last) := by
  rcases h with ⟨h1, h2, h3⟩ | ⟨a, h1, h2, h3, h4, h5, h6, h7⟩
  · exact ⟨fun _ => over_none h3, fun hh => by omega⟩
  · refine ⟨fun hh => by omega, fun _ => ⟨a, h1, by omega, h3, .inl h2, fun i hi => ⟨fun hh => has_between hu hh.1 (by omega) (by omega) h4 h5, fun hh => ?_⟩⟩⟩
    refine ⟨?_, ?_⟩
    · rcases Nat.lt_or_ge i a with h | h
      · exact absurd hh (h6 i h)
      · exact h
    · rcases Nat.lt_or_ge i last with h | h
      · exact h
      · exact absurd hh (h7 i h hi)
theorem has_maxmin {x : Int × Int} {f t : Int} (hx : x.1 < x.2) : (if x.1 < f then f else x.1) < (if t < x.2 then t else x.2) ↔ hasS x f t := by
  unfold hasS
  split <;> split <;> omega

end Go.Hm

namespace Go.Proofs.Ytpbfohgmhjadpaa
open Go.RowKit Go.Hm

set_option maxHeartbeats 1000000 in
set_option maxRecDepth 100000 in
theorem rover_any {w : World} {A : Option Addr} {n c : Nat} {l : List (Int × Int)} {f t : Int} (hr : Reads w w.heap.size 2 A n (pairs l)) (hu : UpS l) (hn : n ≤ 4611686018427387903) :
    Calls Try.prog 13 #[.slice A n c, .int .i64 f, .int .i64 t] w (OverPost l f t w) := by
  obtain rfl := hr.lenP
  have HU := Lib.hid hu
  clear hu
  go_enter Try.func13, Try.ntmps13
  go_wp2
  go_loopw [8, 9, 10] (fun x y z wr => ∃ (first : Int) (last k q : Nat), x = .int .i64 first ∧ y = .int .i64 (last : Int) ∧ z = .int .i64 (k : Int) ∧ k ≤ l.length ∧ wr = w.drewN q ∧ Hid (Seen l f t k first last)) (fun _ _ z _ => l.length - (intOf z).toNat)
  case atStart => exact ⟨-1, 0, 0, 0, rfl, rfl, rfl, by omega, rfl, Lib.hid (Seen.zero l f t)⟩
  case round =>
    obtain ⟨first, last, k, q, rfl, rfl, rfl, hk, rfl, H⟩ := hrel
    by_cases hlt : k < l.length
    · obtain ⟨ad, rfl, hb, h1, h2⟩ := (hr.drewN q).pair2 hlt
      have hup := HU.out.2 k hlt
      have M := has_maxmin (f := f) (t := t) hup
      have N1 := Lib.hid H.out.no
      have N2 := Lib.hid H.out.first
      have N3 := Lib.hid H.out.more
      generalize hasS (l.getD k (0, 0)) f t = ph at *
      generalize (l.getD k (0, 0)).1 = y1 at *
      generalize (l.getD k (0, 0)).2 = y2 at *
      have hiz : (k : Int) < (l.length : Int) := by omega
      clear H hup
      have hbb : (ad.add (k * 2)).block < (w.drewN q).drew.heap.size := by rw [block_of_add]; exact hb
      have C1 := Lib.hid (cell_new h1 hbb)
      have C2 := Lib.hid (cell_new h2 hbb)
      go_wp2_with fail
      refine wp_region_up New [(true, 0), (true, 1), (true, 2), (true, 3), (true, 4), (true, 5), (true, 6), (true, 7), (true, 8), (true, 9), (true, 10), (true, 11), (true, 12), (true, 13), (true, 14)]
        New.refl New.trans (by kernel_rfl) (by kernel_rfl) (by kernel_rfl) (by kernel_rfl) ?_
      repeat (first
        | (refine up_quiet rfl rfl (v := ?_) (fun W hW => ?_) ?_; rotate_left; (have g1 := C1.out W hW; have g2 := C2.out W hW; go_simp <;> with_reducible rfl); simp only [Act.put, List.setIfInBounds_toArray, List.set_cons_zero, List.set_cons_succ]))
      refine up_nil ?_
      have HM := Lib.hid M
      clear M
      go_wp2
      · rename_i x1 x2
        go_roundw
        case rel => exact ⟨(k : Int), k + 1, k + 1, q + 1, rfl, by go_num, by go_num, by omega, rfl, Lib.hid (N2.out x2 (HM.out.1 x1))⟩
        case measure => simp [intOf]; omega
      · rename_i x1 x2
        go_roundw
        case rel => exact ⟨first, k + 1, k + 1, q + 1, rfl, by go_num, by go_num, by omega, rfl, Lib.hid (N3.out (by omega) (HM.out.1 x1))⟩
        case measure => simp [intOf]; omega
      · rename_i x1
        go_roundw
        case rel => exact ⟨first, last, k + 1, q + 1, rfl, rfl, by go_num, by omega, rfl, Lib.hid (N1.out (fun hh => by have := HM.out.2 hh; omega))⟩
        case measure => simp [intOf]; omega
    · obtain rfl : k = l.length := by omega
      obtain ⟨o1, o2⟩ := H.out.over HU.out
      have O1 := Lib.hid o1
      have O2 := Lib.hid o2
      clear H o1 o2
      by_cases hf : first < 0
      · have o := Lib.hid (O1.out hf)
        clear O1 O2
        go_wp2
        go_ret2
        exact ⟨0, 0, rfl, o.out, new_drewN _ _⟩
      · obtain ⟨a, rfl, o⟩ := O2.out hf
        have o := Lib.hid o
        clear O1 O2 hf
        go_wp2
        go_ret2
        exact ⟨a, last, rfl, o.out, new_drewN _ _⟩

set_option maxHeartbeats 1000000 in
set_option maxRecDepth 100000 in
theorem spans_any {w : World} {A A2 : Option Addr} {n c c2 : Nat} {l : List (Int × Int)} (h : Reads w w.heap.size 2 A n (pairs l)) (h2 : Reads w w.heap.size 2 A2 n (pairs l)) (hn : n ≤ 4611686018427387903) :
    Calls Try.prog 14 #[.slice A n c, .slice A2 n c2] w (NewPost (.bool true) w) := by
  obtain rfl := h.lenP
  go_enter Try.func14, Try.ntmps14
  go_wp2
  go_loopw [5] (fun z wr => ∃ (k q : Nat), z = .int .i64 (k : Int) ∧ k ≤ l.length ∧ wr = w.drewN q) (fun z _ => l.length - (intOf z).toNat)
  case atStart => exact ⟨0, 0, rfl, by omega, rfl⟩
  case round =>
    obtain ⟨k, q, rfl, hk, rfl⟩ := hrel
    by_cases hlt : k < l.length
    · obtain ⟨ad, rfl, hb, h3, h4⟩ := (h.drewN q).pair2 hlt
      obtain ⟨ad2, rfl, hb2, h5, h6⟩ := (h2.drewN q).pair2 hlt
      generalize (l.getD k (0, 0)).1 = y1 at *
      generalize (l.getD k (0, 0)).2 = y2 at *
      have hiz : (k : Int) < (l.length : Int) := by omega
      have hbb : (ad.add (k * 2)).block < (w.drewN q).drew.heap.size := by rw [block_of_add]; exact hb
      have hbb2 : (ad2.add (k * 2)).block < (w.drewN q).drew.heap.size := by rw [block_of_add]; exact hb2
      have C1 := Lib.hid (cell_new h3 hbb)
      have C2 := Lib.hid (cell_new h4 hbb)
      have C3 := Lib.hid (cell_new h5 hbb2)
      have C4 := Lib.hid (cell_new h6 hbb2)
      go_wp2_with fail
      refine wp_region_up New [(true, 0), (true, 1), (true, 2), (true, 3), (true, 4), (true, 5), (true, 6), (true, 7), (true, 8)]
        New.refl New.trans (by kernel_rfl) (by kernel_rfl) (by kernel_rfl) (by kernel_rfl) ?_
      repeat (first
        | (refine up_quiet rfl rfl (v := ?_) (fun W hW => ?_) ?_; rotate_left; (have g1 := C1.out W hW; have g2 := C2.out W hW; have g3 := C3.out W hW; have g4 := C4.out W hW; go_simp <;> with_reducible rfl); simp only [Act.put, List.setIfInBounds_toArray, List.set_cons_zero, List.set_cons_succ]))
      refine up_nil ?_
      go_wp2
      go_roundw
      case rel => exact ⟨k + 1, q + 1, by go_num, by omega, rfl⟩
      case measure => simp [intOf]; omega
    · go_wp2
      go_ret
      exact ⟨rfl, new_drewN _ _⟩

end Go.Proofs.Ytpbfohgmhjadpaa
