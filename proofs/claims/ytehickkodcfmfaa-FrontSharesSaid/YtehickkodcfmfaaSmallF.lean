/- The small case of layer 13's statements. -/
import Derived.Test.YtehickkodcfmfaaFrontR
import Derived.Test.YtehickkodcfmfaaOpenT
import Derived.Lib.SlBytesConst
import Derived.Lib.SmallJoins

namespace Go.Hm
open Go Go.RowKit
/-- A constant's bytes are read. -/
theorem Reads.litM (w : World) (e : TypeId) (fr : Nat × Nat) (cs : Array Value) (n : Nat) (xs : List Value) (h : cs.toList = xs) (hn : n = xs.length) : Reads (w.alloc (.cells cs e fr)) (w.alloc (.cells cs e fr)).heap.size 1 (some ⟨w.heap.size, 0, none⟩) n xs := by
  subst hn
  refine ⟨by simp, fun _ => ⟨_, rfl, by simp, fun j u hu => ?_⟩⟩
  have e1 : (⟨w.heap.size, 0, none⟩ : Addr).add j = ⟨w.heap.size, j, none⟩ := by
    unfold Addr.add
    split
    · simp_all
    · simp
  rw [e1, World.cell?_alloc_mark w cs e fr j, ← Array.getElem?_toList, h]
  exact hu

end Go.Hm

namespace Go.Proofs.Ytehickkodcfmfaa
open Go.RowKit Go.Hm

theorem small13_str : (bstr [0, 2, 97, 98, 1, 1, 99]).toList = [0, 2, 97, 98, 1, 1, 99] := by rw [bstr_toList]; rfl
theorem small13_1 : encF [[97, 98], [97, 99]] = some [0, 2, 97, 98, 1, 1, 99] := by
  rw [encF, if_pos (by decide)]
  simp [fenc, fpiece, shr, vp_lt]
theorem small13_2 : decF [0, 2, 97, 98, 1, 1, 99] 2 = some [[97, 98], [97, 99]] := by decide
theorem small13_3 : decF [0, 2, 97, 98, 0, 2, 97, 99] 2 = none := by decide
theorem small13_4 : decF [0, 2, 97, 98, 1, 1, 99] 1 = none := by decide
theorem small13_5 : encF [] = some [] := by rw [encF, if_pos (by decide)]; rfl

set_option maxHeartbeats 1000000 in
set_option maxRecDepth 100000 in
theorem small13_any (w : World) : Calls Try.prog 28 #[] w (SmallPost w) := by
  have HS := Lib.hid small13_str
  have P1 := Lib.hid (fenc_any (c := 2) (Reads.litV w 9 #[.string ⟨#[97, 98]⟩, .string ⟨#[97, 99]⟩] 2 (strs [[97, 98], [97, 99]]) rfl rfl) (by decide) (by decide) (by omega))
  rw [small13_1] at P1
  go_enter Try.func28, Try.ntmps28
  go_wp2_with (first
    | (go_at_call 30; (with_reducible refine P1.out.mono ?_); rintro e w1 ⟨A1, n1, c1, rfl, k1, b1⟩
       have b01 := New.alloc _ b1
       obtain rfl : n1 = 7 := by have := k1.len; rw [nums_length] at this; simpa using this
       have r1 := k1.reads
       have U2 := Lib.hid (fdec_any (c := c1) (m := 2) r1 (by decide) (by omega) (by omega) (by omega))
       rw [small13_2] at U2)
    | (go_at_call 34; (with_reducible refine U2.out.mono ?_); rintro e w2 ⟨A2, n2, c2, rfl, k2, b2⟩
       obtain rfl : n2 = 2 := by have := k2.len; rw [strs_length] at this; simpa using this
       have z2 := b2.size
       have r2 := k2.reads
       have U3 := Lib.hid (fdec_any (c := 8) (m := 2) (Reads.litM w2 5 (8, 9) #[.int .u8 0, .int .u8 2, .int .u8 97, .int .u8 98, .int .u8 0, .int .u8 2, .int .u8 97, .int .u8 99] 8 (nums .u8 [0, 2, 97, 98, 0, 2, 97, 99]) rfl rfl) (by decide) (by omega) (by omega) (by omega))
       rw [small13_3] at U3
       have kc := Lib.run_convert_bytes_const (P := Try.prog) w2 24 5 #[.int .u8 0, .int .u8 2, .int .u8 97, .int .u8 98, .int .u8 0, .int .u8 2, .int .u8 97, .int .u8 99] 8 8 elB.ht (by kernel_rfl))
    | (go_at_call 34; (with_reducible refine U3.out.mono ?_); rintro e w3 ⟨rfl, b3⟩
       have b23 := New.alloc _ b3
       have b13 := New.trans b2 b23
       have U4 := Lib.hid (fdec_any (c := c1) (m := 1) (Reads.later r1 b13) (by decide) (by omega) (by omega) (by omega))
       rw [small13_4] at U4)
    | (go_at_call 34; (with_reducible refine U4.out.mono ?_); rintro e w4 ⟨rfl, b4⟩
       have P5 := Lib.hid (fenc_any (w := w4) (A := none) (n := 0) (c := 0) (L := []) Reads.none_ (by decide) (by decide) (by omega))
       rw [small13_5] at P5)
    | (go_at_call 30; (with_reducible refine P5.out.mono ?_); rintro e w5 ⟨A5, n5, c5, rfl, k5, b5⟩
       obtain rfl : n5 = 0 := by have := k5.len; rw [nums_length] at this; simpa using this
       have b25 := New.trans b23 (New.trans b4 b5)
       have b15 := New.trans b2 b25
       have S9 := run_strB (c := c1) (r1.below b15)
       have HS := HS.out
       have r25 := Reads.later r2 b25
       have Q6 := Lib.hid (sameT_any (c := c2) (c2 := 2) (r25.over (.cells #[.string ⟨#[97, 98]⟩, .string ⟨#[97, 99]⟩] 9)) (Reads.litV w5 9 #[.string ⟨#[97, 98]⟩, .string ⟨#[97, 99]⟩] 2 (strs [[97, 98], [97, 99]]) rfl rfl) (by decide) (by decide) (by omega) (by omega)))
    | (go_at_call 36; (with_reducible refine Q6.out.mono ?_); rintro e w6 ⟨rfl, b6⟩
       have b56 := New.alloc _ b6
       have S7 := Lib.hid (shared_any [97, 98, 99] [97, 98, 100] (by decide) (by decide) (by decide) (by decide) w6)
       rw [show bstr [97, 98, 99] = ⟨#[97, 98, 99]⟩ from rfl, show bstr [97, 98, 100] = ⟨#[97, 98, 100]⟩ from rfl, show shr [97, 98, 99] [97, 98, 100] = 2 by decide] at S7)
    | (go_at_call 32; (with_reducible refine S7.out.mono ?_); intro e w7 hh; obtain ⟨rfl, b7⟩ := hh.new; clear hh
       have S8 := Lib.hid (shared_any [] [97] (by decide) (by decide) (by decide) (by decide) w7)
       rw [show bstr [] = ⟨#[]⟩ from rfl, show bstr [97] = ⟨#[97]⟩ from rfl, show shr [] [97] = 0 by decide] at S8)
    | (go_at_call 32; (with_reducible refine S8.out.mono ?_); intro e w8 hh; obtain ⟨rfl, b8⟩ := hh.new; clear hh))
  go_ret
  exact ⟨rfl, New.trans b01 (New.trans b15 (New.trans b56 (New.trans b7 b8)))⟩

/-- Few, and short. -/
def few13 (L : List (List Nat)) : Bool := decide (L.length ≤ 200) && decide (fsum L ≤ 3000)
set_option maxHeartbeats 1000000 in
theorem few13_few {w : World} {A : Option Addr} {n c : Nat} {L : List (List Nat)} (h : Reads w w.heap.size 1 A n (strs L)) (hs : fsum L ≤ 9223372036854775807) (hn : n ≤ 200) :
    Calls Try.prog 29 #[.slice A n c] w (ValPost (.bool (few13 L)) w) := by
  obtain rfl := h.lenT
  go_enter Try.func29, Try.ntmps29
  go_wp2
  go_loop [3, 4] (fun a i => ∃ k q : Nat, k ≤ L.length ∧ i = .int .i64 (k : Int) ∧ a = .int .i64 (q : Int) ∧ q ≤ 9223372036854775807 ∧ Hid (q = fsum (L.take k))) (fun _ i => L.length - (intOf i).toNat)
  case atStart => exact ⟨0, 0, by omega, rfl, rfl, by omega, Lib.hid rfl⟩
  case round =>
    obtain ⟨k, q, hk, rfl, rfl, hq, H⟩ := hrel
    by_cases hlt : k < L.length
    · obtain ⟨ad, rfl, hb, hcell⟩ := h.str hlt
      have T := take_snoc L k [] hlt
      have hle := fsum_take L (k + 1)
      rw [T, fsum_snoc, ← H.out] at hle
      have HT := Lib.hid T
      clear T
      generalize L.getD k [] = s at *
      have z := bstr_size s
      have HN := Lib.hid (show q + s.length = fsum (L.take (k + 1)) by rw [HT.out, fsum_snoc, ← H.out])
      have hle2 : q + s.length ≤ 9223372036854775807 := by omega
      clear hle
      go_wp2
      go_round
      case rel => exact ⟨k + 1, q + s.length, by omega, by go_num, by go_num, hle2, HN⟩
      case measure => simp [intOf]; omega
    · obtain rfl : k = L.length := by omega
      have H2 := H.out
      rw [List.take_length] at H2
      have F := Lib.hid (show few13 L = (decide ((L.length : Int) ≤ 200) && decide ((q : Int) ≤ 3000)) by
        unfold few13
        rw [← H2]
        congr 1 <;> (rw [Bool.eq_iff_iff]; simp; omega))
      have d1 : decide ((L.length : Int) ≤ 200) = true := by simp; omega
      rw [d1] at F
      clear H2
      by_cases h2 : q ≤ 3000
      all_goals
        first
          | (have d2 : decide ((q : Int) ≤ 3000) = true := by simp; omega)
          | (have d2 : decide ((q : Int) ≤ 3000) = false := by simp; omega)
        rw [d2] at F
        go_wp2
        go_ret
        exact ⟨by rw [F.out]; rfl, rfl⟩
set_option maxHeartbeats 1000000 in
theorem few13_many {w : World} {A : Option Addr} {n c : Nat} {L : List (List Nat)} (h : Reads w w.heap.size 1 A n (strs L)) (hn : n ≤ 9223372036854775806) (h2 : 200 < n) :
    Calls Try.prog 29 #[.slice A n c] w (ValPost (.bool false) w) := by
  obtain rfl := h.lenT
  have d1 : decide ((L.length : Int) ≤ 200) = false := by simp; omega
  go_enter Try.func29, Try.ntmps29
  go_wp2
  go_loop [3, 4] (fun a i => ∃ (k : Nat) (q : Int), k ≤ L.length ∧ i = .int .i64 (k : Int) ∧ a = .int .i64 q) (fun _ i => L.length - (intOf i).toNat)
  case atStart => exact ⟨0, 0, by omega, rfl, rfl⟩
  case round =>
    obtain ⟨k, q, hk, rfl, rfl⟩ := hrel
    by_cases hlt : k < L.length
    · obtain ⟨ad, rfl, hb, hcell⟩ := h.str hlt
      generalize L.getD k [] = s at *
      go_wp2
      go_round
      case rel => exact ⟨k + 1, _, by omega, by go_num, rfl⟩
      case measure => simp [intOf]; omega
    · obtain rfl : k = L.length := by omega
      go_wp2
      go_ret
      exact ⟨rfl, rfl⟩
theorem few13_any {w : World} {A : Option Addr} {n c : Nat} {L : List (List Nat)} (h : Reads w w.heap.size 1 A n (strs L)) (hL : ∀ s ∈ L, s.length ≤ 140737488351232) (hn : n ≤ 9223372036854775806) :
    Calls Try.prog 29 #[.slice A n c] w (ValPost (.bool (few13 L)) w) := by
  have hl := h.lenT
  by_cases h2 : 200 < n
  · have e : few13 L = false := by unfold few13; rw [decide_eq_false (by omega)]; rfl
    rw [e]
    exact few13_many h hn h2
  · refine few13_few h ?_ (by omega)
    have := fsum_le_ 140737488351232 L hL
    have h3 : L.length * 140737488351232 ≤ 200 * 140737488351232 := Nat.mul_le_mul_right _ (by omega)
    unfold fsum
    omega
theorem few13_iff {L : List (List Nat)} (h : few13 L = true) : L.length ≤ 200 ∧ fsum L ≤ 3000 ∧ ∀ s ∈ L, s.length ≤ 3000 := by
  unfold few13 at h
  simp only [Bool.and_eq_true, decide_eq_true_eq] at h
  refine ⟨h.1, h.2, fun s hs => ?_⟩
  have : s.length ≤ fsum L := by
    obtain ⟨a, b, rfl⟩ := List.append_of_mem hs
    rw [fsum_append, fsum_cons]; omega
  omega

end Go.Proofs.Ytehickkodcfmfaa
