/- Packing: the package bitpack and its answer. -/
import Derived.Test.YtlelepopdjoedaaPackA
import Derived.Test.YtlelepopdjoedaaPackM
import Derived.Test.YtlelepopdjoedaaMore
import Derived.Test.YtlelepopdjoedaaOpt
import Derived.StillTailTactics
import Derived.Outline

namespace Go.Proofs.Ytlelepopdjoedaa
open Go.RowKit Go.Hm

/-- What is packed. -/
def packO (L : List Nat) (x : Int) : Option (List Nat) :=
  if 0 ≤ x ∧ x ≤ 64 ∧ L.length ≤ 65536 ∧ (wid L : Int) ≤ x then some (low (pk x.toNat L) ((x.toNat * L.length + 7) / 8)) else none
/-- What is unpacked. -/
def unpackO (b : List Nat) (x n : Int) : Option (List Nat) :=
  if 0 ≤ x ∧ x ≤ 64 ∧ 0 ≤ n ∧ n ≤ 65536 ∧ b.length = (x.toNat * n.toNat + 7) / 8 ∧ num b < 2 ^ (x.toNat * n.toNat) then some (unpk x.toNat n.toNat (num b)) else none

set_option maxHeartbeats 1000000 in
theorem pack_good {w : World} {A : Option Addr} {n c : Nat} {L : List Nat} (x : Nat) (h : Reads w w.heap.size 1 A n (nums .u64 L)) (hL : ∀ x ∈ L, x ≤ 18446744073709551615) (hn : n ≤ 65536) (hx : x ≤ 64) (hw : wid L ≤ x) :
    Calls Try.prog 42 #[.slice A n c, .int .i64 (x : Int)] w (OptB (some (low (pk x L) ((x * n + 7) / 8))) w) := by
  obtain rfl := h.len
  obtain ⟨s, hs⟩ : ∃ s, s = (x * L.length + 7) / 8 := ⟨_, rfl⟩
  have hp : x * L.length ≤ 64 * 65536 := Nat.mul_le_mul hx hn
  have hs1 : s ≤ 524288 := by omega
  have hs2 : x * L.length ≤ 8 * s := by omega
  have B1 := Lib.hid (bytes_anyN x L.length w hx hn)
  rw [← hs] at B1 ⊢
  have W1 := Lib.hid (width_any (c := c) h hL (by omega))
  have HS := Lib.hid hs2
  clear hs hs2 hp
  go_enter Try.func42, Try.ntmps42
  go_wp2_with (first
    | (go_at_call 49; refine B1.out.mono ?_; rintro e w1 ⟨rfl, rfl⟩)
    | (go_at_call 41; refine W1.out.mono ?_; rintro e w1 ⟨rfl, rfl⟩)
    | (refine wpList_mk elB rfl (.tmp 24) (.tmp 24) rfl (W := w) (B := w.heap.size) s s rfl rfl rfl rfl (by omega) (Below.refl _ _) (Nat.le_refl _) rfl (by omega) (by simp only [maxLen]; omega) ?_
       intro w1 hown1 hg1 hb1 hs1))
  go_loopw [8, 28] (fun a i wr => ∃ k m : Nat, k ≤ L.length ∧ m = x * k ∧ i = .int .i64 (k : Int) ∧ a = .int .i64 (m : Int) ∧ Own wr w.heap.size 5 (.slice (some ⟨w.heap.size, 0, none⟩) s s) (nums .u8 (low (pk x (L.take k)) s)) ∧ Below w.heap.size w wr) (fun _ i _ => L.length - (intOf i).toNat)
  case atStart => exact ⟨0, 0, by omega, rfl, rfl, rfl, by simpa [pk, low_zero, nums_replicate] using hown1, hb1⟩
  case round =>
    obtain ⟨k, m, hk, hm, rfl, rfl, hown, hb⟩ := hrel
    by_cases hlt : k < L.length
    · obtain ⟨ad, rfl, hbl, hcell⟩ := (h.below hb).num hlt
      have hy : L.getD k 0 < 2 ^ x := (wid_iff L x hx hL).1 hw _ (by rw [List.getD_eq_getElem?_getD, List.getElem?_eq_getElem hlt]; exact List.getElem_mem hlt)
      have hl0 : L.getD k 0 ≤ 18446744073709551615 := by
        rw [List.getD_eq_getElem?_getD, List.getElem?_eq_getElem hlt]
        exact hL _ (List.getElem_mem hlt)
      have HT := Lib.hid (take_snoc L k 0 hlt)
      have hX := pk_lt x (L.take k) (fun z hz => (wid_iff L x hx hL).1 hw z (List.mem_of_mem_take hz))
      rw [List.length_take, Nat.min_eq_left (by omega), ← hm] at hX
      have hmx : m + x ≤ 8 * s := by
        have h1 : x * (k + 1) ≤ x * L.length := Nat.mul_le_mul_left _ hlt
        rw [Nat.mul_succ] at h1
        have := HS.out
        omega
      generalize L.getD k 0 = y at *
      generalize hpk : pk x (L.take k) = X at *
      have HP := Lib.hid hpk
      clear hpk
      have Hm := Lib.hid hm
      have HX := Lib.hid hX
      have HY := Lib.hid hy
      clear hm hX hy
      go_wp2
      obtain ⟨wo, rfl⟩ : ∃ wo : World, wo = wr := ⟨_, rfl⟩
      go_loopw [8, 33] (fun a i wr => ∃ j m' : Nat, j ≤ x ∧ m' = m + j ∧ i = .int .i64 (j : Int) ∧ a = .int .i64 (m' : Int) ∧ Own wr w.heap.size 5 (.slice (some ⟨w.heap.size, 0, none⟩) s s) (nums .u8 (low (X + y % 2 ^ j * 2 ^ m) s)) ∧ Below w.heap.size w wr) (fun _ i _ => x - (intOf i).toNat)
      case atStart => exact ⟨0, m, by omega, rfl, rfl, rfl, by simpa [Nat.mod_one] using hown, hb⟩
      case round =>
        obtain ⟨j, m', hj, hm', rfl, rfl, hown, hb⟩ := hrel
        by_cases hlj : j < x
        · have hm8 : m' < 8 * s := by omega
          obtain ⟨q, r, hqr, q1, q2, q3, d1, d2⟩ := eighths m' (by omega)
          obtain ⟨hg0, hgl, hc, hf, hset⟩ := hown.num0 (i := q) (by omega)
          have Hm' := Lib.hid hm'
          have Hset := Lib.hid hset
          clear hm' hset
          generalize hbb : (low (X + y % 2 ^ j * 2 ^ m) s).getD q 0 = bb at *
          have Hbb := Lib.hid hbb
          clear hbb
          obtain ⟨t, ht, t1, t2, t3⟩ := bit64 y j hl0
          have hq4 : (q : Int) < (s : Int) := by omega
          have hq5 : (0 : Int) ≤ (q : Int) := by omega
          have P := pack_step s y j m' q r t HX.out Hm'.out hm8 hqr.out ht.out
          rw [Hbb.out] at P
          obtain ⟨z, hz⟩ : ∃ z, z = bb + t * 2 ^ r := ⟨_, rfl⟩
          have O := or_bit8 bb r t P.1 t1 q2
          rw [← hz] at O P
          have HP := Lib.hid P.2
          clear P hz
          go_wp2
          go_still_tail 15, (by kernel_rfl)
          go_wp2
          go_roundw
          case rel => exact ⟨j + 1, m' + 1, by omega, by have := Hm'.out; omega, by go_num, by go_num, by rw [← HP.out]; exact Hset.out z, by first | exact (hb.drew).setCell hg0 _ | exact hb.setCell hg0 _⟩
          case measure => simp [intOf]; omega
        · obtain rfl : j = x := by omega
          go_wp2
          go_roundw
          case rel => exact ⟨k + 1, m', by omega, by rw [hm', Hm.out, Nat.mul_succ], by go_num, rfl, by
            rw [HT.out, pk_snoc, List.length_take, Nat.min_eq_left (by omega), ← Hm.out, HP.out]
            rw [Nat.mod_eq_of_lt HY.out, Nat.mul_comm] at hown
            exact hown, hb⟩
          case measure => simp [intOf]; omega
    · obtain rfl : k = L.length := by omega
      rw [List.take_length] at hown
      go_wp2
      go_ret2
      exact ⟨_, _, _, rfl, hown, hb⟩

set_option maxHeartbeats 1000000 in
theorem pack_bad {w : World} {A : Option Addr} {n c : Nat} {L : List Nat} (x : Int) (h : Reads w w.heap.size 1 A n (nums .u64 L)) (hL : ∀ x ∈ L, x ≤ 18446744073709551615) (hn : n ≤ 9223372036854775807) (hx0 : -9223372036854775808 ≤ x) (hx : x ≤ 9223372036854775807)
    (hb : ¬ (0 ≤ x ∧ x ≤ 64 ∧ L.length ≤ 65536 ∧ (wid L : Int) ≤ x)) :
    Calls Try.prog 42 #[.slice A n c, .int .i64 x] w (OptB none w) := by
  obtain rfl := h.len
  have B1 := Lib.hid (bytes_any x L.length w hx0 hx (by omega) (by omega))
  have W1 := Lib.hid (width_any (c := c) h hL (by omega))
  by_cases hs : 0 ≤ x ∧ x ≤ 64 ∧ L.length ≤ 65536
  · have hy : x < (wid L : Int) := by omega
    have h0 : 0 ≤ nby x L.length := by
      unfold nby
      rw [if_neg (by omega)]
      have : 0 ≤ x * (L.length : Int) := Int.mul_nonneg (by omega) (by omega)
      omega
    clear hb hs
    generalize nby x L.length = B at *
    generalize wid L = W at *
    go_enter Try.func42, Try.ntmps42
    go_wp2_with (first
      | (go_at_call 49; refine B1.out.mono ?_; rintro e w1 ⟨rfl, rfl⟩)
      | (go_at_call 41; refine W1.out.mono ?_; rintro e w1 ⟨rfl, rfl⟩))
    go_ret2
    exact ⟨rfl, Below.refl _ _⟩
  · have h0 : nby x L.length = -1 := by unfold nby; rw [if_pos (by omega)]
    rw [h0] at B1
    clear hb hs h0
    go_enter Try.func42, Try.ntmps42
    go_wp2_with (first
      | (go_at_call 49; refine B1.out.mono ?_; rintro e w1 ⟨rfl, rfl⟩))
    go_ret2
    exact ⟨rfl, Below.refl _ _⟩
theorem pack_any {w : World} {A : Option Addr} {n c : Nat} {L : List Nat} (x : Int) (h : Reads w w.heap.size 1 A n (nums .u64 L)) (hL : ∀ x ∈ L, x ≤ 18446744073709551615) (hn : n ≤ 9223372036854775807) (hx0 : -9223372036854775808 ≤ x) (hx : x ≤ 9223372036854775807) :
    Calls Try.prog 42 #[.slice A n c, .int .i64 x] w (OptB (packO L x) w) := by
  have hl := h.len
  unfold packO
  split
  · rename_i hg
    obtain ⟨y, rfl⟩ := Int.eq_ofNat_of_zero_le hg.1
    have := pack_good (c := c) y h hL (by omega) (by omega) (by omega)
    rw [hl] at this ⊢
    exact this
  · rename_i hg
    exact pack_bad x h hL hn hx0 hx hg

set_option maxHeartbeats 1000000 in
theorem rpack_good {w : World} {A : Option Addr} {n c : Nat} {L : List Nat} (x : Nat) (h : Reads w w.heap.size 1 A n (nums .u64 L)) (hL : ∀ x ∈ L, x ≤ 18446744073709551615) (hn : n ≤ 65536) (hx : x ≤ 64) (hw : wid L ≤ x) :
    Calls Try.prog 25 #[.slice A n c, .int .i64 (x : Int)] w (OptB (some (low (pk x L) ((x * n + 7) / 8))) w) := by
  obtain rfl := h.len
  obtain ⟨s, hs⟩ : ∃ s, s = (x * L.length + 7) / 8 := ⟨_, rfl⟩
  have hp : x * L.length ≤ 64 * 65536 := Nat.mul_le_mul hx hn
  have hs1 : s ≤ 524288 := by omega
  have hs2 : x * L.length ≤ 8 * s := by omega
  have B1 := Lib.hid (rbytes_anyN x L.length w hx hn)
  rw [← hs] at B1 ⊢
  have W1 := Lib.hid (rwidth_any (c := c) h hL (by omega))
  have HS := Lib.hid hs2
  clear hs hs2 hp
  go_enter Try.func25, Try.ntmps25
  go_wp2_with (first
    | (go_at_call 36; refine B1.out.mono ?_; rintro e w1 ⟨rfl, rfl⟩)
    | (go_at_call 24; refine W1.out.mono ?_; rintro e w1 ⟨rfl, rfl⟩)
    | (refine wpList_mk elB rfl (.tmp 23) (.tmp 23) rfl (W := w) (B := w.heap.size) s s rfl rfl rfl rfl (by omega) (Below.refl _ _) (Nat.le_refl _) rfl (by omega) (by simp only [maxLen]; omega) ?_
       intro w1 hown1 hg1 hb1 hs1))
  go_loopw [8] (fun i wr => ∃ k : Nat, k ≤ L.length ∧ i = .int .i64 (k : Int) ∧ Own wr w.heap.size 5 (.slice (some ⟨w.heap.size, 0, none⟩) s s) (nums .u8 (low (pk x (L.take k)) s)) ∧ Below w.heap.size w wr) (fun i _ => L.length - (intOf i).toNat)
  case atStart => exact ⟨0, by omega, rfl, by simpa [pk, low_zero, nums_replicate] using hown1, hb1⟩
  case round =>
    obtain ⟨k, hk, rfl, hown, hb⟩ := hrel
    by_cases hlt : k < L.length
    · obtain ⟨ad, rfl, hbl, _⟩ := (h.below hb).num hlt
      have Hc : ∀ W, Below w.heap.size w W → W.cell? (ad.add k) = some (.int .u64 ((L.getD k 0 : Nat) : Int)) := fun W hW => by
        obtain ⟨ad', e, _, hc⟩ := (h.below hW).num hlt
        injection e with e
        rw [e]
        exact hc
      have hy : L.getD k 0 < 2 ^ x := (wid_iff L x hx hL).1 hw _ (by rw [List.getD_eq_getElem?_getD, List.getElem?_eq_getElem hlt]; exact List.getElem_mem hlt)
      have hl0 : L.getD k 0 ≤ 18446744073709551615 := getD_mem hL hlt
      obtain ⟨m, hm⟩ : ∃ m, m = x * k := ⟨_, rfl⟩
      have HT := Lib.hid (take_snoc L k 0 hlt)
      have hX := pk_lt x (L.take k) (fun z hz => (wid_iff L x hx hL).1 hw z (List.mem_of_mem_take hz))
      rw [List.length_take, Nat.min_eq_left (by omega), ← hm] at hX
      have hmx : m + x ≤ 8 * s := by
        have h1 : x * (k + 1) ≤ x * L.length := Nat.mul_le_mul_left _ hlt
        rw [Nat.mul_succ] at h1
        have := HS.out
        omega
      generalize L.getD k 0 = y at *
      generalize hpk : pk x (L.take k) = X at *
      have HP := Lib.hid hpk
      have hmI : (x : Int) * (k : Int) = (m : Int) := by rw [hm, Int.natCast_mul]
      have Hm := Lib.hid hm
      have HX := Lib.hid hX
      have HY := Lib.hid hy
      have HC := Lib.hid Hc
      clear hm hX hy hpk Hc
      go_wp2
      obtain ⟨wo, rfl⟩ : ∃ wo : World, wo = wr := ⟨_, rfl⟩
      go_loopw [9] (fun i wr => ∃ j : Nat, j ≤ x ∧ i = .int .i64 (j : Int) ∧ Own wr w.heap.size 5 (.slice (some ⟨w.heap.size, 0, none⟩) s s) (nums .u8 (low (X + y % 2 ^ j * 2 ^ m) s)) ∧ Below w.heap.size w wr) (fun i _ => x - (intOf i).toNat)
      case atStart => exact ⟨0, by omega, rfl, by simpa [Nat.mod_one] using hown, hb⟩
      case round =>
        obtain ⟨j, hj, rfl, hown, hb⟩ := hrel
        by_cases hlj : j < x
        · obtain ⟨q, r, hqr, q1, q2, q3, d1, d2⟩ := eighths (m + j) (by omega)
          obtain ⟨hg0, hgl, hc, hf, hset⟩ := hown.num0 (i := q) (by omega)
          have Hset := Lib.hid hset
          have hcell := HC.out wr hb
          clear hset
          generalize hbb : (low (X + y % 2 ^ j * 2 ^ m) s).getD q 0 = bb at *
          have Hbb := Lib.hid hbb
          clear hbb
          obtain ⟨t, ht⟩ : ∃ t, t = y / 2 ^ j % 2 := ⟨_, rfl⟩
          have P := pack_step s y j (m + j) q r t HX.out rfl (by omega) hqr.out ht
          rw [Hbb.out] at P
          have hT : (((y : Int) / 2 ^ j).tmod 2 == 1) = decide (t = 1) := by
            rw [Int.tmod_eq_emod_of_nonneg (Int.ediv_nonneg (by omega) (Int.le_of_lt (Int.pow_pos (by omega)))), Bool.eq_iff_iff, beq_iff_eq, decide_eq_true_eq, ht]
            have : ((y : Int) / 2 ^ j % 2) = ((y / 2 ^ j % 2 : Nat) : Int) := by simp
            omega
          have ht1 : t ≤ 1 := by omega
          clear ht
          by_cases h1 : t = 1
          · subst h1
            have O := or_bit8 bb r 1 P.1 (by omega) q2
            obtain ⟨z, hz⟩ : ∃ z, z = bb + 1 * 2 ^ r := ⟨_, rfl⟩
            rw [← hz] at O P
            rw [show ((1 : Nat) : Int) = 1 from rfl, Int.one_mul] at O
            obtain ⟨rfl, rfl⟩ := hqr.out
            have HP2 := Lib.hid P.2
            clear P hz
            go_wp2
            go_roundw
            case rel => exact ⟨j + 1, by omega, by go_num, by rw [← HP2.out]; exact Hset.out z, hb.setCell hg0 _⟩
            case measure => simp [intOf]; omega
          · obtain rfl : t = 0 := by omega
            rw [Nat.zero_mul, Nat.add_zero] at P
            have e : ∀ l : List Nat, ∀ i, l.set i (l.getD i 0) = l := by
              intro l i
              refine List.ext_getElem (by simp) fun k h1 h2 => ?_
              rw [List.getElem_set]
              split
              · rename_i e; subst e; rw [List.getD_eq_getElem?_getD, List.getElem?_eq_getElem h2]; rfl
              · rfl
            have P2 := P.2
            rw [← Hbb.out, e] at P2
            rw [P2] at hown
            clear P P2 e
            go_wp2
            go_roundw
            case rel => exact ⟨j + 1, by omega, by go_num, hown, hb⟩
            case measure => simp [intOf]; omega
        · obtain rfl : j = x := by omega
          go_wp2
          go_roundw
          case rel => exact ⟨k + 1, by omega, by go_num, by
            rw [HT.out, pk_snoc, List.length_take, Nat.min_eq_left (by omega), ← Hm.out, HP.out]
            rw [Nat.mod_eq_of_lt HY.out, Nat.mul_comm] at hown
            exact hown, hb⟩
          case measure => simp [intOf]; omega
    · obtain rfl : k = L.length := by omega
      rw [List.take_length] at hown
      go_wp2
      go_ret2
      exact ⟨_, _, _, rfl, hown, hb⟩

set_option maxHeartbeats 1000000 in
theorem rpack_bad {w : World} {A : Option Addr} {n c : Nat} {L : List Nat} (x : Int) (h : Reads w w.heap.size 1 A n (nums .u64 L)) (hL : ∀ x ∈ L, x ≤ 18446744073709551615) (hn : n ≤ 9223372036854775807) (hx0 : -9223372036854775808 ≤ x) (hx : x ≤ 9223372036854775807)
    (hb : ¬ (0 ≤ x ∧ x ≤ 64 ∧ L.length ≤ 65536 ∧ (wid L : Int) ≤ x)) :
    Calls Try.prog 25 #[.slice A n c, .int .i64 x] w (OptB none w) := by
  obtain rfl := h.len
  have B1 := Lib.hid (rbytes_any x L.length w hx0 hx (by omega) (by omega))
  have W1 := Lib.hid (rwidth_any (c := c) h hL (by omega))
  by_cases hs : 0 ≤ x ∧ x ≤ 64 ∧ L.length ≤ 65536
  · have hy : x < (wid L : Int) := by omega
    have h0 : 0 ≤ nby x L.length := by
      unfold nby
      rw [if_neg (by omega)]
      have : 0 ≤ x * (L.length : Int) := Int.mul_nonneg (by omega) (by omega)
      omega
    clear hb hs
    generalize nby x L.length = B at *
    generalize wid L = W at *
    go_enter Try.func25, Try.ntmps25
    go_wp2_with (first
      | (go_at_call 36; refine B1.out.mono ?_; rintro e w1 ⟨rfl, rfl⟩)
      | (go_at_call 24; refine W1.out.mono ?_; rintro e w1 ⟨rfl, rfl⟩))
    go_ret2
    exact ⟨rfl, Below.refl _ _⟩
  · have h0 : nby x L.length = -1 := by unfold nby; rw [if_pos (by omega)]
    rw [h0] at B1
    clear hb hs h0
    go_enter Try.func25, Try.ntmps25
    go_wp2_with (first
      | (go_at_call 36; refine B1.out.mono ?_; rintro e w1 ⟨rfl, rfl⟩))
    go_ret2
    exact ⟨rfl, Below.refl _ _⟩
theorem rpack_any {w : World} {A : Option Addr} {n c : Nat} {L : List Nat} (x : Int) (h : Reads w w.heap.size 1 A n (nums .u64 L)) (hL : ∀ x ∈ L, x ≤ 18446744073709551615) (hn : n ≤ 9223372036854775807) (hx0 : -9223372036854775808 ≤ x) (hx : x ≤ 9223372036854775807) :
    Calls Try.prog 25 #[.slice A n c, .int .i64 x] w (OptB (packO L x) w) := by
  have hl := h.len
  unfold packO
  split
  · rename_i hg
    obtain ⟨y, rfl⟩ := Int.eq_ofNat_of_zero_le hg.1
    have := rpack_good (c := c) y h hL (by omega) (by omega) (by omega)
    rw [hl] at this ⊢
    exact this
  · rename_i hg
    exact rpack_bad x h hL hn hx0 hx hg

end Go.Proofs.Ytlelepopdjoedaa
