/- Contracts of package front and of its answer. -/
import Derived.Test.YtehickkodcfmfaaCurS
import Derived.Test.YtehickkodcfmfaaFrontM
import Derived.Test.YtehickkodcfmfaaOpt
import Derived.Deep.QuietTactic
import Derived.BigQuiet
import Derived.Outline

namespace Go.Proofs.Ytehickkodcfmfaa
open Go.RowKit Go.Hm

set_option maxHeartbeats 1000000 in
theorem shared_any (a b : List Nat) (ha : ∀ x ∈ a, x < 256) (hb : ∀ x ∈ b, x < 256) (hla : a.length ≤ 9223372036854775806) (hlb : b.length ≤ 9223372036854775806) (w : World) :
    Calls Try.prog 32 #[.string (bstr a), .string (bstr b)] w (DrewPost (.int .i64 (shr a b)) w) := by
  have z1 := bstr_size a
  have z2 := bstr_size b
  go_enter Try.func32, Try.ntmps32
  go_wp2
  go_loopw [5] (fun n wr => ∃ k m : Nat, n = .int .i64 (k : Int) ∧ k ≤ a.length ∧ k ≤ b.length ∧ a.take k = b.take k ∧ wr = w.drewN m) (fun n _ => a.length - (intOf n).toNat)
  case atStart => exact ⟨0, 0, rfl, by omega, by omega, rfl, rfl⟩
  case round =>
    obtain ⟨k, m, rfl, h1, h2, h3, rfl⟩ := hrel
    have S0 := shr_is a b k h1 h2 h3
    have H3 := Lib.hid h3
    clear h3
    by_cases ka : k = a.length
    · have S := Lib.hid (S0 (.inl ka))
      have d1 : decide (k < a.length) = false := by simp; omega
      clear ka S0
      go_wp2
      go_quiet (fail)
      go_wp2
      go_ret
      exact ⟨by rw [S.out]; rfl, _, drewN_add _ _ _⟩
    · by_cases kb : k = b.length
      · have S := Lib.hid (S0 (.inr (.inl kb)))
        have d1 : decide (k < a.length) = true := by simp; omega
        have d2 : decide (k < b.length) = false := by simp; omega
        clear ka kb S0
        go_wp2
        go_quiet (fail)
        go_wp2
        go_ret
        exact ⟨by rw [S.out]; rfl, _, drewN_add _ _ _⟩
      · have i1 := run_idx strT a ha k (by omega)
        have i2 := run_idx strT b hb k (by omega)
        have d1 : decide (k < a.length) = true := by simp; omega
        have d2 : decide (k < b.length) = true := by simp; omega
        have t1 := take_snoc a k 0 (by omega)
        have t2 := take_snoc b k 0 (by omega)
        by_cases e : a.getD k 0 = b.getD k 0
        · have H4 := Lib.hid (show a.take (k + 1) = b.take (k + 1) by rw [t1, t2, H3.out, e])
          rw [e] at i1
          clear t1 t2 e S0
          generalize b.getD k 0 = y at *
          go_wp2
          go_quiet (fail)
          go_wp2
          go_roundw
          case rel => exact ⟨k + 1, _, by go_num, by omega, by omega, H4.out, rfl⟩
          case measure => simp [intOf]; omega
        · have S := Lib.hid (S0 (.inr (.inr e)))
          have d3 : (((a.getD k 0 : Nat) : Int) == ((b.getD k 0 : Nat) : Int)) = false := by rw [beq_eq_false_iff_ne]; omega
          clear t1 t2 e S0
          generalize a.getD k 0 = x at *
          generalize b.getD k 0 = y at *
          go_wp2
          go_quiet (fail)
          go_wp2
          go_ret
          exact ⟨by rw [S.out]; rfl, _, drewN_add _ _ _⟩
set_option maxHeartbeats 1000000 in
theorem rshared_any (a b : List Nat) (ha : ∀ x ∈ a, x < 256) (hb : ∀ x ∈ b, x < 256) (hla : a.length ≤ 9223372036854775806) (hlb : b.length ≤ 9223372036854775806) (w : World) :
    Calls Try.prog 33 #[.string (bstr a), .string (bstr b)] w (DrewPost (.int .i64 (shr a b)) w) := by
  have z1 := bstr_size a
  have z2 := bstr_size b
  go_enter Try.func33, Try.ntmps33
  go_wp2
  go_loopw [5] (fun n wr => ∃ k m : Nat, n = .int .i64 (k : Int) ∧ k ≤ a.length ∧ k ≤ b.length ∧ a.take k = b.take k ∧ wr = w.drewN m) (fun n _ => a.length - (intOf n).toNat)
  case atStart => exact ⟨0, 0, rfl, by omega, by omega, rfl, rfl⟩
  case round =>
    obtain ⟨k, m, rfl, h1, h2, h3, rfl⟩ := hrel
    have S0 := shr_is a b k h1 h2 h3
    have H3 := Lib.hid h3
    clear h3
    by_cases ka : k = a.length
    · have S := Lib.hid (S0 (.inl ka))
      have d1 : decide (k < a.length) = false := by simp; omega
      clear ka S0
      go_wp2
      go_quiet (fail)
      go_wp2
      go_ret
      exact ⟨by rw [S.out]; rfl, _, drewN_add _ _ _⟩
    · by_cases kb : k = b.length
      · have S := Lib.hid (S0 (.inr (.inl kb)))
        have d1 : decide (k < a.length) = true := by simp; omega
        have d2 : decide (k < b.length) = false := by simp; omega
        clear ka kb S0
        go_wp2
        go_quiet (fail)
        go_wp2
        go_ret
        exact ⟨by rw [S.out]; rfl, _, drewN_add _ _ _⟩
      · have i1 := run_idx strT a ha k (by omega)
        have i2 := run_idx strT b hb k (by omega)
        have d1 : decide (k < a.length) = true := by simp; omega
        have d2 : decide (k < b.length) = true := by simp; omega
        have t1 := take_snoc a k 0 (by omega)
        have t2 := take_snoc b k 0 (by omega)
        by_cases e : a.getD k 0 = b.getD k 0
        · have H4 := Lib.hid (show a.take (k + 1) = b.take (k + 1) by rw [t1, t2, H3.out, e])
          rw [e] at i1
          clear t1 t2 e S0
          generalize b.getD k 0 = y at *
          go_wp2
          go_quiet (fail)
          go_wp2
          go_roundw
          case rel => exact ⟨k + 1, _, by go_num, by omega, by omega, H4.out, rfl⟩
          case measure => simp [intOf]; omega
        · have S := Lib.hid (S0 (.inr (.inr e)))
          have d3 : (((a.getD k 0 : Nat) : Int) == ((b.getD k 0 : Nat) : Int)) = false := by rw [beq_eq_false_iff_ne]; omega
          clear t1 t2 e S0
          generalize a.getD k 0 = x at *
          generalize b.getD k 0 = y at *
          go_wp2
          go_quiet (fail)
          go_wp2
          go_ret
          exact ⟨by rw [S.out]; rfl, _, drewN_add _ _ _⟩

set_option maxHeartbeats 1000000 in
theorem few_any {w : World} {A : Option Addr} {n c : Nat} {L : List (List Nat)} (h : Reads w w.heap.size 1 A n (strs L)) (hL : ∀ s ∈ L, s.length ≤ 140737488351232) (hn : n ≤ 9223372036854775806) :
    Calls Try.prog 65 #[.slice A n c] w (ValPost (.bool (fewB L)) w) := by
  obtain rfl := h.lenT
  by_cases h0 : 65536 < L.length
  · have F := Lib.hid (fewB_no0 h0)
    go_enter Try.func65, Try.ntmps65
    go_wp2
    go_ret
    exact ⟨by rw [F.out]; rfl, rfl⟩
  · have d0 : decide (65536 < (L.length : Int)) = false := by simp; omega
    go_enter Try.func65, Try.ntmps65
    go_wp2
    go_loop [3, 11] (fun a i => ∃ k q : Nat, k ≤ L.length ∧ i = .int .i64 (k : Int) ∧ a = .int .i64 (q : Int) ∧ q ≤ 16777216 ∧ Hid (q = fsum (L.take k) ∧ ∀ s ∈ L.take k, s.length ≤ 65536)) (fun _ i => L.length - (intOf i).toNat)
    case atStart => exact ⟨0, 0, by omega, rfl, rfl, by omega, Lib.hid ⟨rfl, by simp⟩⟩
    case round =>
      obtain ⟨k, q, hk, rfl, rfl, hq, H⟩ := hrel
      by_cases hlt : k < L.length
      · obtain ⟨ad, rfl, hb, hcell⟩ := h.str hlt
        have hs := getD_memT hL hlt
        have T := take_snoc L k [] hlt
        have F1 := Lib.hid (fewB_no1 hlt)
        have F2 := Lib.hid (fewB_no2 (l := L) (k := k + 1))
        rw [T] at F2
        have HT := Lib.hid T
        clear T
        generalize L.getD k [] = s at *
        have z := bstr_size s
        generalize hls : s.length = ls at *
        have HL := Lib.hid hls
        clear hls
        by_cases h1 : 65536 < ls
        · have F := Lib.hid (F1.out h1)
          clear F1 F2
          go_wp2
          go_ret
          exact ⟨by rw [F.out]; rfl, rfl⟩
        · have d1 : decide (65536 < (ls : Int)) = false := by simp; omega
          by_cases h2 : 16777216 < q + ls
          · have F := Lib.hid (F2.out (by rw [fsum_snoc, ← H.out.1, HL.out]; exact h2))
            clear F1 F2
            go_wp2
            go_ret
            exact ⟨by rw [F.out]; rfl, rfl⟩
          · have d2 : decide (16777216 < (q : Int) + (ls : Int)) = false := by simp; omega
            go_wp2
            go_round
            case rel => exact ⟨k + 1, q + ls, by omega, by go_num, by go_num, by omega, Lib.hid ⟨by rw [HT.out, fsum_snoc, ← H.out.1, HL.out], fun x hx => by
              rw [HT.out, List.mem_append, List.mem_singleton] at hx
              rcases hx with hx | rfl
              · exact H.out.2 x hx
              · rw [HL.out]; omega⟩⟩
            case measure => simp [intOf]; omega
      · obtain rfl : k = L.length := by omega
        have F := Lib.hid (fewB_yes (l := L) (by omega) (by have := H.out.2; rwa [List.take_length] at this) (by have := H.out.1; rw [List.take_length] at this; omega))
        go_wp2
        go_ret
        exact ⟨by rw [F.out]; rfl, rfl⟩
set_option maxHeartbeats 1000000 in
theorem fenc_good {w : World} {A : Option Addr} {n c : Nat} {L : List (List Nat)} (h : Reads w w.heap.size 1 A n (strs L)) (h8 : ∀ s ∈ L, ∀ x ∈ s, x < 256) (hf : fewB L = true) :
    Calls Try.prog 30 #[.slice A n c] w (OptB (some (fenc [] L)) w) := by
  obtain rfl := h.lenT
  obtain ⟨hn, hl, hsum⟩ := (fewB_iff L).1 hf
  have F := Lib.hid (few_any (c := c) h (fun s hs => by have := hl s hs; omega) (by omega))
  rw [hf] at F
  have HSUM := Lib.hid hsum
  have HF := Lib.hid hf
  clear hf hsum
  go_enter Try.func30, Try.ntmps30
  go_wp2_with (go_at_call 65; refine F.out.mono ?_; rintro e w1 ⟨rfl, rfl⟩)
  go_loopw [4, 5, 14] (fun v a i wr => ∃ (k : Nat) (A : Option Addr) (m c : Nat), i = .int .i64 (k : Int) ∧ k ≤ L.length ∧ a = .string (bstr (lastD [] (L.take k))) ∧ v = .slice A m c ∧ Own wr w.heap.size 5 (.slice A m c) (nums .u8 (fenc [] (L.take k))) ∧ Below w.heap.size w wr) (fun _ _ i _ => L.length - (intOf i).toNat)
  case atStart => exact ⟨0, _, _, _, rfl, by omega, rfl, rfl, Own.nil_, Below.refl _ _⟩
  case round =>
    obtain ⟨k, A5, m5, c5, rfl, hk, rfl, rfl, o5, b5⟩ := hrel
    have z5 := b5.size
    by_cases hlt : k < L.length
    · obtain ⟨ad, rfl, hb, hcell⟩ := (h.below b5).str hlt
      have q5 := o5.len
      rw [nums_length] at q5
      have q6 := fenc_len [] (L.take k) (fun s hs => hl s (List.mem_of_mem_take hs))
      have q7 := fsum_take L k
      have q8 := HSUM.out
      rw [← q5, List.length_take] at q6
      have qm : m5 ≤ 20 * 65536 + 16777216 := by omega
      have T := Lib.hid (take_snoc L k [] hlt)
      have a8 := lastD_mem (Q := fun s => ∀ x ∈ s, x < 256) (a := []) (L.take k) (by simp) (fun s hs => h8 s (List.mem_of_mem_take hs))
      have al := lastD_mem (Q := fun s => s.length ≤ 65536) (a := []) (L.take k) (by simp) (fun s hs => hl s (List.mem_of_mem_take hs))
      have s8 := getD_memT (Q := fun s => ∀ x ∈ s, x < 256) h8 hlt
      have sl := getD_memT (Q := fun s => s.length ≤ 65536) hl hlt
      have SN := Lib.hid (fenc_snoc [] (L.getD k []) (L.take k))
      have LS := Lib.hid (lastD_snoc [] (L.getD k []) (L.take k))
      clear q5 q6 q7 q8
      generalize L.getD k [] = s at *
      generalize lastD [] (L.take k) = a at *
      have k1 := shr_le_left a s
      have k2 := shr_le_right a s
      have z1 := bstr_size s
      have SH := Lib.hid (shared_any a s a8 s8 (by omega) (by omega) wr)
      have FP := Lib.hid (show fpiece a s = vp (shr a s) ++ vp (s.length - shr a s) ++ s.drop (shr a s) from rfl)
      have i3 := run_from strT s (shr a s) k2
      have d8 : ∀ x ∈ s.drop (shr a s), x < 256 := fun x hx => s8 x (List.mem_of_mem_drop hx)
      have dl : (s.drop (shr a s)).length ≤ 65536 := by rw [List.length_drop]; omega
      have v1 := vp_len10 (n := shr a s) (by omega)
      have v2 := vp_len10 (n := s.length - shr a s) (by omega)
      have hq : (s.length : Int) - (shr a s : Int) = ((s.length - shr a s : Nat) : Int) := by omega
      generalize shr a s = j at *
      generalize s.length - j = p at *
      generalize s.drop j = r at *
      have V1 := Lib.hid v1
      have V2 := Lib.hid v2
      have DL := Lib.hid dl
      clear v1 v2 dl
      go_wp2_with (first
        | (go_at_call 32; refine SH.out.mono ?_; intro e w6 hh; obtain ⟨rfl, b6⟩ := hh.new; clear hh
           have b06 := below_then b5 b6 (Nat.le_refl _)
           have o6 := o5.later b6
           have P6 := Lib.hid (put_any none 0 0 [] j w6 Reads.none_ (by omega) (by omega)))
        | (go_at_call 50; (with_reducible refine P6.out.mono ?_); rintro e w7 ⟨A7, n7, c7, rfl, k7, b7⟩
           rw [List.nil_append] at k7
           have b07 := below_then b06 b7 (Nat.le_refl _)
           have o7 := o6.later b7
           have q7 : n7 ≤ 10 := by have := k7.len; rw [nums_length] at this; have := V1.out; omega
           have r7 := k7.reads)
        | (refine wpList_pushesN elB rfl (.tmp 21) (.tmp 24) rfl (W := w) (B := w.heap.size) o7 r7 rfl rfl b07 (Nat.le_refl _) (by have := b07.size; omega) (by omega) (by simp only [maxLen]; omega) ?_
           intro A8 c8 w8 _ _ o8 _ b08 _
           have P8 := Lib.hid (put_any none 0 0 [] p w8 Reads.none_ (by omega) (by omega)))
        | (go_at_call 50; (with_reducible refine P8.out.mono ?_); rintro e w9 ⟨A9, n9, c9, rfl, k9, b9⟩
           rw [List.nil_append] at k9
           have b09 := below_then b08 b9 (Nat.le_refl _)
           have o9 := o8.later b9
           have q9 : n9 ≤ 10 := by have := k9.len; rw [nums_length] at this; have := V2.out; omega
           have r9 := k9.reads)
        | (refine wpList_pushesN elB rfl (.tmp 26) (.tmp 32) rfl (W := w) (B := w.heap.size) o9 r9 rfl rfl b09 (Nat.le_refl _) (by have := b09.size; omega) (by omega) (by simp only [maxLen]; omega) ?_
           intro A10 c10 w10 _ _ o10 _ b010 _)
        | (refine wpList_pushStr elB strT rfl (.tmp 34) (.tmp 37) rfl (W := w) (B := w.heap.size) o10 d8 rfl rfl b010 (Nat.le_refl _) (by have := b010.size; omega) (by have := DL.out; omega) ?_
           intro A11 c11 w11 _ _ o11 _ b011))
      go_roundw
      case rel => exact ⟨k + 1, _, _, _, by go_num, by omega, by rw [T.out, LS.out], rfl, by rw [T.out, SN.out, FP.out, ← List.append_assoc, ← List.append_assoc]; exact o11, b011⟩
      case measure => simp [intOf]; omega
    · obtain rfl : k = L.length := by omega
      rw [List.take_length] at o5
      go_wp2
      go_ret2
      exact ⟨_, _, _, rfl, o5, b5⟩
theorem fenc_any {w : World} {A : Option Addr} {n c : Nat} {L : List (List Nat)} (h : Reads w w.heap.size 1 A n (strs L)) (h8 : ∀ s ∈ L, ∀ x ∈ s, x < 256) (hL : ∀ s ∈ L, s.length ≤ 140737488351232) (hn : n ≤ 9223372036854775806) :
    Calls Try.prog 30 #[.slice A n c] w (OptB (encF L) w) := by
  unfold encF
  by_cases hf : fewB L = true
  · rw [if_pos hf]
    exact fenc_good h h8 hf
  · rw [if_neg hf]
    have F := Lib.hid (few_any (c := c) h hL hn)
    rw [Bool.eq_false_iff.2 hf] at F
    clear hf
    go_enter Try.func30, Try.ntmps30
    go_wp2_with (go_at_call 65; refine F.out.mono ?_; rintro e w1 ⟨rfl, rfl⟩)
    go_ret2
    exact ⟨rfl, Below.refl _ _⟩

end Go.Proofs.Ytehickkodcfmfaa
