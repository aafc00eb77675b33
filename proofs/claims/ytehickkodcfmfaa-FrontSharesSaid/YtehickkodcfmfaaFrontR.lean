/- The document's own answer for texts by what they share. -/
import Derived.Test.YtehickkodcfmfaaFrontD

namespace Go.Proofs.Ytehickkodcfmfaa
open Go.RowKit Go.Hm

set_option maxHeartbeats 1000000 in
set_option maxRecDepth 100000 in
theorem rfenc_any {w : World} {A : Option Addr} {n c : Nat} {L : List (List Nat)} (h : Reads w w.heap.size 1 A n (strs L)) (h8 : ∀ s ∈ L, ∀ x ∈ s, x < 256) (hL : ∀ s ∈ L, s.length ≤ 140737488351232) (hn : n ≤ 9223372036854775806) :
    Calls Try.prog 31 #[.slice A n c] w (OptB (encF L) w) := by
  obtain rfl := h.lenT
  by_cases h0 : 65536 < L.length
  · have F : encF L = none := by unfold encF; rw [fewB_no0 h0]; rfl
    rw [F]
    clear F
    go_enter Try.func31, Try.ntmps31
    go_wp2
    go_ret2
    exact ⟨rfl, Below.refl _ _⟩
  · have d0 : decide (65536 < (L.length : Int)) = false := by simp; omega
    generalize hO : encF L = O
    have HO := Lib.hid hO
    clear hO
    go_enter Try.func31, Try.ntmps31
    go_wp2
    go_loop [4, 5] (fun a i => ∃ k q : Nat, k ≤ L.length ∧ i = .int .i64 (k : Int) ∧ a = .int .i64 (q : Int) ∧ q ≤ 16777216 ∧ Hid (q = fsum (L.take k) ∧ ∀ s ∈ L.take k, s.length ≤ 65536)) (fun _ i => L.length - (intOf i).toNat)
    case atStart => exact ⟨0, 0, by omega, rfl, rfl, by omega, Lib.hid ⟨rfl, by simp⟩⟩
    case round =>
      obtain ⟨k, q, hk, rfl, rfl, hq, H⟩ := hrel
      by_cases hlt : k < L.length
      · obtain ⟨ad, rfl, hb, hcell⟩ := h.str hlt
        have hs := getD_memT hL hlt
        have T := take_snoc L k [] hlt
        have F1 := Lib.hid (fewB_no1 hlt)
        have F2 := Lib.hid (fewB_no2 (l := L) (k := k + 1))
        rw [T] at F2
        have HT := Lib.hid T
        clear T
        generalize L.getD k [] = s at *
        have z := bstr_size s
        generalize hls : s.length = ls at *
        have HL := Lib.hid hls
        clear hls
        by_cases h1 : 65536 < ls
        · have F : O = none := by rw [← HO.out]; unfold encF; rw [F1.out h1]; rfl
          subst F
          clear F1 F2
          go_wp2
          go_ret2
          exact ⟨rfl, Below.refl _ _⟩
        · have d1 : decide (65536 < (ls : Int)) = false := by simp; omega
          by_cases h2 : 16777216 < q + ls
          · have F : O = none := by rw [← HO.out]; unfold encF; rw [F2.out (by rw [fsum_snoc, ← H.out.1, HL.out]; exact h2)]; rfl
            subst F
            clear F1 F2
            go_wp2
            go_ret2
            exact ⟨rfl, Below.refl _ _⟩
          · have d2 : decide (16777216 < (q : Int) + (ls : Int)) = false := by simp; omega
            go_wp2
            go_round
            case rel => exact ⟨k + 1, q + ls, by omega, by go_num, by go_num, by omega, Lib.hid ⟨by rw [HT.out, fsum_snoc, ← H.out.1, HL.out], fun x hx => by
              rw [HT.out, List.mem_append, List.mem_singleton] at hx
              rcases hx with hx | rfl
              · exact H.out.2 x hx
              · rw [HL.out]; omega⟩⟩
            case measure => simp [intOf]; omega
      · obtain rfl : k = L.length := by omega
        have HH := H.out
        rw [List.take_length] at HH
        have hl := HH.2
        have F : O = some (fenc [] L) := by rw [← HO.out]; unfold encF; rw [fewB_yes (by omega) hl (by omega)]; rfl
        subst F
        have HSUM := Lib.hid (show fsum L ≤ 16777216 by omega)
        clear HH H HO hq
        go_wp2
        go_loopw [6, 7, 8] (fun v a i wr => ∃ (k : Nat) (A : Option Addr) (m c : Nat), i = .int .i64 (k : Int) ∧ k ≤ L.length ∧ a = .string (bstr (lastD [] (L.take k))) ∧ v = .slice A m c ∧ Own wr w.heap.size 5 (.slice A m c) (nums .u8 (fenc [] (L.take k))) ∧ Below w.heap.size w wr) (fun _ _ i _ => L.length - (intOf i).toNat)
        case atStart => exact ⟨0, _, _, _, rfl, by omega, rfl, rfl, Own.nil_, Below.refl _ _⟩
        case round =>
          obtain ⟨k, A5, m5, c5, rfl, hk, rfl, rfl, o5, b5⟩ := hrel
          have z5 := b5.size
          by_cases hlt : k < L.length
          · obtain ⟨ad, rfl, hb, hcell⟩ := (h.below b5).str hlt
            have Hc : ∀ W, Below w.heap.size w W → W.cell? (ad.add k) = some (.string (bstr (L.getD k []))) := fun W hW => by
              obtain ⟨ad', e, _, hc⟩ := (h.below hW).str hlt
              injection e with e
              rw [e]
              exact hc
            have q5 := o5.len
            rw [nums_length] at q5
            have q6 := fenc_len [] (L.take k) (fun s hs => hl s (List.mem_of_mem_take hs))
            have q7 := fsum_take L k
            have q8 := HSUM.out
            rw [← q5, List.length_take] at q6
            have qm : m5 ≤ 20 * 65536 + 16777216 := by omega
            have T := Lib.hid (take_snoc L k [] hlt)
            have a8 := lastD_mem (Q := fun s => ∀ x ∈ s, x < 256) (a := []) (L.take k) (by simp) (fun s hs => h8 s (List.mem_of_mem_take hs))
            have al := lastD_mem (Q := fun s => s.length ≤ 65536) (a := []) (L.take k) (by simp) (fun s hs => hl s (List.mem_of_mem_take hs))
            have s8 := getD_memT (Q := fun s => ∀ x ∈ s, x < 256) h8 hlt
            have sl := getD_memT (Q := fun s => s.length ≤ 65536) hl hlt
            have SN := Lib.hid (fenc_snoc [] (L.getD k []) (L.take k))
            have LS := Lib.hid (lastD_snoc [] (L.getD k []) (L.take k))
            clear q5 q6 q7 q8
            generalize L.getD k [] = s at *
            generalize lastD [] (L.take k) = a at *
            have HC := Lib.hid Hc
            have k1 := shr_le_left a s
            have k2 := shr_le_right a s
            have z1 := bstr_size s
            have SH := Lib.hid (rshared_any a s a8 s8 (by omega) (by omega) wr)
            have FP := Lib.hid (show fpiece a s = vp (shr a s) ++ vp (s.length - shr a s) ++ s.drop (shr a s) from rfl)
            have i3 := run_from strT s (shr a s) k2
            have d8 : ∀ x ∈ s.drop (shr a s), x < 256 := fun x hx => s8 x (List.mem_of_mem_drop hx)
            have dl : (s.drop (shr a s)).length ≤ 65536 := by rw [List.length_drop]; omega
            have v1 := vp_len10 (n := shr a s) (by omega)
            have v2 := vp_len10 (n := s.length - shr a s) (by omega)
            have hq : (s.length : Int) - (shr a s : Int) = ((s.length - shr a s : Nat) : Int) := by omega
            generalize shr a s = j at *
            generalize s.length - j = p at *
            generalize s.drop j = r at *
            have V1 := Lib.hid v1
            have V2 := Lib.hid v2
            have DL := Lib.hid dl
            clear v1 v2 dl Hc
            go_wp2_with (first
              | (go_at_call 33; refine SH.out.mono ?_; intro e w6 hh; obtain ⟨rfl, b6⟩ := hh.new; clear hh
                 have b06 := below_then b5 b6 (Nat.le_refl _)
                 have o6 := o5.later b6
                 have hcell := HC.out w6 b06
                 have P6 := Lib.hid (rput_any (c := c5) j o6.reads (by omega) (by omega)))
              | (go_at_call 53; (with_reducible refine P6.out.mono ?_); rintro e w7 ⟨A7, n7, c7, rfl, k7, b7⟩
                 have b07 := below_then b06 b7 (Nat.le_refl _)
                 have hcell := HC.out w7 b07
                 have q7 : n7 ≤ 20 * 65536 + 16777216 + 10 := by have l7 := k7.len; have l6 := o6.len; rw [nums_length, List.length_append] at l7; rw [nums_length] at l6; have := V1.out; omega
                 have P8 := Lib.hid (rput_any (c := c7) p k7.reads (by omega) (by omega)))
              | (go_at_call 53; (with_reducible refine P8.out.mono ?_); rintro e w9 ⟨A9, n9, c9, rfl, k9, b9⟩
                 have b09 := below_then b07 b9 (Nat.le_refl _)
                 have hcell := HC.out w9 b09
                 have z7 := b07.size
                 have q9 : n9 ≤ 20 * 65536 + 16777216 + 20 := by have l7 := k7.len; have l9 := k9.len; rw [nums_length] at l7; rw [nums_length, List.length_append] at l9; have := V2.out; omega)
              | (refine wpList_pushStr elB strT rfl (.tmp 62) (.tmp 68) rfl (W := w) (B := w.heap.size) k9 d8 rfl rfl b09 z7 b9.size (by have := DL.out; omega) ?_
                 intro A11 c11 w11 _ _ o11 _ b011
                 have hcell := HC.out w11 b011))
            go_roundw
            case rel => exact ⟨k + 1, _, _, _, by go_num, by omega, by rw [T.out, LS.out], rfl, by rw [T.out, SN.out, FP.out, ← List.append_assoc, ← List.append_assoc]; exact o11.base_le z7, b011⟩
            case measure => simp [intOf]; omega
          · obtain rfl : k = L.length := by omega
            rw [List.take_length] at o5
            go_wp2
            go_ret2
            exact ⟨_, _, _, rfl, o5, b5⟩

set_option maxHeartbeats 800000 in
theorem sameT_eq {w : World} {A A2 : Option Addr} {n c c2 : Nat} {L L2 : List (List Nat)} (h : Reads w w.heap.size 1 A n (strs L)) (h2 : Reads w w.heap.size 1 A2 n (strs L2)) (h8 : ∀ s ∈ L, ∀ x ∈ s, x < 256) (h82 : ∀ s ∈ L2, ∀ x ∈ s, x < 256) (hn : n ≤ 9223372036854775806) :
    Calls Try.prog 36 #[.slice A n c, .slice A2 n c2] w (NewPost (.bool (decide (L = L2))) w) := by
  have l1 := Lib.hid h.lenT
  have l2 := Lib.hid h2.lenT
  go_enter Try.func36, Try.ntmps36
  go_wp2
  go_loopw [5] (fun i wr => ∃ k : Nat, k ≤ n ∧ i = .int .i64 (k : Int) ∧ L.take k = L2.take k ∧ New w wr) (fun i _ => n - (intOf i).toNat)
  case atStart => exact ⟨0, by omega, rfl, rfl, Below.refl _ _⟩
  case round =>
    obtain ⟨k, hk, rfl, hT, hb⟩ := hrel
    by_cases hlt : k < n
    · obtain ⟨ad, rfl, hbk, hcell⟩ := (h.below hb).str hlt
      obtain ⟨ad2, rfl, hbk2, hcell2⟩ := (h2.below hb).str hlt
      have T1 := take_snoc L k [] (by rw [← l1.out]; exact hlt)
      have T2 := take_snoc L2 k [] (by rw [← l2.out]; exact hlt)
      have e1 := getD_memT (Q := fun s => ∀ x ∈ s, x < 256) h8 (k := k) (by rw [← l1.out]; exact hlt)
      have e2 := getD_memT (Q := fun s => ∀ x ∈ s, x < 256) h82 (k := k) (by rw [← l2.out]; exact hlt)
      have hkk : (0 : Int) ≤ (k : Int) := by omega
      have hk1 : (k : Int) < (n : Int) := by omega
      have hbq := bstr_beq e1 e2
      by_cases he : L.getD k [] = L2.getD k []
      · have hT' : L.take (k + 1) = L2.take (k + 1) := by rw [T1, T2, hT, he]
        have HT' := Lib.hid hT'
        rw [← he] at hcell2
        clear he T1 T2 hT hT' e1 e2 hbq
        generalize L.getD k [] = y at *
        go_wp2
        go_quiet (fail)
        go_wp2
        go_roundw
        case rel => exact ⟨k + 1, by omega, by go_num, HT'.out, New.trans hb (new_drewN _ _)⟩
        case measure => simp [intOf]; omega
      · have hno : ¬ L = L2 := fun e => he (by rw [e])
        have Hno := Lib.hid hno
        rw [decide_eq_false he] at hbq
        clear T1 T2 hT he e1 e2 hno
        generalize L.getD k [] = y at *
        generalize L2.getD k [] = z at *
        go_wp2
        go_quiet (fail)
        go_wp2
        go_ret
        exact ⟨by rw [decide_eq_false Hno.out]; rfl, New.trans hb (new_drewN _ _)⟩
    · obtain rfl : k = n := by omega
      have he : L = L2 := by
        rw [l1.out, List.take_length, ← l1.out, l2.out, List.take_length] at hT
        exact hT
      have HE := Lib.hid he
      clear he hT
      go_wp2
      go_ret
      exact ⟨by rw [decide_eq_true HE.out]; rfl, hb⟩
theorem sameT_any {w : World} {A A2 : Option Addr} {n c n2 c2 : Nat} {L L2 : List (List Nat)} (h : Reads w w.heap.size 1 A n (strs L)) (h2 : Reads w w.heap.size 1 A2 n2 (strs L2)) (h8 : ∀ s ∈ L, ∀ x ∈ s, x < 256) (h82 : ∀ s ∈ L2, ∀ x ∈ s, x < 256) (hn : n ≤ 9223372036854775806) (hn2 : n2 ≤ 9223372036854775806) :
    Calls Try.prog 36 #[.slice A n c, .slice A2 n2 c2] w (NewPost (.bool (decide (L = L2))) w) := by
  by_cases hl : n = n2
  · subst hl
    exact sameT_eq h h2 h8 h82 hn
  · have hno : ¬ L = L2 := fun e => hl (by rw [h.lenT, h2.lenT, e])
    rw [decide_eq_false hno]
    clear hno h h2
    go_enter Try.func36, Try.ntmps36
    go_wp2
    go_ret
    exact ⟨rfl, Below.refl _ _⟩

set_option maxHeartbeats 1000000 in
set_option maxRecDepth 100000 in
theorem rfdec_any {w : World} {A : Option Addr} {n c : Nat} {b : List Nat} {m : Int} (h : Reads w w.heap.size 1 A n (nums .u8 b)) (h8 : ∀ x ∈ b, x < 256) (hn : n ≤ 140737488351232) (hc : n ≤ c) (hc1 : c ≤ 140737488351232) (hm : -9223372036854775808 ≤ m) (hm1 : m ≤ 9223372036854775807) :
    Calls Try.prog 35 #[.slice A n c, .int .i64 m] w (OptT (decF b m) w) := by
  obtain rfl := h.len
  by_cases hg : 0 ≤ m ∧ m ≤ 65536
  · obtain ⟨m, rfl⟩ := Int.eq_ofNat_of_zero_le hg.1
    have d1 : decide ((m : Int) < 0) = false := by simp
    have d2 : decide (65536 < (m : Int)) = false := by simp; omega
    have HD := Lib.hid (decF_r (m := m) h8)
    have hg1 := hg.2
    generalize hO : decF b m = O at *
    clear hg hm hm1 hO
    go_enter Try.func35, Try.ntmps35
    go_wp2
    have RC := RCurS.new h hc (by unfold maxLen; omega) h8
    have b1 : Below w.heap.size w (w.alloc (.cells #[.slice A b.length c, .bool false] 53)) := (Below.refl _ _).alloc (Nat.le_refl _) _
    go_loopw [7, 8, 9, 10] (fun v a q i wr => ∃ (k p : Nat) (A : Option Addr) (m5 c5 qa : Nat) (la : List Nat) (S : St) (pre : List (List Nat)), i = .int .i64 (k : Int) ∧ v = .slice A m5 c5 ∧ a = .string (bstr la) ∧ q = .int .i64 (qa : Int) ∧ k + p = m ∧ Own wr w.heap.size 9 (.slice A m5 c5) (strs pre) ∧ pre.length = k ∧ RCurS wr w.heap.size w.heap.size S ∧ Below w.heap.size w wr ∧
      (∀ x ∈ la, x < 256) ∧ la.length ≤ 16777216 ∧ qa ≤ 16777216 ∧ Hid (∀ s ∈ pre, (∀ x ∈ s, x < 256) ∧ s.length ≤ 16777216) ∧ Hid (rdec m [] 0 (some b) = (rdec p la qa S).map fun x => (pre ++ x.1, x.2))) (fun _ _ _ i _ => m - (intOf i).toNat)
    case atStart => exact ⟨0, m, _, _, _, 0, [], some b, [], rfl, rfl, rfl, rfl, by omega, Own.nil_, rfl, RC, b1, by simp, by simp, by omega, Lib.hid (by simp), Lib.hid (by simp)⟩
    case round =>
      obtain ⟨k, p, A5, m5, c5, qa, la, S, pre, rfl, rfl, rfl, rfl, hkp, o5, hpre, D5, b5, a8, al, hqa, HP, H⟩ := hrel
      have z5 := b5.size
      have l5 := o5.len
      rw [strs_length, hpre] at l5
      subst l5
      have Hpre := Lib.hid hpre
      clear hpre
      by_cases hp : p = 0
      · obtain rfl : m5 = m := by omega
        subst hp
        have H2 := H.out
        simp only [rdec, Option.map_some, List.append_nil] at H2
        have hO := HD.out
        rw [H2] at hO
        simp only at hO
        have hp8 : ∀ s ∈ pre, ∀ x ∈ s, x < 256 := fun s hs => (HP.out s hs).1
        have HO := Lib.hid hO
        have r5 := o5.reads
        have E6 := Lib.hid (rfenc_any (c := c5) r5 hp8 (fun s hs => by have := (HP.out s hs).2; omega) (by omega))
        have Hl8 := fun x => encF_lt (l := pre) (b := x) hp8
        clear H2 hO hp8 HD H
        generalize encF pre = ep at *
        have key : (endS S = false ∧ O = none) ∨ (endS S = true ∧ ep = none ∧ O = none) ∨ (∃ x, endS S = true ∧ ep = some x ∧ ((bstr x).toList == (bstr b).toList) = false ∧ O = none) ∨ (endS S = true ∧ ep = some b ∧ O = some pre) := by
          have hO := HO.out
          cases he : endS S with
          | false => rw [he, if_neg (by simp)] at hO; exact .inl ⟨rfl, hO⟩
          | true =>
            rw [he] at hO
            cases ep with
            | none => rw [if_neg (by simp)] at hO; exact .inr (.inl ⟨rfl, rfl, hO⟩)
            | some x =>
              by_cases hx : x = b
              · rw [hx, if_pos ⟨rfl, rfl⟩] at hO; exact .inr (.inr (.inr ⟨rfl, by rw [hx], hO⟩))
              · rw [if_neg (by simp [hx])] at hO
                refine .inr (.inr (.inl ⟨x, rfl, rfl, ?_, hO⟩))
                rw [bstr_beq (Hl8 x rfl) h8, decide_eq_false hx]
        clear HO Hl8
        rcases key with ⟨e1, rfl⟩ | ⟨e1, rfl, rfl⟩ | ⟨x, e1, rfl, e2, rfl⟩ | ⟨e1, rfl, rfl⟩
        all_goals
          have HE1 := Lib.hid e1
          clear e1
          go_wp2_with (first
            | (go_at_call 31; (with_reducible refine E6.out.mono ?_); intro e w6 hh; obtain ⟨A6, n6, c6, rfl, k6, b6⟩ := hh.u; clear hh
               have b06 := below_then b5 b6 (Nat.le_refl _)
               have D6 := D5.below b6
               have ED := Lib.hid (rendS_any D6)
               rw [HE1.out] at ED
               have S1 := run_strB (c := c6) k6.reads
               have S2 := run_strB (c := c) (Reads.later h b06)
               try simp only [Option.getD_some] at S1
               have o6 := o5.later b6)
            | (go_at_call 58; (with_reducible refine ED.out.mono ?_); rintro e w7 ⟨rfl, rfl⟩))
          go_ret2
          first
            | exact ⟨rfl, b06⟩
            | exact ⟨_, _, _, rfl, o6, b06⟩
      · obtain ⟨p, rfl⟩ : ∃ r, p = r + 1 := ⟨p - 1, by omega⟩
        have H2 := H.out
        rw [show rdec (p + 1) la qa S = _ from rfl] at H2
        have hS := D5.ok
        have hk0 := lenS_le (m := la.length) S (by omega) hS
        have hS1 := lenS_ok (m := la.length) hS
        have L1 := Lib.hid (fun W (hW : RCurS W w.heap.size w.heap.size S) => (rlenS_any (m := (la.length : Int)) hW (by omega) (by omega)))
        simp only [rdec] at H2
        generalize lenS (la.length : Int) S = x1 at *
        obtain ⟨k1, S1⟩ := x1
        simp only at hk0 hS1 L1 H2
        have hm0 := lenS_le (m := 65536) S1 (by omega) hS1
        have hS2 := lenS_ok (m := 65536) hS1
        have L2 := Lib.hid (fun W (hW : RCurS W w.heap.size w.heap.size S1) => (rlenS_any (m := 65536) hW (by omega) (by omega)))
        generalize lenS 65536 S1 = x2 at *
        obtain ⟨m1, S2⟩ := x2
        simp only at hm0 hS2 L2 H2
        have hr8 := (takeS_ok (n := (m1 : Int)) hS2).2
        have hrl := takeS_len (n := (m1 : Int)) (S := S2) (by omega)
        have L3 := Lib.hid (fun W (hW : RCurS W w.heap.size w.heap.size S2) => (rtakeS_any (n := (m1 : Int)) hW (by omega) (by omega)))
        generalize takeS (m1 : Int) S2 = x3 at *
        obtain ⟨r, S3⟩ := x3
        simp only at hr8 hrl L3 H2
        have i1 := run_to strT la k1 (by omega)
        have sa := run_sadd Try.prog (la.take k1) r (by rw [List.length_take]; omega)
        have z1 := bstr_size la
        have ht8 : ∀ x ∈ la.take k1 ++ r, x < 256 := by
          intro x hx
          rcases List.mem_append.1 hx with hx | hx
          · exact a8 x (List.mem_of_mem_take hx)
          · exact hr8 x hx
        have htl : (la.take k1 ++ r).length ≤ 16777216 + 65536 := by
          rw [List.length_append, List.length_take]; omega
        have HH := Lib.hid H2
        clear H2 H hS hS1 hS2 hp
        generalize ht : la.take k1 ++ r = t at *
        have Ht := Lib.hid ht
        clear ht
        have z2 := bstr_size t
        go_wp2_with (first
          | (go_at_call 59; (with_reducible refine (L1.out _ D5).mono ?_); rintro e w6 ⟨rfl, D6, b6⟩)
          | (go_at_call 59; (with_reducible refine (L2.out _ D6).mono ?_); rintro e w7 ⟨rfl, D7, b7⟩))
        have D7' := D7.below (New.drew w7)
        refine wp_region_up (Far w.heap.size) [(true, 0), (true, 1), (true, 2), (true, 3), (true, 4), (false, 5), (true, 6), (true, 7), (true, 8)]
          (Far.refl _) Far.trans (by kernel_rfl) (by kernel_rfl) (by kernel_rfl) (by kernel_rfl) ?_
        have hU : Far w.heap.size w7 w7.drew := Far.drew _ w7
        repeat (first
          | (refine up_call rfl rfl (fun K hK => ?_); go_simp
             (with_reducible refine (L3.out _ D7').mono ?_); rintro e w8 ⟨A8, n8, c8, rfl, rfl, k8, D8, b8⟩
             refine hK _ _ b8 ?_
             clear hK
             have hU := Far.trans hU b8
             obtain ⟨cs8, B8⟩ := D8.blk
             have HS := Lib.hid (fun W (hW : Far w.heap.size w8 W) => run_strB (c := c8) ((k8.keepT hW B8 (by decide)).reads)))
          | (refine up_quiet rfl rfl (v := ?_) (fun W hW => ?_) ?_; rotate_left; (have sr := HS.out W hW; go_simp <;> with_reducible rfl); simp only [Act.put, List.setIfInBounds_toArray, List.set_cons_zero, List.set_cons_succ])
          | (refine up_quiet rfl rfl (v := ?_) (fun W hW => ?_) ?_; rotate_left; (go_simp <;> with_reducible rfl); simp only [Act.put, List.setIfInBounds_toArray, List.set_cons_zero, List.set_cons_succ]))
        refine up_nil ?_
        have f68 : Turns [w.heap.size] wr w8 := ((Turns.of_far b6 (by simp)).trans (Turns.of_far b7 (by simp))).trans (Turns.of_far hU (by simp))
        have b08 := Turns.below b5 f68 (by simp) (Nat.le_refl _)
        obtain ⟨cs5, B5⟩ := D5.blk
        have o8 := o5.touch f68 (fun g hg => by rw [List.mem_singleton] at hg; subst hg; exact o5.blk_ne B5 (by decide))
        have z8 := b08.size
        have his := D8.is
        have HD8 := Lib.hid D8
        have D1 := D8
        clear D1 D8
        by_cases hbad : S3 = none ∨ 16777216 < qa + t.length
        · have hR := HH.out
          rw [if_pos hbad] at hR
          have hO := HD.out
          rw [hR] at hO
          simp only [Option.map_none] at hO
          subst hO
          clear hR
          by_cases h3 : S3 = none
          all_goals first
            | (rw [h3] at his)
            | (have h4 : 16777216 < qa + t.length := hbad.resolve_left h3
               obtain ⟨l3, rfl⟩ : ∃ l, S3 = some l := by
                 cases S3 with
                 | none => exact absurd rfl h3
                 | some l => exact ⟨l, rfl⟩)
          all_goals
            clear hbad h3
            go_wp2
            all_goals first | (exfalso; omega) | go_ret2
            exact ⟨rfl, b08⟩
        · have hR := HH.out
          rw [if_neg hbad] at hR
          have h4 : decide (16777216 < (qa : Int) + (t.length : Int)) = false := by simp; omega
          have h5 : qa + t.length ≤ 16777216 := by omega
          obtain ⟨l3, rfl⟩ : ∃ l, S3 = some l := by
            cases S3 with
            | none => exact absurd (.inl rfl) hbad
            | some l => exact ⟨l, rfl⟩
          have HR := Lib.hid hR
          clear hR hbad HH
          go_wp2_with (first
            | (refine wpList_push elS rfl (.tmp 56) (.tmp 58) rfl (W := w) (B := w.heap.size) o8 rfl rfl b08 (Nat.le_refl _) z8 rfl (by rw [strs_length, Hpre.out]; omega) (by rw [strs_length, Hpre.out]; simp only [maxLen]; omega) ?_
               intro A9 c9 w9 _ _ o9 g9 b9 _ _))
          go_roundw
          case rel => exact ⟨m5 + 1, p, _, _, _, qa + t.length, t, some l3, pre ++ [t], by go_num, rfl, rfl, by go_num, by omega, by rw [strs_append]; exact o9, by rw [List.length_append, Hpre.out]; rfl, HD8.out.push o8 (Nat.le_refl _) g9 (by decide), b9, ht8, by omega, h5, Lib.hid (fun s hs => by
            rcases List.mem_append.1 hs with hs | hs
            · exact HP.out s hs
            · rw [List.mem_singleton] at hs
              subst hs
              exact ⟨ht8, by omega⟩), Lib.hid (by
            rw [HR.out, Option.map_map]
            congr 1
            funext x
            simp)⟩
          case measure => simp [intOf]; omega
  · have hD : decF b m = none := by unfold decF; rw [if_neg hg]
    rw [hD]
    by_cases h0 : m < 0
    all_goals
      have d3 : 65536 < m ∨ m < 0 := by omega
      clear hg hD
      go_enter Try.func35, Try.ntmps35
      go_wp2
      all_goals first | (exfalso; omega) | (go_ret2; exact ⟨rfl, Below.refl _ _⟩)

end Go.Proofs.Ytehickkodcfmfaa
