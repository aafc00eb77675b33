/- TagBack returns true whatever comes in, and leaves all that was there as it was. -/
import Derived.Test.YtlfnhbnaegihfaaDoorBun6

namespace Go.Hm
open Go Go.RowKit
theorem frame_tsum {s : List Nat} {L : List (List Nat)} {f : List Nat} (h : frameO s L = some f) : tsum L ≤ f.length ∧ s.length ≤ 255 := by
  unfold frameO at h
  split at h
  · rename_i hc
    obtain rfl := Option.some.inj h
    rw [frameL_len]
    unfold tsum
    omega
  · cases h

end Go.Hm

namespace Go.Proofs.YtlfnhbnaegihfaaDoor
open Go.RowKit Go.Hm
set_option maxHeartbeats 4000000 in
set_option maxRecDepth 100000 in
theorem tagBack_walk {w : World} {s : List Nat} {A : Option Addr} {c : Nat} {D : List PartS} {B : Option Addr} {d : Nat} {b : List Nat} (hs8 : ∀ x ∈ s, x < 256) (hs : s.length ≤ 140737488351232) (h : RowsAt w A D.length c D) (hf : PartsFine D) (hn : D.length ≤ 4611686018427387903)
    (hb : Reads w w.heap.size 1 B b.length (nums .u8 b)) (hb8 : ∀ x ∈ b, x < 256) (hbc : b.length ≤ d) (hC : ConstIn w) :
    Calls Tryd.prog 4 #[.string (bstr s), .slice A D.length c, .slice B b.length d] w (SmallPost w) := by
  have SM := Lib.hid (small02_any w hC)
  have HR := Lib.hid h
  have HB := Lib.hid hb
  have S8 := Lib.hid hs8
  have B8 := Lib.hid hb8
  have HF := Lib.hid hf
  have hz := bstr_size s
  have HZ := Lib.hid hz
  clear h hb hC hs8 hb8 hf
  go_enter Tryd.func4, Tryd.ntmps4
  go_wp2_with fail
  refine SM.out.mono ?_
  rintro e w1 ⟨rfl, b1⟩
  have B1 := Lib.hid b1
  have FW := Lib.hid (few_any2 (HR.out.later b1) (by omega) (fun p hp => (HF.out p hp).2))
  clear SM b1
  go_wp2_with fail
  refine FW.out.mono ?_
  rintro e w2 ⟨rfl, rfl⟩
  obtain ⟨fw, hfw⟩ : ∃ fw, fw = fewT (bytesOf D) := ⟨_, rfl⟩
  rw [← hfw]
  have HFW := Lib.hid hfw
  clear hfw FW
  cases fw with
  | false =>
    go_wp2
    go_ret
    exact ⟨rfl, B1.out⟩
  | true =>
    by_cases h3 : 300 < s.length
    · have d3 : decide ((300 : Int) < (s.length : Int)) = true := by simp; omega
      go_wp2
      go_ret
      exact ⟨rfl, B1.out⟩
    have d3 : decide ((300 : Int) < (s.length : Int)) = false := by simp; omega
    by_cases h4 : 2000 < b.length
    · have d4 : decide ((2000 : Int) < (b.length : Int)) = true := by simp; omega
      go_wp2
      go_ret
      exact ⟨rfl, B1.out⟩
    have d4 : decide ((2000 : Int) < (b.length : Int)) = false := by simp; omega
    have ht : D.length ≤ 260 ∧ tsum (bytesOf D) ≤ 1500 := by
      have := HFW.out.symm
      unfold fewT at this
      rw [decide_eq_true_eq, bytesOf_len] at this
      exact this
    have F1 := Lib.hid (frame_any (HR.out.later B1.out) (by omega) S8.out hs (by omega))
    go_wp2_with fail
    refine F1.out.mono ?_
    rintro e w3 hx
    obtain ⟨A3, n3, c3, rfl, o3, b3⟩ := hx.u
    have B3 := Lib.hid (New.trans B1.out b3)
    have O3 := Lib.hid o3
    have HO : frameO s (bytesOf D) = frameO s (bytesOf D) := rfl
    conv at HO => rhs; unfold frameO
    rw [bytesOf_len] at HO
    have PF := Lib.hid (fun f (hf : frameO s (bytesOf D) = some f) => And.intro (frameO_lt S8.out HF.out.lt hf) (And.intro (frameO_len hf (by omega)) (parse_frame (fun p hp => by have := (HF.out p hp).2; omega) hf)))
    clear F1 hx b3 o3 B1
    generalize frameO s (bytesOf D) = o at *
    by_cases hP : 1 ≤ s.length ∧ s.length ≤ 255 ∧ D.length ≤ 255
    · rw [if_pos hP] at HO
      obtain ⟨f, hf⟩ : ∃ f, f = frameL s (bytesOf D) := ⟨_, rfl⟩
      rw [← hf] at HO
      subst HO
      obtain ⟨f8, fl, fp⟩ := PF.out f rfl
      have d5 : decide ((0 : Int) < (s.length : Int)) = true := by simp; omega
      have d50 : 0 < s.length := by omega
      have d51 : decide (0 < s.length) = true := by simp; omega
      have d6 : decide ((s.length : Int) < 256) = true := by simp; omega
      have d7 : decide ((D.length : Int) < 256) = true := by simp; omega
      have O3 := Lib.hid (show Own w3 _ 5 (.slice A3 n3 c3) (nums .u8 f) from O3.out)
      obtain rfl : n3 = f.length := by have := O3.out.len; rwa [nums_length] at this
      have P0 := parse_any O3.out.reads f8 O3.out.cap.1 (by omega)
      rw [fp] at P0
      have P0 := Lib.hid P0
      have F8 := Lib.hid f8
      have FP := Lib.hid fp
      clear hf f8 fp PF
      go_wp2_with fail
      refine P0.out.mono ?_
      rintro e w4 hx
      obtain ⟨A4, n4, c4, D4, rfl, r4, e4, b4⟩ := hx
      have B4 := Lib.hid (New.trans B3.out b4)
      have e4 : bytesOf D4 = bytesOf D := e4
      have n4l : n4 = D.length := by rw [r4.len, ← bytesOf_len, e4, bytesOf_len]
      have sm := same_any r4 (HR.out.later B4.out) (by rw [e4]; exact HF.out.lt) HF.out.lt (by omega) (by omega)
      rw [decide_eq_true e4] at sm
      have SM := Lib.hid sm
      clear P0 r4 e4 b4 n4l sm B3
      have d8 : ((bstr s).toList == (bstr s).toList) = true := by simp
      go_wp2_with fail
      refine SM.out.mono ?_
      rintro e w5 ⟨rfl, b5⟩
      have B3 := Lib.hid (New.trans B4.out b5)
      clear SM b5 B4 d8 d5 d6 d7 d50 d51
      have P1 := Lib.hid (parse_any (Reads.later HB.out B3.out) B8.out hbc (by omega))
      cases hpb : parseO b with
      | none =>
        rw [hpb] at P1
        go_wp2_with fail
        refine P1.out.mono ?_
        rintro e w6 hx
        obtain ⟨A6, n6, c6, D6, rfl, r6, e6, b6⟩ := hx
        obtain rfl : n6 = 0 := by rw [r6.len, ← bytesOf_len, e6]; rfl
        have BE := Lib.hid (New.trans B3.out b6)
        clear r6 e6 b6 P1 hpb
        rw [show bstr ((Option.map Prod.fst (none : Option (List Nat × List (List Nat)))).getD []) = (⟨#[]⟩ : ByteArray) from rfl]
        go_wp2
        go_ret
        exact ⟨by simp, BE.out⟩
      | some q =>
        obtain ⟨t, L⟩ := q
        obtain ⟨q1, q2, q3⟩ := frame_parse B8.out hpb
        obtain ⟨q4, q5⟩ := frame_tsum q1
        rw [hpb] at P1
        have Q1 := Lib.hid q1
        clear hpb q1
        go_wp2_with fail
        refine P1.out.mono ?_
        rintro e w6 hx
        obtain ⟨A6, n6, c6, D6, rfl, r6, e6, b6⟩ := hx
        have B6 := Lib.hid (New.trans B3.out b6)
        have e6 : bytesOf D6 = L := e6
        have n6l : n6 ≤ 255 := by
          have := Q1.out
          unfold frameO at this
          split at this
          · rename_i hc
            rw [r6.len, ← bytesOf_len, e6]
            exact hc.2.2
          · cases this
        have F6 := frame_any (s := t) r6 (by omega) q2 (by omega) (by rw [e6]; omega)
        rw [e6, Q1.out] at F6
        have F6 := Lib.hid F6
        clear P1 r6 e6 b6 n6l q2 q3 q4 q5 B3
        rw [show (Option.map Prod.fst (some (t, L))).getD [] = t from rfl]
        go_wp2_with fail
        refine F6.out.mono ?_
        rintro e w7 hx
        obtain ⟨A7, n7, c7, rfl, o7, b7⟩ := hx.u
        have b17 := New.trans B6.out b7
        have st1 := run_str (P := Tryd.prog) (c := c7) (src := 23) (dst := 9) (e := 5) (by kernel_rfl) (by kernel_rfl) (by kernel_rfl) o7.reads
        have st2 := run_str (P := Tryd.prog) (c := d) (src := 23) (dst := 9) (e := 5) (by kernel_rfl) (by kernel_rfl) (by kernel_rfl) (Reads.later HB.out b17)
        have BE := Lib.hid b17
        rw [show (some b).getD [] = b from rfl] at st1
        clear hx o7 b7 b17 F6 B6 Q1
        generalize bstr b = sb at *
        go_wp2
        go_ret
        exact ⟨by simp, BE.out⟩
    · rw [if_neg hP] at HO
      subst HO
      obtain rfl : n3 = 0 := by have := O3.out.len; simpa [nums] using this
      have hT : s = [] ∨ (0 < s.length ∧ decide ((s.length : Int) < 256) = false) ∨ (0 < s.length ∧ decide ((s.length : Int) < 256) = true ∧ decide ((D.length : Int) < 256) = false) := by
        simp only [decide_eq_true_eq, decide_eq_false_iff_not]
        by_cases h0 : s = []
        · exact .inl h0
        · have := List.length_pos_iff.2 h0
          omega
      clear hP PF O3
      rcases hT with rfl | ⟨d50, d6⟩ | ⟨d50, d6, d7⟩
      · skip
        have P1 := Lib.hid (parse_any (Reads.later HB.out B3.out) B8.out hbc (by omega))
        cases hpb : parseO b with
        | none =>
          rw [hpb] at P1
          go_wp2_with fail
          refine P1.out.mono ?_
          rintro e w6 hx
          obtain ⟨A6, n6, c6, D6, rfl, r6, e6, b6⟩ := hx
          obtain rfl : n6 = 0 := by rw [r6.len, ← bytesOf_len, e6]; rfl
          have BE := Lib.hid (New.trans B3.out b6)
          clear r6 e6 b6 P1 hpb
          rw [show bstr ((Option.map Prod.fst (none : Option (List Nat × List (List Nat)))).getD []) = (⟨#[]⟩ : ByteArray) from rfl]
          go_wp2
          go_ret
          exact ⟨by simp, BE.out⟩
        | some q =>
          obtain ⟨t, L⟩ := q
          obtain ⟨q1, q2, q3⟩ := frame_parse B8.out hpb
          obtain ⟨q4, q5⟩ := frame_tsum q1
          rw [hpb] at P1
          have Q1 := Lib.hid q1
          clear hpb q1
          go_wp2_with fail
          refine P1.out.mono ?_
          rintro e w6 hx
          obtain ⟨A6, n6, c6, D6, rfl, r6, e6, b6⟩ := hx
          have B6 := Lib.hid (New.trans B3.out b6)
          have e6 : bytesOf D6 = L := e6
          have n6l : n6 ≤ 255 := by
            have := Q1.out
            unfold frameO at this
            split at this
            · rename_i hc
              rw [r6.len, ← bytesOf_len, e6]
              exact hc.2.2
            · cases this
          have F6 := frame_any (s := t) r6 (by omega) q2 (by omega) (by rw [e6]; omega)
          rw [e6, Q1.out] at F6
          have F6 := Lib.hid F6
          clear P1 r6 e6 b6 n6l q2 q3 q4 q5 B3
          rw [show (Option.map Prod.fst (some (t, L))).getD [] = t from rfl]
          go_wp2_with fail
          refine F6.out.mono ?_
          rintro e w7 hx
          obtain ⟨A7, n7, c7, rfl, o7, b7⟩ := hx.u
          have b17 := New.trans B6.out b7
          have st1 := run_str (P := Tryd.prog) (c := c7) (src := 23) (dst := 9) (e := 5) (by kernel_rfl) (by kernel_rfl) (by kernel_rfl) o7.reads
          have st2 := run_str (P := Tryd.prog) (c := d) (src := 23) (dst := 9) (e := 5) (by kernel_rfl) (by kernel_rfl) (by kernel_rfl) (Reads.later HB.out b17)
          have BE := Lib.hid b17
          rw [show (some b).getD [] = b from rfl] at st1
          clear hx o7 b7 b17 F6 B6 Q1
          generalize bstr b = sb at *
          go_wp2
          go_ret
          exact ⟨by simp, BE.out⟩
      · have d5 : decide ((0 : Int) < (s.length : Int)) = true := by simp; omega
        have d51 : decide (0 < s.length) = true := by simp; omega
        have P1 := Lib.hid (parse_any (Reads.later HB.out B3.out) B8.out hbc (by omega))
        cases hpb : parseO b with
        | none =>
          rw [hpb] at P1
          go_wp2_with fail
          refine P1.out.mono ?_
          rintro e w6 hx
          obtain ⟨A6, n6, c6, D6, rfl, r6, e6, b6⟩ := hx
          obtain rfl : n6 = 0 := by rw [r6.len, ← bytesOf_len, e6]; rfl
          have BE := Lib.hid (New.trans B3.out b6)
          clear r6 e6 b6 P1 hpb
          rw [show bstr ((Option.map Prod.fst (none : Option (List Nat × List (List Nat)))).getD []) = (⟨#[]⟩ : ByteArray) from rfl]
          go_wp2
          go_ret
          exact ⟨by simp, BE.out⟩
        | some q =>
          obtain ⟨t, L⟩ := q
          obtain ⟨q1, q2, q3⟩ := frame_parse B8.out hpb
          obtain ⟨q4, q5⟩ := frame_tsum q1
          rw [hpb] at P1
          have Q1 := Lib.hid q1
          clear hpb q1
          go_wp2_with fail
          refine P1.out.mono ?_
          rintro e w6 hx
          obtain ⟨A6, n6, c6, D6, rfl, r6, e6, b6⟩ := hx
          have B6 := Lib.hid (New.trans B3.out b6)
          have e6 : bytesOf D6 = L := e6
          have n6l : n6 ≤ 255 := by
            have := Q1.out
            unfold frameO at this
            split at this
            · rename_i hc
              rw [r6.len, ← bytesOf_len, e6]
              exact hc.2.2
            · cases this
          have F6 := frame_any (s := t) r6 (by omega) q2 (by omega) (by rw [e6]; omega)
          rw [e6, Q1.out] at F6
          have F6 := Lib.hid F6
          clear P1 r6 e6 b6 n6l q2 q3 q4 q5 B3
          rw [show (Option.map Prod.fst (some (t, L))).getD [] = t from rfl]
          go_wp2_with fail
          refine F6.out.mono ?_
          rintro e w7 hx
          obtain ⟨A7, n7, c7, rfl, o7, b7⟩ := hx.u
          have b17 := New.trans B6.out b7
          have st1 := run_str (P := Tryd.prog) (c := c7) (src := 23) (dst := 9) (e := 5) (by kernel_rfl) (by kernel_rfl) (by kernel_rfl) o7.reads
          have st2 := run_str (P := Tryd.prog) (c := d) (src := 23) (dst := 9) (e := 5) (by kernel_rfl) (by kernel_rfl) (by kernel_rfl) (Reads.later HB.out b17)
          have BE := Lib.hid b17
          rw [show (some b).getD [] = b from rfl] at st1
          clear hx o7 b7 b17 F6 B6 Q1
          generalize bstr b = sb at *
          go_wp2
          go_ret
          exact ⟨by simp, BE.out⟩
      · have d5 : decide ((0 : Int) < (s.length : Int)) = true := by simp; omega
        have d51 : decide (0 < s.length) = true := by simp; omega
        have P1 := Lib.hid (parse_any (Reads.later HB.out B3.out) B8.out hbc (by omega))
        cases hpb : parseO b with
        | none =>
          rw [hpb] at P1
          go_wp2_with fail
          refine P1.out.mono ?_
          rintro e w6 hx
          obtain ⟨A6, n6, c6, D6, rfl, r6, e6, b6⟩ := hx
          obtain rfl : n6 = 0 := by rw [r6.len, ← bytesOf_len, e6]; rfl
          have BE := Lib.hid (New.trans B3.out b6)
          clear r6 e6 b6 P1 hpb
          rw [show bstr ((Option.map Prod.fst (none : Option (List Nat × List (List Nat)))).getD []) = (⟨#[]⟩ : ByteArray) from rfl]
          go_wp2
          go_ret
          exact ⟨by simp, BE.out⟩
        | some q =>
          obtain ⟨t, L⟩ := q
          obtain ⟨q1, q2, q3⟩ := frame_parse B8.out hpb
          obtain ⟨q4, q5⟩ := frame_tsum q1
          rw [hpb] at P1
          have Q1 := Lib.hid q1
          clear hpb q1
          go_wp2_with fail
          refine P1.out.mono ?_
          rintro e w6 hx
          obtain ⟨A6, n6, c6, D6, rfl, r6, e6, b6⟩ := hx
          have B6 := Lib.hid (New.trans B3.out b6)
          have e6 : bytesOf D6 = L := e6
          have n6l : n6 ≤ 255 := by
            have := Q1.out
            unfold frameO at this
            split at this
            · rename_i hc
              rw [r6.len, ← bytesOf_len, e6]
              exact hc.2.2
            · cases this
          have F6 := frame_any (s := t) r6 (by omega) q2 (by omega) (by rw [e6]; omega)
          rw [e6, Q1.out] at F6
          have F6 := Lib.hid F6
          clear P1 r6 e6 b6 n6l q2 q3 q4 q5 B3
          rw [show (Option.map Prod.fst (some (t, L))).getD [] = t from rfl]
          go_wp2_with fail
          refine F6.out.mono ?_
          rintro e w7 hx
          obtain ⟨A7, n7, c7, rfl, o7, b7⟩ := hx.u
          have b17 := New.trans B6.out b7
          have st1 := run_str (P := Tryd.prog) (c := c7) (src := 23) (dst := 9) (e := 5) (by kernel_rfl) (by kernel_rfl) (by kernel_rfl) o7.reads
          have st2 := run_str (P := Tryd.prog) (c := d) (src := 23) (dst := 9) (e := 5) (by kernel_rfl) (by kernel_rfl) (by kernel_rfl) (Reads.later HB.out b17)
          have BE := Lib.hid b17
          rw [show (some b).getD [] = b from rfl] at st1
          clear hx o7 b7 b17 F6 B6 Q1
          generalize bstr b = sb at *
          go_wp2
          go_ret
          exact ⟨by simp, BE.out⟩

set_option maxRecDepth 100000 in
open Go.WideShapes Go.ChangeShapes in
theorem tagBack_contract {H : Type} {enc : TypeId × Value → H} (W : World) (base : Nat) (args : Array Value) (ds : List (DataW H)) (ps : List MemPlace)
    (hval : ∀ (j : Nat) t v, Tryd.f4.params[j]? = some t → args[j]? = some v → Value.okWide Tryd.prog W .any base t v)
    (hA : DataW.TrodAll enc Tryd.prog W 0 (fun _ => true) true Tryd.f4.params.toList args.toList ds ps) (hlt : ∀ p ∈ ps, p.block < W.heap.size)
    (hsz : (DataW.weightsEach Tryd.prog Tryd.f4.params.toList ds).all (· ≤ reachBytes) = true) (hL : laidMetH Tryd.prog laidC W) :
    Calls Tryd.prog 4 args W fun e W' => e = .returned (.bool true) ∧ Below W.heap.size W W' := by
  rw [Tryd.params4] at hA hval hsz
  obtain ⟨v0, v1, v2, d0, d1, d2, p0, p1, p2, rfl, rfl, rfl, h0, h1, h2⟩ := trodAll_three hA
  obtain ⟨s, rfl, h8_s, hl_s⟩ := open_s (hval 0 _ _ rfl rfl) h0 (fun p hp => hlt p (by simp [hp])) (sized_at hsz (j := 0) rfl rfl)
  -- l: v1 d1 p1 h1, hval 1
  obtain ⟨A_b, c_b, b, rfl, hc_b, hm_b, hr_b, hl_b⟩ := open_B (hval 2 _ _ rfl rfl) h2 (fun p hp => hlt p (by simp [hp])) (sized_at hsz (j := 2) rfl rfl)
  obtain ⟨A_l, c_l, D_l, rfl, hr_l, hf_l, hn_l⟩ := open_BB (hval 1 _ _ rfl rfl) h1 (fun p hp => hlt p (by simp [hp])) (sized_at hsz (j := 1) rfl rfl)
  exact tagBack_walk h8_s hl_s hr_l hf_l hn_l hr_b hl_b hc_b (const_of_laid hL)

end Go.Proofs.YtlfnhbnaegihfaaDoor
