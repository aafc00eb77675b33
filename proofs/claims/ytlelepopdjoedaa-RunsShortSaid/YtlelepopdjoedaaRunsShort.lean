/- RunsShort returns true whatever comes in, and leaves all that was there as it was. -/
import Derived.Test.YtlelepopdjoedaaLaw10

namespace Go.Proofs.Ytlelepopdjoedaa
open Go.RowKit Go.Hm

theorem encL_rep {n x : Nat} (h : 4 ≤ n) : encL (List.replicate n x) = vp (2 * n) ++ vp x := by
  have hs := st_rep n x
  unfold encL pcs
  rw [cutP_run (by simp; omega) (by omega), hs, List.take_of_length_le (by simp), List.drop_eq_nil_of_le (by simp), cutP_nil]
  obtain ⟨k, rfl⟩ : ∃ k, n = k + 1 := ⟨n - 1, by omega⟩
  have hs2 : st (x :: List.replicate k x) = k + 1 := by rw [← List.replicate_succ]; exact hs
  simp [restL, encP, List.replicate_succ]
  intro hh
  omega
set_option maxHeartbeats 2000000 in
set_option maxRecDepth 100000 in
theorem runsShort_walk {w : World} {x n : Nat} (hx : x ≤ 18446744073709551615) (h4 : 4 ≤ n) (hn : n ≤ 5000) :
    Calls Try.prog 8 #[.int .u64 (x : Int), .int .i64 (n : Int)] w (SmallPost w) := by
  have hw : ∀ y ∈ List.replicate n x, y ≤ 18446744073709551615 := fun y hy => by rw [(List.mem_replicate.1 hy).2]; exact hx
  have hb := encL_byte hw
  have hq := Lib.hid (fun o (hI : IsDec (encL (List.replicate n x)) (n : Int) o) => isDec_is (l := List.replicate n x) hI (by simp) (by simp; omega) hw rfl)
  have hl : (encL (List.replicate n x)).length ≤ 13 := by
    have a := vp_len 1 (2 * n) (by omega)
    have b := vp_len10 (n := x) (by omega)
    rw [encL_rep h4, List.length_append]
    omega
  have HW := Lib.hid hw
  have HB := Lib.hid hb
  have HL := Lib.hid hl
  clear hw hb hl
  have n1 : decide ((n : Int) < 4) = false := by simp; omega
  have n2 : decide (5000 < (n : Int)) = false := by simp; omega
  go_enter Try.func8, Try.ntmps8
  go_wp2_with fail
  refine (small10_any w).mono ?_
  rintro e w2 ⟨rfl, b1⟩
  go_wp2_with (first
    | (refine wpList_mk elW rfl (.tmp 20) (.tmp 20) rfl (W := w2) (B := w2.heap.size) n n rfl rfl rfl rfl (by omega) (Below.refl _ _) (Nat.le_refl _) rfl (by omega) (by simp only [maxLen]; omega) ?_
       intro w3 hown3 hg3 hb3 hs3))
  go_loopw [7] (fun i wr => ∃ k : Nat, k ≤ n ∧ i = .int .i64 (k : Int) ∧ Go.Hm.Own wr w2.heap.size 34 (.slice (some ⟨w2.heap.size, 0, none⟩) n n) (nums .u64 (List.replicate k x ++ List.replicate (n - k) 0)) ∧ Below w2.heap.size w2 wr) (fun i _ => n - (intOf i).toNat)
  case atStart => exact ⟨0, Nat.zero_le _, rfl, by simpa [nums_replicate] using hown3, hb3⟩
  case round =>
    obtain ⟨k, hk, rfl, hown, hbl⟩ := hrel
    by_cases hlt : k < n
    · obtain ⟨hg0, hgl, hc, hf, hset⟩ := hown.num0 (i := k) hlt
      have hs := hset x
      rw [fill_set n k x hlt] at hs
      go_wp2
      go_roundw
      case rel => exact ⟨k + 1, by omega, by go_num, hs, hbl.setCell (p := ⟨w2.heap.size, k, none⟩) (Nat.le_refl _) _⟩
      case measure => simp [intOf]; omega
    · obtain rfl : k = n := by omega
      rw [Nat.sub_self, List.replicate_zero, List.append_nil] at hown
      have C1 := Lib.hid (enc_all (c := k) hown.reads (Nat.le_refl _) HW.out (by omega))
      have H3 := Lib.hid hown
      have b03 : New w wr := New.trans b1 hbl
      clear hown3 hown hbl hg3 hb3 hs3
      generalize encL (List.replicate k x) = b at *
      generalize hL : List.replicate k x = L at *
      have HLr := Lib.hid hL
      clear hL
      go_wp2_with fail
      refine C1.out.mono ?_
      rintro e w4 ⟨A4, m4, c4, rfl, k4, b4⟩
      have l4 : m4 ≤ 13 := by have l := k4.len; rw [nums_length] at l; have := HL.out; omega
      have C2 := Lib.hid (decode_all (c := c4) (n := (k : Int)) k4.reads HB.out (by omega))
      have H4 := Lib.hid (H3.out.later b4)
      have b04 := New.trans b03 b4
      clear C1 k4 H3
      go_wp2_with fail
      refine C2.out.mono ?_
      intro e w5 hh
      obtain ⟨p, A5, n5, c5, i5, rfl, q5, k5, b5⟩ := hh.u
      obtain rfl := hq.out p i5
      have b05 := New.trans b04 b5
      simp only [Option.getD_some, Option.isSome_some] at k5 ⊢
      have Q := Lib.hid (same_any (c := c5) (c2 := k) k5.reads (H4.out.later b5).reads (by omega) (by omega))
      rw [decide_eq_true rfl] at Q
      clear hh C2 H4 k5 i5
      go_wp2_with (go_at_call 17; refine Q.out.mono ?_; rintro e w6 ⟨rfl, b6⟩)
      go_ret
      exact ⟨by simp, New.trans b05 b6⟩

set_option maxHeartbeats 400000 in
theorem runsShort_big {w : World} {x : Value} {n : Int} (hb : n < 4 ∨ 5000 < n) :
    Calls Try.prog 8 #[x, .int .i64 n] w (SmallPost w) := by
  by_cases h1 : n < 4
  all_goals try (have h3 : 5000 < n := by omega)
  all_goals
    clear hb
    go_enter Try.func8, Try.ntmps8
    go_wp2_with (go_at_call 10; refine (small10_any w).mono ?_; rintro e w1 ⟨rfl, b1⟩)
    go_ret
    exact ⟨rfl, b1⟩

set_option maxRecDepth 100000 in
open Go.WideShapes Go.ChangeShapes in
theorem runsShort_contract {H : Type} {enc : TypeId × Value → H} (W : World) (base : Nat) (args : Array Value) (ds : List (DataW H)) (ps : List MemPlace)
    (hval : ∀ (j : Nat) t v, Try.f8.params[j]? = some t → args[j]? = some v → Value.okWide Try.prog W .any base t v)
    (hA : DataW.TrodAll enc Try.prog W 0 (fun _ => true) true Try.f8.params.toList args.toList ds ps) (hlt : ∀ p ∈ ps, p.block < W.heap.size)
    (hsz : (DataW.weightsEach Try.prog Try.f8.params.toList ds).all (· ≤ reachBytes) = true) :
    Calls Try.prog 8 args W fun e W' => e = .returned (.bool true) ∧ Below W.heap.size W W' := by
  rw [Try.params8] at hA hval hsz
  obtain ⟨v0, v1, d0, d1, p0, p1, rfl, rfl, rfl, h0, h1⟩ := trodAll_two hA
  obtain ⟨x, rfl, wx⟩ := open_u64 (hval 0 _ _ rfl rfl) h0
  obtain ⟨n, rfl, wn, wn'⟩ := open_i64 (hval 1 _ _ rfl rfl) h1
  by_cases hb : n < 4 ∨ 5000 < n
  · exact runsShort_big hb
  · obtain ⟨m, rfl⟩ := Int.eq_ofNat_of_zero_le (show 0 ≤ n by omega)
    exact runsShort_walk (by omega) (by omega) (by omega)

end Go.Proofs.Ytlelepopdjoedaa
