/- TagFrames returns true whatever comes in, and leaves all that was there as it was. -/
import Derived.Test.YtlfnhbnaegihfaaDoorBun6

namespace Go.Proofs.YtlfnhbnaegihfaaDoor
open Go.RowKit Go.Hm
set_option maxHeartbeats 2000000 in
set_option maxRecDepth 100000 in
theorem tagFrames_walk {w : World} {s : List Nat} {A : Option Addr} {c : Nat} {D : List PartS} {B : Option Addr} {d : Nat} {b : List Nat} (hs8 : ∀ x ∈ s, x < 256) (hs : s.length ≤ 140737488351232) (h : RowsAt w A D.length c D) (hf : PartsFine D) (hn : D.length ≤ 4611686018427387903)
    (hb : Reads w w.heap.size 1 B b.length (nums .u8 b)) (hb8 : ∀ x ∈ b, x < 256) (hbc : b.length ≤ d) (hbd : d ≤ 140737488351232) (hC : ConstIn w) :
    Calls Tryd.prog 3 #[.string (bstr s), .slice A D.length c, .slice B b.length d] w (SmallPost w) := by
  have SM := Lib.hid (small02_any w hC)
  have HR := Lib.hid h
  have HB := Lib.hid hb
  have HC := Lib.hid hC
  have S8 := Lib.hid hs8
  have B8 := Lib.hid hb8
  have HF := Lib.hid hf
  have hz := bstr_size s
  have HZ := Lib.hid hz
  clear h hb hC hs8 hb8 hf
  go_enter Tryd.func3, Tryd.ntmps3
  go_wp2_with fail
  refine SM.out.mono ?_
  rintro e w1 ⟨rfl, b1⟩
  have B1 := Lib.hid b1
  have FW := Lib.hid (few_any2 (HR.out.later b1) (by omega) (fun p hp => (HF.out p hp).2))
  clear SM b1
  go_wp2_with fail
  refine FW.out.mono ?_
  rintro e w2 ⟨rfl, rfl⟩
  obtain ⟨fw, hfw⟩ : ∃ fw, fw = fewT (bytesOf D) := ⟨_, rfl⟩
  rw [← hfw]
  have HFW := Lib.hid hfw
  clear hfw FW
  cases fw with
  | false =>
    go_wp2
    go_ret
    exact ⟨rfl, B1.out⟩
  | true =>
    by_cases h3 : 300 < s.length
    · have d3 : decide ((300 : Int) < (s.length : Int)) = true := by simp; omega
      go_wp2
      go_ret
      exact ⟨rfl, B1.out⟩
    have d3 : decide ((300 : Int) < (s.length : Int)) = false := by simp; omega
    by_cases h4 : 2000 < b.length
    · have d4 : decide ((2000 : Int) < (b.length : Int)) = true := by simp; omega
      go_wp2
      go_ret
      exact ⟨rfl, B1.out⟩
    have d4 : decide ((2000 : Int) < (b.length : Int)) = false := by simp; omega
    have ht : D.length ≤ 260 ∧ tsum (bytesOf D) ≤ 1500 := by
      have := HFW.out.symm
      unfold fewT at this
      rw [decide_eq_true_eq, bytesOf_len] at this
      exact this
    have F1 := Lib.hid (frame_any (HR.out.later B1.out) (by omega) S8.out hs (by omega))
    go_wp2_with fail
    refine F1.out.mono ?_
    rintro e w3 hx
    obtain ⟨A3, n3, c3, rfl, o3, b3⟩ := hx.u
    have B3 := Lib.hid (New.trans B1.out b3)
    have F2 := Lib.hid (rframe_any (HR.out.later B3.out) (by omega) S8.out hs (by omega))
    have O3 := Lib.hid o3.reads
    clear F1 hx b3 o3 B1
    go_wp2_with fail
    refine F2.out.mono ?_
    rintro e w4 hx
    obtain ⟨A4, n4, c4, rfl, o4, b4⟩ := hx.u
    have B4 := Lib.hid (New.trans B3.out b4)
    have O3 := Lib.hid (Reads.later O3.out b4)
    have O4 := Lib.hid o4.reads
    have P1 := Lib.hid (parse_any (Reads.later HB.out B4.out) B8.out hbc (by omega))
    clear F2 hx b4 o4 B3
    generalize frameO s (bytesOf D) = o at *
    go_wp2_with fail
    refine P1.out.mono ?_
    rintro e w5 hx
    obtain ⟨A5, n5, c5, D5, rfl, r5, e5, b5⟩ := hx
    have B5 := Lib.hid (New.trans B4.out b5)
    have O3 := Lib.hid (Reads.later O3.out b5)
    have O4 := Lib.hid (Reads.later O4.out b5)
    have R5 := Lib.hid r5
    have E5 := Lib.hid e5
    have P2 := Lib.hid (rparse_any (Reads.later HB.out B5.out) B8.out hbc (by omega) (by omega))
    clear P1 b5 r5 e5 B4
    go_wp2_with fail
    refine P2.out.mono ?_
    rintro e w6 hx
    obtain ⟨A6, n6, c6, D6, rfl, r6, e6, b6⟩ := hx
    have B6 := Lib.hid (New.trans B5.out b6)
    have st3 := run_str (P := Tryd.prog) (c := c3) (src := 23) (dst := 9) (e := 5) (by kernel_rfl) (by kernel_rfl) (by kernel_rfl) (Reads.later O3.out b6)
    have st4 := run_str (P := Tryd.prog) (c := c4) (src := 23) (dst := 9) (e := 5) (by kernel_rfl) (by kernel_rfl) (by kernel_rfl) (Reads.later O4.out b6)
    have sm := same_any (R5.out.later b6) r6 (by rw [E5.out]; exact parse_lt B8.out) (by rw [e6]; exact parse_lt B8.out) (by have := parse_n B8.out R5.out E5.out; omega) (by have := parse_n B8.out r6 e6; omega)
    rw [decide_eq_true (show bytesOf D5 = bytesOf D6 by rw [E5.out, e6])] at sm
    have SM := Lib.hid sm
    clear P2 b6 r6 e6 sm B5 R5 E5 O3 O4
    generalize bstr (o.getD []) = sb at *
    generalize bstr (((parseO b).map Prod.fst).getD []) = sb2 at *
    generalize (parseO b).isSome = t2 at *
    generalize o.isSome = t1 at *
    go_wp2_with fail
    refine SM.out.mono ?_
    rintro e w7 ⟨rfl, b7⟩
    have B7 := Lib.hid (New.trans B6.out b7)
    have H1 := Lib.hid (hash_any (HR.out.later B7.out) (by omega) S8.out hs (by omega) HF.out.lt (HC.out.new B7.out))
    clear SM st3 st4 b7
    go_wp2_with fail
    refine H1.out.mono ?_
    rintro e w8 ⟨rfl, b8⟩
    have B8' := Lib.hid (New.trans B7.out b8)
    have H2 := Lib.hid (rhash_any (HR.out.later B8'.out) (by omega) S8.out hs (by omega) HF.out.lt)
    have EQ : ∀ W, (binOp .eql 33 (digV (hashO s (bytesOf D))) (digV (hashO s (bytesOf D)))).run Tryd.prog W = .ok (.bool true) W := fun W => by
      have := run_eql_arr (P := Tryd.prog) (k := .u8) digarr (by kernel_rfl) (by kernel_rfl) (by kernel_rfl) (by kernel_rfl) (hashO s (bytesOf D)) (hashO s (bytesOf D)) (hashO_len _ _) (hashO_len _ _) W
      rw [show (hashO s (bytesOf D) == hashO s (bytesOf D)) = true by simp] at this
      exact this
    obtain ⟨cs, hcs⟩ : ∃ cs, Value.agg cs = digV (hashO s (bytesOf D)) := ⟨_, rfl⟩
    rw [← hcs] at EQ ⊢
    have HCS := Lib.hid hcs
    have HEQ := Lib.hid EQ
    clear H1 b8 hcs EQ
    go_wp2_with fail
    refine H2.out.mono ?_
    rintro e w9 ⟨rfl, b9⟩
    have B9 := Lib.hid (New.trans B8'.out b9)
    have hcs := HCS.out
    rw [← hcs]
    have EQ := HEQ.out
    clear hcs b9 H2
    go_wp2
    go_ret
    exact ⟨by simp, B9.out⟩

set_option maxRecDepth 100000 in
open Go.WideShapes Go.ChangeShapes in
theorem tagFrames_contract {H : Type} {enc : TypeId × Value → H} (W : World) (base : Nat) (args : Array Value) (ds : List (DataW H)) (ps : List MemPlace)
    (hval : ∀ (j : Nat) t v, Tryd.f3.params[j]? = some t → args[j]? = some v → Value.okWide Tryd.prog W .any base t v)
    (hA : DataW.TrodAll enc Tryd.prog W 0 (fun _ => true) true Tryd.f3.params.toList args.toList ds ps) (hlt : ∀ p ∈ ps, p.block < W.heap.size)
    (hsz : (DataW.weightsEach Tryd.prog Tryd.f3.params.toList ds).all (· ≤ reachBytes) = true) (hL : laidMetH Tryd.prog laidC W) :
    Calls Tryd.prog 3 args W fun e W' => e = .returned (.bool true) ∧ Below W.heap.size W W' := by
  rw [Tryd.params3] at hA hval hsz
  obtain ⟨v0, v1, v2, d0, d1, d2, p0, p1, p2, rfl, rfl, rfl, h0, h1, h2⟩ := trodAll_three hA
  obtain ⟨s, rfl, h8_s, hl_s⟩ := open_s (hval 0 _ _ rfl rfl) h0 (fun p hp => hlt p (by simp [hp])) (sized_at hsz (j := 0) rfl rfl)
  -- l: v1 d1 p1 h1, hval 1
  obtain ⟨A_b, c_b, b, rfl, hc_b, hm_b, hr_b, hl_b⟩ := open_B (hval 2 _ _ rfl rfl) h2 (fun p hp => hlt p (by simp [hp])) (sized_at hsz (j := 2) rfl rfl)
  obtain ⟨A_l, c_l, D_l, rfl, hr_l, hf_l, hn_l⟩ := open_BB (hval 1 _ _ rfl rfl) h1 (fun p hp => hlt p (by simp [hp])) (sized_at hsz (j := 1) rfl rfl)
  exact tagFrames_walk h8_s hl_s hr_l hf_l hn_l hr_b hl_b hc_b hm_b (const_of_laid hL)

end Go.Proofs.YtlfnhbnaegihfaaDoor
