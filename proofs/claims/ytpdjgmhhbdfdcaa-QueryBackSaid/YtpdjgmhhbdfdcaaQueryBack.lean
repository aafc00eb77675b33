/- QueryBack returns true whatever comes in, and leaves all that was there as it was. -/
import Derived.Test.YtpdjgmhhbdfdcaaLaw24
import Derived.Test.YtpdjgmhhbdfdcaaOpenQ

namespace Go.Proofs.Ytpdjgmhhbdfdcaa
open Go.RowKit Go.Hm

set_option maxHeartbeats 4000000 in
set_option maxRecDepth 100000 in
theorem queryBack_walk {w : World} {A A1 : Option Addr} {n c n1 c1 : Nat} {L : List Int} {f t : Int} {b : List Nat} (h : Reads w w.heap.size 1 A n (ints .i64 L)) (hn : n ≤ 100) (hL : ∀ x ∈ L, -9223372036854775808 ≤ x ∧ x ≤ 9223372036854775807)
    (hb : Reads w w.heap.size 1 A1 n1 (nums .u8 b)) (h8 : ∀ x ∈ b, x < 256) (hn1 : n1 ≤ 500) :
    Calls Try.prog 5 #[Qv A n c f t, .slice A1 n1 c1] w (SmallPost w) := by
  have HE := Lib.hid (fun (W : World) (hW : New w W) => qenc_any (c := c) (f := f) (t := t) (Reads.later h hW) (by omega) hL)
  have HD := Lib.hid (fun (W : World) (hW : New w W) => qdec_any (c := c1) (Reads.later hb hW) h8 (by omega))
  have HRd := Lib.hid h
  have HRb := Lib.hid hb
  have d1 : decide (100 < (n : Int)) = false := by simp; omega
  have d2 : decide (500 < (n1 : Int)) = false := by simp; omega
  have he : ∀ V, encQ L f t = some V → (∀ x ∈ V, x < 256) ∧ V.length ≤ 1000 ∧ decQ V = some (L, f, t) := fun V hV => ⟨encQ_lt hV, encQ_len hV, (decQ_iff (encQ_lt hV)).2 hV⟩
  have hd : ∀ l2 f2 t2, decQ b = some (l2, f2, t2) → encQ l2 f2 t2 = some b ∧ l2.length ≤ 64 := fun l2 f2 t2 hV => ⟨(decQ_iff h8).1 hV, by have := decQ_len h8; rw [hV] at this; exact this⟩
  clear h hL hb
  generalize encQ L f t = o at *
  generalize decQ b = o2 at *
  obtain ⟨W0, hW0⟩ : ∃ W, W = w.alloc (.cells #[.slice A n c, .int .i64 f, .int .i64 t] 24) := ⟨_, rfl⟩
  have b0 : New w W0 := by rw [hW0]; exact (Below.refl _ _).alloc (Nat.le_refl _) _
  have Q0 : Blk W0 w.heap.size 24 #[.slice A n c, .int .i64 f, .int .i64 t] := by rw [hW0]; exact Blk.new _ _ _
  go_enter Try.func5, Try.ntmps5
  go_wp2_with fail
  refine (small24_any _).mono ?_
  rintro e w1 ⟨rfl, b1⟩
  rw [← hW0] at b1
  have b01 := New.trans b0 b1
  have Q1 := Q0.below b1 Q0.lt
  obtain ⟨gQ, hgQ⟩ : ∃ g, g = w.heap.size := ⟨_, rfl⟩
  rw [← hgQ] at Q1 ⊢
  clear Q0 b1 b0 hW0 hgQ
  obtain ⟨x0, x1, x2⟩ := qcells Q1
  have HQ1 := Lib.hid Q1
  have P1 := Lib.hid (HE.out w1 b01)
  clear Q1
  go_wp2_with fail
  refine P1.out.mono ?_
  intro e w2 hh
  obtain ⟨A3, n3, c3, rfl, k3, b2⟩ := hh.u
  have b02 := New.trans b01 b2
  have Q2 := HQ1.out.below b2 HQ1.out.lt
  have r3 := k3.reads
  obtain ⟨x0, x1, x2⟩ := qcells Q2
  have HQ2 := Lib.hid Q2
  clear Q2 hh P1 b2 k3 b01 HQ1
  rcases o with _ | V
  all_goals
    simp only [Option.isSome_none, Option.isSome_some, Option.getD_none, Option.getD_some] at r3 ⊢
  case' some =>
    obtain ⟨v1, v2, v3⟩ := he V rfl
    have P4 := Lib.hid (qdec_any (c := c3) r3 v1 (by have := r3.len; omega))
    rw [v3] at P4
    clear v1 v2 v3
    go_wp2_with fail
    refine P4.out.mono ?_
    rintro e w4 ⟨A4, n4, c4, rfl, k4, b4⟩
    have b04 := New.trans b02 b4
    have Q4 := (HQ2.out.below b4 HQ2.out.lt).alloc (.cells #[.slice A4 n4 c4, .int .i64 f, .int .i64 t] 24)
    have r4 := Reads.over k4.reads (.cells #[.slice A4 n4 c4, .int .i64 f, .int .i64 t] 24)
    have b05 : New w (w4.alloc (.cells #[.slice A4 n4 c4, .int .i64 f, .int .i64 t] 24)) := Below.alloc b04 b04.size _
    have B4 := Blk.new w4 24 #[.slice A4 n4 c4, .int .i64 f, .int .i64 t]
    obtain ⟨x0, x1, x2⟩ := qcells Q4
    obtain ⟨y0, y1, y2⟩ := qcells B4
    have P5 := Lib.hid (sameQ_any (c := c) (c2 := c4) (f := f) (t := t) (f2 := f) (t2 := t) (Reads.later HRd.out b05) r4 (by omega))
    rw [show decide ((L, f, t) = (L, f, t)) = true by simp] at P5
    clear P4 b4 b04 Q4 r4 B4 k4 b02 HQ2 r3
    go_wp2_with fail
    refine P5.out.mono ?_
    rintro e w2 ⟨rfl, b5⟩
    have b02 := New.trans b05 b5
    clear b05 b5 P5 x0 x1 x2 y0 y1 y2
  all_goals
    have P6 := Lib.hid (HD.out w2 b02)
    rcases o2 with _ | ⟨l2, f2, t2⟩
    · go_wp2_with fail
      refine P6.out.mono ?_
      rintro e w6 ⟨rfl, b6⟩
      have b06 := New.trans b02 b6
      obtain ⟨z0, z1, z2⟩ := qcells (Blk.new w6 24 #[.slice none 0 0, .int .i64 0, .int .i64 0])
      go_wp2
      go_ret
      exact ⟨rfl, Below.alloc b06 b06.size _⟩
    · obtain ⟨u1, u2⟩ := hd l2 f2 t2 rfl
      have u3 := encQ_bound u1
      go_wp2_with fail
      refine P6.out.mono ?_
      rintro e w6 ⟨A6, n6, c6, rfl, k6, b6⟩
      have b06 := New.trans b02 b6
      obtain ⟨z0, z1, z2⟩ := qcells (Blk.new w6 24 #[.slice A6 n6 c6, .int .i64 f2, .int .i64 t2])
      have r6 := Reads.over k6.reads (.cells #[.slice A6 n6 c6, .int .i64 f2, .int .i64 t2] 24)
      have b07 : New w (w6.alloc (.cells #[.slice A6 n6 c6, .int .i64 f2, .int .i64 t2] 24)) := Below.alloc b06 b06.size _
      have P7 := Lib.hid (qenc_any (c := c6) (f := f2) (t := t2) r6 (by have := r6.lenI; omega) u3)
      rw [u1] at P7
      clear P6 b6 b06 k6 r6
      go_wp2_with fail
      refine P7.out.mono ?_
      rintro e w8 ⟨A8, n8, c8, rfl, k8, b8⟩
      have b08 := New.trans b07 b8
      have S1 := run_strB (c := c8) k8.reads
      have S2 := run_strB (c := c1) (Reads.later HRb.out b08)
      clear b8 k8 P7
      go_wp2
      go_ret
      exact ⟨by simp, b08⟩

set_option maxHeartbeats 400000 in
theorem queryBack_big {w : World} {A A1 : Option Addr} {n c n1 c1 : Nat} {f t : Int} (hn : n ≤ 9223372036854775807) (hn1 : n1 ≤ 9223372036854775807) (hb : 100 < n ∨ 500 < n1) :
    Calls Try.prog 5 #[Qv A n c f t, .slice A1 n1 c1] w (SmallPost w) := by
  obtain ⟨W0, hW0⟩ : ∃ W, W = w.alloc (.cells #[.slice A n c, .int .i64 f, .int .i64 t] 24) := ⟨_, rfl⟩
  have b0 : New w W0 := by rw [hW0]; exact (Below.refl _ _).alloc (Nat.le_refl _) _
  have Q0 : Blk W0 w.heap.size 24 #[.slice A n c, .int .i64 f, .int .i64 t] := by rw [hW0]; exact Blk.new _ _ _
  by_cases h1 : 100 < n
  all_goals try (have d1 : decide (100 < (n : Int)) = false := by simp; omega)
  all_goals try (have h3 : 500 < n1 := by omega)
  all_goals
    clear hb
    go_enter Try.func5, Try.ntmps5
    go_wp2_with fail
    refine (small24_any _).mono ?_
    rintro e w1 ⟨rfl, b1⟩
    rw [← hW0] at b1
    have b01 := New.trans b0 b1
    have Q1 := Q0.below b1 Q0.lt
    obtain ⟨x0, x1, x2⟩ := qcells Q1
    clear Q0 b1 b0 hW0 Q1
    go_wp2
    go_ret
    exact ⟨rfl, b01⟩

set_option maxRecDepth 100000 in
open Go.WideShapes Go.ChangeShapes in
theorem queryBack_contract {H : Type} {enc : TypeId × Value → H} (W : World) (base : Nat) (args : Array Value) (ds : List (DataW H)) (ps : List MemPlace)
    (hval : ∀ (j : Nat) t v, Try.f5.params[j]? = some t → args[j]? = some v → Value.okWide Try.prog W .any base t v)
    (hA : DataW.TrodAll enc Try.prog W 0 (fun _ => true) true Try.f5.params.toList args.toList ds ps) (hlt : ∀ p ∈ ps, p.block < W.heap.size)
    (hsz : (DataW.weightsEach Try.prog Try.f5.params.toList ds).all (· ≤ reachBytes) = true) :
    Calls Try.prog 5 args W fun e W' => e = .returned (.bool true) ∧ Below W.heap.size W W' := by
  rw [Try.params5] at hA hval hsz
  obtain ⟨v0, v1, d0, d1, p0, p1, rfl, rfl, rfl, h0, h1⟩ := trodAll_two hA
  -- q: v0 d0 p0 h0, hval 0
  obtain ⟨A_b, c_b, b, rfl, hc_b, hm_b, hr_b, hl_b⟩ := open_B (hval 1 _ _ rfl rfl) h1 (fun p hp => hlt p (by simp [hp])) (sized_at hsz (j := 1) rfl rfl)
  obtain ⟨A, c, l, f, t, rfl, hc, hm, hr, hl⟩ := open_Q (hval 0 _ _ rfl rfl) h0 (fun p hp => hlt p (by simp [hp])) (sized_at hsz (j := 0) rfl rfl)
  by_cases hb : 100 < l.length ∨ 500 < b.length
  · exact queryBack_big (by omega) (by omega) hb
  · exact queryBack_walk hr (by omega) hl hr_b hl_b (by omega)

end Go.Proofs.Ytpdjgmhhbdfdcaa
