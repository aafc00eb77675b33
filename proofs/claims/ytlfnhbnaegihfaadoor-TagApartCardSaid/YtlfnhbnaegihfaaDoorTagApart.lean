/- TagApart returns true whatever comes in, and leaves all that was there as it was. -/
import Derived.Test.YtlfnhbnaegihfaaDoorBun6

namespace Go.Proofs.YtlfnhbnaegihfaaDoor
open Go.RowKit Go.Hm
set_option maxHeartbeats 4000000 in
set_option maxRecDepth 100000 in
theorem tagApart_walk {w : World} {s t : List Nat} {A B : Option Addr} {c d : Nat} {D E : List PartS} (hr : RowIn w (s, A, c, D)) (hq : RowIn w (t, B, d, E)) (hC : ConstIn w) :
    Calls Tryd.prog 7 #[.agg #[.string (bstr s), .slice A D.length c], .agg #[.string (bstr t), .slice B E.length d]] w (SmallPost w) := by
  obtain ⟨W0, hW0⟩ : ∃ W, W = (w.alloc (.cells #[.string (bstr s), .slice A D.length c] 41)).alloc (.cells #[.string (bstr t), .slice B E.length d] 41) := ⟨_, rfl⟩
  have b0 : New w W0 := by rw [hW0]; exact New.trans (new_alloc _ _) (new_alloc _ _)
  have g1 : Blk W0 w.heap.size 41 #[.string (bstr s), .slice A D.length c] := by rw [hW0]; exact (Blk.new _ _ _).alloc _
  have g2 : Blk W0 (w.heap.size + 1) 41 #[.string (bstr t), .slice B E.length d] := by
    rw [hW0]
    have := Blk.new (w.alloc (.cells #[.string (bstr s), .slice A D.length c] 41)) 41 #[.string (bstr t), .slice B E.length d]
    rwa [show (w.alloc (.cells #[.string (bstr s), .slice A D.length c] 41)).heap.size = w.heap.size + 1 by simp] at this
  have CE : ∀ W : World, New W0 W → W.cell? ⟨w.heap.size, 0, none⟩ = some (.string (bstr s)) ∧ W.cell? ⟨w.heap.size, 1, none⟩ = some (.slice A D.length c) ∧ W.cell? ⟨w.heap.size + 1, 0, none⟩ = some (.string (bstr t)) ∧ W.cell? ⟨w.heap.size + 1, 1, none⟩ = some (.slice B E.length d) := fun W hW =>
    ⟨(g1.below hW g1.lt).cell 0, (g1.below hW g1.lt).cell 1, (g2.below hW g2.lt).cell 0, (g2.below hW g2.lt).cell 1⟩
  have CE := Lib.hid CE
  have SM := Lib.hid (small02_any W0 (hC.new b0))
  have HR := Lib.hid (hr.later b0)
  have HQ := Lib.hid (hq.later b0)
  have B0 := Lib.hid b0
  have z1 := bstr_size s
  have z2 := bstr_size t
  have hs : s.length ≤ 140737488351232 := hr.tag.2
  have ht : t.length ≤ 140737488351232 := hq.tag.2
  have hn : D.length ≤ 4611686018427387903 := hr.few
  have hm : E.length ≤ 4611686018427387903 := hq.few
  have HW := Lib.hid hW0
  clear hW0 b0 g1 g2 hr hq hC
  go_enter Tryd.func7, Tryd.ntmps7
  go_wp2_with fail
  have F := SM.out
  rw [HW.out] at F
  refine F.mono ?_
  rintro e w1 ⟨rfl, b1⟩
  have b1 : New W0 w1 := by rw [HW.out]; exact b1
  have B1 := Lib.hid b1
  have FW1 := Lib.hid (few_any2 (HR.out.later b1).rows (by show D.length ≤ _; omega) (fun p hp => (HR.out.fine p hp).2))
  have FW2 := Lib.hid (few_any2 (HQ.out.later b1).rows (by show E.length ≤ _; omega) (fun p hp => (HQ.out.fine p hp).2))
  obtain ⟨k0, k1, k2, k3⟩ := CE.out w1 b1
  clear F SM b1 HW
  go_wp2_with fail
  refine FW1.out.mono ?_
  rintro e w2 ⟨rfl, rfl⟩
  go_wp2_with fail
  refine FW2.out.mono ?_
  rintro e w2 ⟨rfl, rfl⟩
  obtain ⟨f1, hf1⟩ : ∃ fw, fw = fewT (bytesOf D) := ⟨_, rfl⟩
  obtain ⟨f2, hf2⟩ : ∃ fw, fw = fewT (bytesOf E) := ⟨_, rfl⟩
  rw [← hf1, ← hf2]
  have HF1 := Lib.hid hf1
  have HF2 := Lib.hid hf2
  clear hf1 hf2 FW1 FW2
  have END := Lib.hid (New.trans B0.out B1.out)
  cases f1 with
  | false =>
    go_wp2
    go_ret
    exact ⟨rfl, END.out⟩
  | true =>
  cases f2 with
  | false =>
    go_wp2
    go_ret
    exact ⟨rfl, END.out⟩
  | true =>
    by_cases h3 : 300 < s.length
    · have d3 : decide ((300 : Int) < (s.length : Int)) = true := by simp; omega
      go_wp2
      go_ret
      exact ⟨rfl, END.out⟩
    have d3 : decide ((300 : Int) < (s.length : Int)) = false := by simp; omega
    by_cases h4 : 300 < t.length
    · have d4 : decide ((300 : Int) < (t.length : Int)) = true := by simp; omega
      go_wp2
      go_ret
      exact ⟨rfl, END.out⟩
    have d4 : decide ((300 : Int) < (t.length : Int)) = false := by simp; omega
    have ht1 : D.length ≤ 260 ∧ tsum (bytesOf D) ≤ 1500 := by
      have := HF1.out.symm
      unfold fewT at this
      rw [decide_eq_true_eq, bytesOf_len] at this
      exact this
    have ht2 : E.length ≤ 260 ∧ tsum (bytesOf E) ≤ 1500 := by
      have := HF2.out.symm
      unfold fewT at this
      rw [decide_eq_true_eq, bytesOf_len] at this
      exact this
    have F1 := Lib.hid (frame_any (HR.out.later B1.out).rows (by show D.length ≤ _; omega) HR.out.tag.1 hs (by show tsum (bytesOf D) ≤ _; omega))
    clear END
    go_wp2_with fail
    refine F1.out.mono ?_
    rintro e w3 hx
    obtain ⟨A3, n3, c3, rfl, o3, b3⟩ := hx.u
    have b13 := New.trans B1.out b3
    have B3 := Lib.hid b13
    have O3 := Lib.hid o3.reads
    have F2 := Lib.hid (frame_any (HQ.out.later b13).rows (by show E.length ≤ _; omega) HQ.out.tag.1 ht (by show tsum (bytesOf E) ≤ _; omega))
    clear F1 hx b3 o3 B1 k0 k1 k2 k3
    obtain ⟨k0, k1, k2, k3⟩ := CE.out w3 b13
    clear b13
    go_wp2_with fail
    refine F2.out.mono ?_
    rintro e w4 hx
    obtain ⟨A4, n4, c4, rfl, o4, b4⟩ := hx.u
    have b14 := New.trans B3.out b4
    have B4 := Lib.hid b14
    have O3 := Lib.hid (Reads.later O3.out b4)
    have O4 := Lib.hid o4.reads
    clear F2 hx b4 o4 B3 k0 k1 k2 k3
    obtain ⟨k0, k1, k2, k3⟩ := CE.out w4 b14
    have SMM := Lib.hid (same_any (HR.out.later b14).rows (HQ.out.later b14).rows HR.out.fine.lt HQ.out.fine.lt (by show D.length ≤ _; omega) (by show E.length ≤ _; omega))
    have BB := bstr_beq HR.out.tag.1 HQ.out.tag.1
    have AP := Lib.hid (fun f g (hf : frameO s (bytesOf D) = some f) (hg : frameO t (bytesOf E) = some g) => And.intro (frame_apart (fun p hp => by have := (HR.out.fine p hp).2; omega) (fun p hp => by have := (HQ.out.fine p hp).2; omega) hf hg) (And.intro (frameO_lt HR.out.tag.1 HR.out.fine.lt hf) (frameO_lt HQ.out.tag.1 HQ.out.fine.lt hg)))
    have END := Lib.hid (New.trans B0.out b14)
    clear b14 B4
    generalize frameO s (bytesOf D) = o1 at *
    generalize frameO t (bytesOf E) = o2 at *
    by_cases hst : s = t
    · have BB1 : ((bstr s).toList == (bstr t).toList) = true := by rw [BB]; simpa using hst
      have HST := Lib.hid hst
      clear BB hst
      go_wp2_with fail
      refine SMM.out.mono ?_
      rintro e w5 ⟨rfl, b5⟩
      have O3 := Lib.hid (Reads.later O3.out b5)
      have O4 := Lib.hid (Reads.later O4.out b5)
      have END := Lib.hid (New.trans END.out b5)
      obtain ⟨sm, hsm⟩ : ∃ sm, sm = decide (bytesOf D = bytesOf E) := ⟨_, rfl⟩
      have HSM : Hid (sm = true ↔ s = t ∧ bytesOf D = bytesOf E) := Lib.hid (by rw [hsm, decide_eq_true_eq]; exact ⟨fun h => ⟨HST.out, h⟩, fun h => h.2⟩)
      rw [← hsm]
      clear hsm SMM b5 BB1
      cases o1 with
      | none =>
        go_wp2
        go_ret
        exact ⟨by simp, END.out⟩
      | some f =>
        cases o2 with
        | none =>
          go_wp2
          go_ret
          exact ⟨by simp, END.out⟩
        | some g =>
          obtain ⟨ap, f8, g8⟩ := AP.out f g rfl rfl
          have st1 := run_str (P := Tryd.prog) (c := c3) (src := 23) (dst := 9) (e := 5) (by kernel_rfl) (by kernel_rfl) (by kernel_rfl) O3.out
          have st2 := run_str (P := Tryd.prog) (c := c4) (src := 23) (dst := 9) (e := 5) (by kernel_rfl) (by kernel_rfl) (by kernel_rfl) O4.out
          have BF := bstr_beq f8 g8
          rw [show (some f).getD [] = f from rfl] at st1
          rw [show (some g).getD [] = g from rfl] at st2
          have hfg : decide (f = g) = sm := by
            rw [Bool.eq_iff_iff, decide_eq_true_eq, HSM.out]
            exact ap
          rw [hfg] at BF
          clear hfg ap f8 g8
          generalize bstr f = sf at *
          generalize bstr g = sg at *
          cases sm
          · go_wp2
            go_ret
            exact ⟨by simp, END.out⟩
          · go_wp2
            go_ret
            exact ⟨by simp, END.out⟩
    · have BB1 : ((bstr s).toList == (bstr t).toList) = false := by rw [BB]; simpa using hst
      have HSM : Hid (false = true ↔ s = t ∧ bytesOf D = bytesOf E) := Lib.hid ⟨(fun h => nomatch h), fun h => absurd h.1 hst⟩
      clear BB hst
      cases o1 with
      | none =>
        go_wp2
        go_ret
        exact ⟨by simp, END.out⟩
      | some f =>
        cases o2 with
        | none =>
          go_wp2
          go_ret
          exact ⟨by simp, END.out⟩
        | some g =>
          obtain ⟨ap, f8, g8⟩ := AP.out f g rfl rfl
          have st1 := run_str (P := Tryd.prog) (c := c3) (src := 23) (dst := 9) (e := 5) (by kernel_rfl) (by kernel_rfl) (by kernel_rfl) O3.out
          have st2 := run_str (P := Tryd.prog) (c := c4) (src := 23) (dst := 9) (e := 5) (by kernel_rfl) (by kernel_rfl) (by kernel_rfl) O4.out
          have BF := bstr_beq f8 g8
          rw [show (some f).getD [] = f from rfl] at st1
          rw [show (some g).getD [] = g from rfl] at st2
          have hfg : decide (f = g) = false := by
            rw [Bool.eq_iff_iff, decide_eq_true_eq, HSM.out]
            exact ap
          rw [hfg] at BF
          clear hfg ap f8 g8
          generalize bstr f = sf at *
          generalize bstr g = sg at *
          go_wp2
          go_ret
          exact ⟨by simp, END.out⟩

set_option maxRecDepth 100000 in
open Go.WideShapes Go.ChangeShapes in
theorem tagApart_contract {H : Type} {enc : TypeId × Value → H} (W : World) (base : Nat) (args : Array Value) (ds : List (DataW H)) (ps : List MemPlace)
    (hval : ∀ (j : Nat) t v, Tryd.f7.params[j]? = some t → args[j]? = some v → Value.okWide Tryd.prog W .any base t v)
    (hA : DataW.TrodAll enc Tryd.prog W 0 (fun _ => true) true Tryd.f7.params.toList args.toList ds ps) (hlt : ∀ p ∈ ps, p.block < W.heap.size)
    (hsz : (DataW.weightsEach Tryd.prog Tryd.f7.params.toList ds).all (· ≤ reachBytes) = true) (hL : laidMetH Tryd.prog laidC W) :
    Calls Tryd.prog 7 args W fun e W' => e = .returned (.bool true) ∧ Below W.heap.size W W' := by
  rw [Tryd.params7] at hA hval hsz
  obtain ⟨v0, v1, d0, d1, p0, p1, rfl, rfl, rfl, h0, h1⟩ := trodAll_two hA
  -- a: v0 d0 p0 h0, hval 0
  -- b: v1 d1 p1 h1, hval 1
  obtain ⟨a, rfl, hra⟩ := open_Row (hval 0 _ _ rfl rfl) h0 (fun p hp => hlt p (by simp [hp])) (sized_at hsz (j := 0) rfl rfl)
  obtain ⟨b, rfl, hrb⟩ := open_Row (hval 1 _ _ rfl rfl) h1 (fun p hp => hlt p (by simp [hp])) (sized_at hsz (j := 1) rfl rfl)
  exact tagApart_walk hra hrb (const_of_laid hL)

end Go.Proofs.YtlfnhbnaegihfaaDoor
