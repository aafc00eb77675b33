/- StatParts returns true whatever comes in, and leaves all that was there as it was. -/
import Derived.Test.YthdkbfffjlkbpaaBun6

namespace Go.Proofs.Ythdkbfffjlkbpaa
open Go.RowKit Go.Hm

set_option maxHeartbeats 4000000 in
set_option maxRecDepth 100000 in
theorem statParts_walk {w : World} {t cut : Int} {A : Option Addr} {c : Nat} {L : List CellS} (h : Reads w w.heap.size 5 A L.length (recs cellV L)) (hL : ∀ y ∈ L, CellFine y) (hc : L.length ≤ c) (hl : L.length ≤ 2932031007317) :
    Calls Try.prog 6 #[.int .i64 t, .slice A L.length c, .int .i64 cut] w (SmallPost w) := by
  have FW := Lib.hid (fun (W : World) (hW : New w W) => fewP_any (c := c) (Reads.later h hW) (fun y hy => (hL y hy).1.1) (by omega))
  have CW := Lib.hid (fun (W : World) (hW : New w W) => cells_any (t := t) (c := c) (Reads.later h hW) (fun y hy => (hL y hy).1.1) (by omega))
  have HR := Lib.hid h
  have HL := Lib.hid hL
  clear h hL
  go_enter Try.func6, Try.ntmps6
  go_wp2_with fail
  refine (small15_any w).mono ?_
  rintro e w1 ⟨rfl, b1⟩
  go_wp2_with fail
  refine (FW.out _ b1).mono ?_
  rintro e w2 ⟨b, rfl, hb, rfl⟩
  cases b with
  | false =>
    clear FW CW hb
    go_wp2_with fail
    go_ret
    exact ⟨rfl, b1⟩
  | true =>
    have h300 := hb rfl
    clear hb FW
    go_wp2_with fail
    refine (CW.out _ b1).mono ?_
    rintro e w2 ⟨rfl, b2⟩
    have b02 := New.trans b1 b2
    clear CW b1 b2
    cases hq : cellsB t L with
    | false =>
      go_wp2_with fail
      go_ret
      exact ⟨rfl, b02⟩
    | true =>
      have HQ := Lib.hid hq
      clear hq
      by_cases h0 : cut < 0
      · go_wp2_with fail
        go_ret
        exact ⟨rfl, b02⟩
      by_cases h1 : (L.length : Int) < cut
      · go_wp2_with fail
        go_ret
        exact ⟨rfl, b02⟩
      obtain ⟨k, rfl⟩ := Int.eq_ofNat_of_zero_le (show 0 ≤ cut by omega)
      have hk : k ≤ L.length := by omega
      have hn := fineNear HQ.out
      obtain ⟨e1, e2⟩ := recs_split5 L k hk
      have P1 := Lib.hid (fun (W : World) (hW : New w W) => of_any (t := t) (c := c) (by have := (Reads.later HR.out hW).take hk; rwa [e1] at this) (fun y hy => hn y (List.mem_of_mem_take hy)) (by omega))
      have P2 := Lib.hid (fun (W : World) (hW : New w W) => of_any (t := t) (c := c - k) (by have := (Reads.later HR.out hW).cut (cap := c) hk hc; rwa [e2] at this) (fun y hy => hn y (List.mem_of_mem_drop hy)) (by omega))
      have P3 := Lib.hid (fun (W : World) (hW : New w W) => of_any (t := t) (c := c) (Reads.later HR.out hW) hn (by omega))
      have N1 := Lib.hid (fun y (hy : y ∈ L.take k) => hn y (List.mem_of_mem_take hy))
      have N2 := Lib.hid (fun y (hy : y ∈ L.drop k) => hn y (List.mem_of_mem_drop hy))
      have L1 : (L.take k).length ≤ 300 := by rw [List.length_take]; omega
      have L2 : (L.drop k).length ≤ 300 := by rw [List.length_drop]; omega
      have S1 := fun (W : World) => cslice_h A L.length c k (by omega) W
      have S2 := fun (W : World) => cslice_l A L.length c k hk W
      have L1 := Lib.hid L1
      have L2 := Lib.hid L2
      clear e1 e2 hn
      generalize (if c = k then A else A.map (·.add (k * 5))) = A2 at *
      go_wp2_with fail
      refine wp_region_up New [(true, 0), (true, 1), (true, 2), (true, 3), (true, 4), (true, 5), (true, 6), (true, 8), (true, 9), (true, 10), (true, 11), (true, 14), (true, 15), (false, 7), (false, 12), (false, 13), (false, 16), (true, 17), (true, 18), (true, 19)]
        New.refl New.trans (by kernel_rfl) (by kernel_rfl) (by kernel_rfl) (by kernel_rfl) ?_
      have hU := New.drew w2
      iterate 13 (first
        | (refine up_quiet rfl rfl (v := ?_) (fun W hW => ?_) ?_; rotate_left; (go_simp <;> with_reducible rfl); simp only [Act.put, List.setIfInBounds_toArray, List.set_cons_zero, List.set_cons_succ]))
      refine up_call rfl rfl (fun K hK => ?_)
      go_simp
      (with_reducible refine (P1.out _ (New.trans b02 hU)).mono ?_)
      rintro e u1 ⟨s1, rfl, i1, b⟩
      refine hK _ _ b ?_
      replace hU := New.trans hU b
      clear hK b
      refine up_call rfl rfl (fun K hK => ?_)
      go_simp
      (with_reducible refine (P2.out _ (New.trans b02 hU)).mono ?_)
      rintro e u2 ⟨s2, rfl, i2, b⟩
      refine hK _ _ b ?_
      replace hU := New.trans hU b
      clear hK b
      have m1 := i1.near N1.out
      have m2 := i2.near N2.out
      refine up_call rfl rfl (fun K hK => ?_)
      go_simp
      (with_reducible refine (merge_any (t := t) m1.1 m1.2 m2.1 m2.2 (i1.few L1.out) (i2.few L2.out)).mono ?_)
      rintro e u3 ⟨rfl, b⟩
      refine hK _ _ b ?_
      replace hU := New.trans hU b
      clear hK b
      have im := i1.merge i2
      rw [List.take_append_drop] at im
      refine up_call rfl rfl (fun K hK => ?_)
      go_simp
      (with_reducible refine (P3.out _ (New.trans b02 hU)).mono ?_)
      rintro e u4 ⟨s4, rfl, i4, b⟩
      refine hK _ _ b ?_
      replace hU := New.trans hU b
      clear hK b
      have es := IsStat.uniq (cellsB_iff.1 HQ.out).1 (fun y hy => (HL.out y hy).1.2) im i4
      rw [es]
      have EQ := fun (W : World) => eqS_self s4 W
      have GU := fun (x y : Operand) (W : World) => guardS x y s4 s4 W
      clear im i1 i2 i4 m1 m2 es
      repeat (refine up_quiet rfl rfl (v := ?_) (fun W hW => ?_) ?_; rotate_left; (go_simp <;> with_reducible rfl); simp only [Act.put, List.setIfInBounds_toArray, List.set_cons_zero, List.set_cons_succ])
      refine up_nil ?_
      go_wp2
      go_ret
      exact ⟨rfl, New.trans b02 hU⟩

set_option maxRecDepth 100000 in
open Go.WideShapes Go.ChangeShapes in
theorem statParts_contract {H : Type} {enc : TypeId × Value → H} (W : World) (base : Nat) (args : Array Value) (ds : List (DataW H)) (ps : List MemPlace)
    (hval : ∀ (j : Nat) t v, Try.f6.params[j]? = some t → args[j]? = some v → Value.okWide Try.prog W .any base t v)
    (hA : DataW.TrodAll enc Try.prog W 0 (fun _ => true) true Try.f6.params.toList args.toList ds ps) (hlt : ∀ p ∈ ps, p.block < W.heap.size)
    (hsz : (DataW.weightsEach Try.prog Try.f6.params.toList ds).all (· ≤ reachBytes) = true) :
    Calls Try.prog 6 args W fun e W' => e = .returned (.bool true) ∧ Below W.heap.size W W' := by
  rw [Try.params6] at hA hval hsz
  obtain ⟨v0, v1, v2, d0, d1, d2, p0, p1, p2, rfl, rfl, rfl, h0, h1, h2⟩ := trodAll_three hA
  obtain ⟨t, rfl, wt, wt'⟩ := open_i64 (hval 0 _ _ rfl rfl) h0
  -- L: v1 d1 p1 h1, hval 1
  obtain ⟨cut, rfl, wcut, wcut'⟩ := open_i64 (hval 2 _ _ rfl rfl) h2
  obtain ⟨A1, c1, L, rfl, hr, hf, hc1, hl1⟩ := open_Cells (hval 1 _ _ rfl rfl) h1 (fun p hp => hlt p (by simp [hp])) (sized_at hsz (j := 1) rfl rfl)
  exact statParts_walk hr hf hc1 hl1

end Go.Proofs.Ythdkbfffjlkbpaa
