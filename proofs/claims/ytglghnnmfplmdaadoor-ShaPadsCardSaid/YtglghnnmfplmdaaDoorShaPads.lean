/- ShaPads returns true whatever comes in, and leaves all that was there as it was. -/
import Derived.Test.YtglghnnmfplmdaaDoorShaSums

namespace Go.Proofs.YtglghnnmfplmdaaDoor
open Go.RowKit Go.Hm
theorem padO_facts (n : Int) (h0 : 0 ≤ n) (h1 : n ≤ 2147483647) : (n + ((padO n).length : Int)) % 64 = 0 ∧ 9 ≤ (padO n).length ∧ (padO n).length ≤ 72 := by
  unfold padO
  rw [if_pos ⟨h0, h1⟩, padL_len]
  unfold zerosN
  omega
theorem padO_short (n : Int) : (padO n).length ≤ 72 := by
  unfold padO
  split
  · rw [padL_len]
    unfold zerosN
    omega
  · simp
set_option maxHeartbeats 4000000 in
set_option maxRecDepth 100000 in
theorem shaPads_walk {w : World} {n : Int} (hn1 : -9223372036854775808 ≤ n) (hn2 : n ≤ 9223372036854775807) (hC : ConstIn w) :
    Calls Tryd.prog 5 #[.int .i64 n] w (SmallPost w) := by
  have SM := Lib.hid (small01_any w hC)
  have PF := Lib.hid (padO_facts n)
  have PS := padO_short n
  have P1 := Lib.hid (fun W : World => pad_any (w := W) n)
  have P2 := Lib.hid (fun W : World => rpad_any (w := W) n)
  generalize padO n = l at *
  clear hC
  go_enter Tryd.func5, Tryd.ntmps5
  go_wp2_with fail
  refine SM.out.mono ?_
  rintro e w1 ⟨rfl, b1⟩
  clear SM
  go_wp2_with fail
  refine (P1.out _).mono ?_
  rintro e w2 h
  obtain ⟨A, c, rfl, o2, b2⟩ := h.u
  have HB2 := Lib.hid (New.trans b1 b2)
  have O2 := Lib.hid o2
  have hg : w.heap.size ≤ w1.heap.size := b1.size
  generalize w1.heap.size = G at *
  clear h b1 b2 o2
  go_wp2_with fail
  refine wp_region_up New [(true, 0), (true, 1), (true, 2), (false, 3), (true, 4), (true, 5), (true, 6)]
    New.refl New.trans (by kernel_rfl) (by kernel_rfl) (by kernel_rfl) (by kernel_rfl) ?_
  have hU := New.drew w2
  refine up_quiet rfl rfl (v := ?_) (fun W hW => ?_) ?_
  rotate_left
  · skip
    go_simp <;> with_reducible rfl
  simp only [Act.put, List.setIfInBounds_toArray, List.set_cons_zero, List.set_cons_succ]
  refine up_str (e := 5) (by kernel_rfl) (by kernel_rfl) (by kernel_rfl) rfl rfl rfl O2.out.reads hU ?_
  simp only [Act.put, List.setIfInBounds_toArray, List.set_cons_zero, List.set_cons_succ]
  refine up_quiet rfl rfl (v := ?_) (fun W hW => ?_) ?_
  rotate_left
  · skip
    go_simp <;> with_reducible rfl
  simp only [Act.put, List.setIfInBounds_toArray, List.set_cons_zero, List.set_cons_succ]
  refine up_call rfl rfl (fun K hK => ?_)
  go_simp
  (with_reducible refine (P2.out _).mono ?_)
  rintro e u h
  obtain ⟨A3, c3, rfl, o3, cu⟩ := h.u
  refine hK _ _ cu ?_
  clear hK h
  replace hU := New.trans hU cu
  refine up_str (e := 5) (by kernel_rfl) (by kernel_rfl) (by kernel_rfl) rfl rfl rfl o3.reads (New.refl u) ?_
  simp only [Act.put, List.setIfInBounds_toArray, List.set_cons_zero, List.set_cons_succ]
  iterate 2 (
    refine up_quiet rfl rfl (v := ?_) (fun W hW => ?_) ?_
    rotate_left
    · skip
      go_simp <;> with_reducible rfl
    simp only [Act.put, List.setIfInBounds_toArray, List.set_cons_zero, List.set_cons_succ])
  refine up_nil ?_
  have O3 : Hid (∃ m : List Nat, m.length = l.length ∧ Own u G 5 (.slice A l.length c) (nums .u8 m)) := Lib.hid ⟨l, rfl, O2.out.later hU⟩
  have B3 := Lib.hid (New.trans HB2.out hU)
  clear o3 cu hU O2 HB2
  go_wp2
  go_loopw [6] (fun i wr => ∃ k : Nat, k ≤ l.length ∧ i = .int .i64 (k : Int) ∧ Hid (∃ m : List Nat, m.length = l.length ∧ Own wr G 5 (.slice A l.length c) (nums .u8 m)) ∧ Hid (New w wr)) (fun i _ => l.length - (intOf i).toNat)
  case atStart => exact ⟨0, by omega, rfl, O3, B3⟩
  case round =>
    clear O3 B3
    obtain ⟨k, hk, rfl, O, b⟩ := hrel
    by_cases hlt : k < l.length
    · obtain ⟨m, hm, o⟩ := O.out
      obtain ⟨g, v, rfl, hGg, hlg, hx, c0, f0, st⟩ := o.at_ (i := k) hlt
      have o3 := st (.int .u8 ((7 : Nat) : Int))
      rw [nums_set] at o3
      have O3 : Hid (∃ m : List Nat, m.length = l.length ∧ Own (wr.setCell ⟨g, k, none⟩ (.int .u8 ((7 : Nat) : Int))) G 5 (.slice (some ⟨g, 0, none⟩) l.length c) (nums .u8 m)) := Lib.hid ⟨m.set k 7, by rw [List.length_set]; exact hm, o3⟩
      have B3 := Lib.hid (b.out.setCell (p := ⟨g, k, none⟩) (by simp; omega) (.int .u8 ((7 : Nat) : Int)))
      clear o o3 st hx hm O b
      go_wp2
      go_roundw
      case rel => exact ⟨k + 1, by omega, by go_num, O3, B3⟩
      case measure => simp [intOf]; omega
    · obtain rfl : k = l.length := by omega
      have HB := b.out
      have L72 : l.length ≤ 72 := PS
      have PF2 := PF.out
      generalize l.length = L at *
      clear O hk hlt
      by_cases h0 : n < 0
      · have d0 : decide (n < 0) = true := by simpa using h0
        clear PF2
        go_wp2_with fail
        refine wp_region_up New [(true, 0), (true, 1), (true, 2), (true, 3), (true, 4), (true, 5), (true, 8), (false, 6), (true, 7), (false, 9), (true, 10), (true, 11), (true, 12), (true, 13), (true, 14), (true, 15), (true, 16), (true, 17), (true, 18), (true, 19), (true, 20), (true, 21), (true, 22), (true, 23), (true, 24), (true, 25), (true, 26), (true, 27), (true, 28), (true, 29), (true, 30), (true, 31), (true, 32), (true, 33), (true, 34), (true, 35), (true, 36), (true, 37), (true, 38), (true, 39)]
          New.refl New.trans (by kernel_rfl) (by kernel_rfl) (by kernel_rfl) (by kernel_rfl) ?_
        have hU := New.drew wr
        iterate 7 (
          refine up_quiet rfl rfl (v := ?_) (fun W hW => ?_) ?_
          rotate_left
          · skip
            go_simp <;> with_reducible rfl
          simp only [Act.put, List.setIfInBounds_toArray, List.set_cons_zero, List.set_cons_succ])
        refine up_call rfl rfl (fun K hK => ?_)
        go_simp
        (with_reducible refine (P1.out _).mono ?_)
        rintro e u1 h
        obtain ⟨A4, c4, rfl, o4, cu⟩ := h.u
        refine hK _ _ cu ?_
        clear hK h
        replace hU := New.trans hU cu
        refine up_str (e := 5) (by kernel_rfl) (by kernel_rfl) (by kernel_rfl) rfl rfl rfl o4.reads (New.refl _) ?_
        simp only [Act.put, List.setIfInBounds_toArray, List.set_cons_zero, List.set_cons_succ]
        refine up_call rfl rfl (fun K hK => ?_)
        go_simp
        (with_reducible refine (P2.out _).mono ?_)
        rintro e u2 h
        obtain ⟨A5, c5, rfl, o5, cu2⟩ := h.u
        refine hK _ _ cu2 ?_
        clear hK h
        replace hU := New.trans hU cu2
        refine up_str (e := 5) (by kernel_rfl) (by kernel_rfl) (by kernel_rfl) rfl rfl rfl o5.reads (New.refl _) ?_
        simp only [Act.put, List.setIfInBounds_toArray, List.set_cons_zero, List.set_cons_succ]
        repeat (first
          | (refine up_quiet rfl rfl (v := ?_) (fun W hW => ?_) ?_; rotate_left; (go_simp <;> with_reducible rfl); simp only [Act.put, List.setIfInBounds_toArray, List.set_cons_zero, List.set_cons_succ])
          | (refine up_skip rfl rfl ?_; simp only [Act.put, List.setIfInBounds_toArray, List.set_cons_zero, List.set_cons_succ]))
        refine up_nil ?_
        have bE := New.trans HB hU
        go_wp2
        go_ret
        exact ⟨by simp, bE⟩
      by_cases h1 : 2147483647 < n
      · have d0 : decide (n < 0) = false := by simpa using h0
        have d1 : decide ((2147483647 : Int) < n) = true := by simpa using h1
        clear PF2
        go_wp2_with fail
        refine wp_region_up New [(true, 0), (true, 1), (true, 2), (true, 3), (true, 4), (true, 5), (true, 8), (false, 6), (true, 7), (false, 9), (true, 10), (true, 11), (true, 12), (true, 13), (true, 14), (true, 15), (true, 16), (true, 17), (true, 18), (true, 19), (true, 20), (true, 21), (true, 22), (true, 23), (true, 24), (true, 25), (true, 26), (true, 27), (true, 28), (true, 29), (true, 30), (true, 31), (true, 32), (true, 33), (true, 34), (true, 35), (true, 36), (true, 37), (true, 38), (true, 39)]
          New.refl New.trans (by kernel_rfl) (by kernel_rfl) (by kernel_rfl) (by kernel_rfl) ?_
        have hU := New.drew wr
        iterate 7 (
          refine up_quiet rfl rfl (v := ?_) (fun W hW => ?_) ?_
          rotate_left
          · skip
            go_simp <;> with_reducible rfl
          simp only [Act.put, List.setIfInBounds_toArray, List.set_cons_zero, List.set_cons_succ])
        refine up_call rfl rfl (fun K hK => ?_)
        go_simp
        (with_reducible refine (P1.out _).mono ?_)
        rintro e u1 h
        obtain ⟨A4, c4, rfl, o4, cu⟩ := h.u
        refine hK _ _ cu ?_
        clear hK h
        replace hU := New.trans hU cu
        refine up_str (e := 5) (by kernel_rfl) (by kernel_rfl) (by kernel_rfl) rfl rfl rfl o4.reads (New.refl _) ?_
        simp only [Act.put, List.setIfInBounds_toArray, List.set_cons_zero, List.set_cons_succ]
        refine up_call rfl rfl (fun K hK => ?_)
        go_simp
        (with_reducible refine (P2.out _).mono ?_)
        rintro e u2 h
        obtain ⟨A5, c5, rfl, o5, cu2⟩ := h.u
        refine hK _ _ cu2 ?_
        clear hK h
        replace hU := New.trans hU cu2
        refine up_str (e := 5) (by kernel_rfl) (by kernel_rfl) (by kernel_rfl) rfl rfl rfl o5.reads (New.refl _) ?_
        simp only [Act.put, List.setIfInBounds_toArray, List.set_cons_zero, List.set_cons_succ]
        repeat (first
          | (refine up_quiet rfl rfl (v := ?_) (fun W hW => ?_) ?_; rotate_left; (go_simp <;> with_reducible rfl); simp only [Act.put, List.setIfInBounds_toArray, List.set_cons_zero, List.set_cons_succ])
          | (refine up_skip rfl rfl ?_; simp only [Act.put, List.setIfInBounds_toArray, List.set_cons_zero, List.set_cons_succ]))
        refine up_nil ?_
        have bE := New.trans HB hU
        go_wp2
        go_ret
        exact ⟨by simp, bE⟩
      · obtain ⟨f1, f2, f3⟩ := PF2 (by omega) (by omega)
        have d0 : decide (n < 0) = false := by simpa using h0
        have d1 : decide ((2147483647 : Int) < n) = false := by simpa using h1
        have e1 : IntKind.i64.wrap (n + (L : Int)) = n + (L : Int) := by rw [IntKind.wrap_i64]; omega
        have e2 : (n + (L : Int)).tmod 64 = 0 := by rw [Int.tmod_eq_emod_of_nonneg (by omega)]; exact f1
        have d2 : decide ((9 : Int) ≤ (L : Int)) = true := by simp; omega
        have d3 : decide ((L : Int) ≤ 72) = true := by simp; omega
        clear f1 h0 h1
        go_wp2_with fail
        refine wp_region_up New [(true, 0), (true, 1), (true, 2), (true, 3), (true, 4), (true, 5), (true, 8), (false, 6), (true, 7), (false, 9), (true, 10), (true, 11), (true, 12), (true, 13), (true, 14), (true, 15), (true, 16), (true, 17), (true, 18), (true, 19), (true, 20), (true, 21), (true, 22), (true, 23), (true, 24), (true, 25), (true, 26), (true, 27), (true, 28), (true, 29), (true, 30), (true, 31), (true, 32), (true, 33), (true, 34), (true, 35), (true, 36), (true, 37), (true, 38), (true, 39)]
          New.refl New.trans (by kernel_rfl) (by kernel_rfl) (by kernel_rfl) (by kernel_rfl) ?_
        have hU := New.drew wr
        iterate 7 (
          refine up_quiet rfl rfl (v := ?_) (fun W hW => ?_) ?_
          rotate_left
          · skip
            go_simp <;> with_reducible rfl
          simp only [Act.put, List.setIfInBounds_toArray, List.set_cons_zero, List.set_cons_succ])
        refine up_call rfl rfl (fun K hK => ?_)
        go_simp
        (with_reducible refine (P1.out _).mono ?_)
        rintro e u1 h
        obtain ⟨A4, c4, rfl, o4, cu⟩ := h.u
        refine hK _ _ cu ?_
        clear hK h
        replace hU := New.trans hU cu
        refine up_str (e := 5) (by kernel_rfl) (by kernel_rfl) (by kernel_rfl) rfl rfl rfl o4.reads (New.refl _) ?_
        simp only [Act.put, List.setIfInBounds_toArray, List.set_cons_zero, List.set_cons_succ]
        refine up_call rfl rfl (fun K hK => ?_)
        go_simp
        (with_reducible refine (P2.out _).mono ?_)
        rintro e u2 h
        obtain ⟨A5, c5, rfl, o5, cu2⟩ := h.u
        refine hK _ _ cu2 ?_
        clear hK h
        replace hU := New.trans hU cu2
        refine up_str (e := 5) (by kernel_rfl) (by kernel_rfl) (by kernel_rfl) rfl rfl rfl o5.reads (New.refl _) ?_
        simp only [Act.put, List.setIfInBounds_toArray, List.set_cons_zero, List.set_cons_succ]
        repeat (first
          | (refine up_quiet rfl rfl (v := ?_) (fun W hW => ?_) ?_; rotate_left; (go_simp <;> with_reducible rfl); simp only [Act.put, List.setIfInBounds_toArray, List.set_cons_zero, List.set_cons_succ])
          | (refine up_skip rfl rfl ?_; simp only [Act.put, List.setIfInBounds_toArray, List.set_cons_zero, List.set_cons_succ]))
        refine up_nil ?_
        have bE := New.trans HB hU
        go_wp2
        go_ret
        exact ⟨by simp, bE⟩

set_option maxRecDepth 100000 in
open Go.WideShapes Go.ChangeShapes in
theorem shaPads_contract {H : Type} {enc : TypeId × Value → H} (W : World) (base : Nat) (args : Array Value) (ds : List (DataW H)) (ps : List MemPlace)
    (hval : ∀ (j : Nat) t v, Tryd.f5.params[j]? = some t → args[j]? = some v → Value.okWide Tryd.prog W .any base t v)
    (hA : DataW.TrodAll enc Tryd.prog W 0 (fun _ => true) true Tryd.f5.params.toList args.toList ds ps) (hlt : ∀ p ∈ ps, p.block < W.heap.size)
    (hsz : (DataW.weightsEach Tryd.prog Tryd.f5.params.toList ds).all (· ≤ reachBytes) = true) (hL : laidMetH Tryd.prog laidC W) :
    Calls Tryd.prog 5 args W fun e W' => e = .returned (.bool true) ∧ Below W.heap.size W W' := by
  rw [Tryd.params5] at hA hval hsz
  obtain ⟨v0, d0, rfl, rfl, h0⟩ := trodAll_one hA
  obtain ⟨n, rfl, wn, wn'⟩ := open_i64 (hval 0 _ _ rfl rfl) h0
  have _ := hlt
  exact shaPads_walk (by omega) (by omega) (const_of_laid hL)

end Go.Proofs.YtglghnnmfplmdaaDoor
