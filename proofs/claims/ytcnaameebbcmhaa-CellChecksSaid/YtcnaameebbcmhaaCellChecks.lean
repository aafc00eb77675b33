/- CellChecks returns true whatever comes in, and leaves all that was there as it was. -/
import Derived.Test.YtcnaameebbcmhaaSmall07
import Derived.Test.YtcnaameebbcmhaaFew07
import Derived.Test.YtcnaameebbcmhaaCellCr

namespace Go.Proofs.Ytcnaameebbcmhaa
open Go.RowKit Go.Hm
set_option maxHeartbeats 2000000 in
set_option maxRecDepth 100000 in
theorem cellChecks_walk {w : World} {Ac : Option Addr} {cc : Nat} {L : List ColS} {r : Int} {Ad : Option Addr} {cd : Nat} {D : List ColD} (h : TabIn w Ac cc L Ad D) :
    Calls Try.prog 4 #[.agg #[.slice Ac L.length cc, .int .i64 r, .slice Ad D.length cd]] w (SmallPost w) := by
  obtain ⟨W0, hW0⟩ : ∃ W, W = w.alloc (.cells #[.slice Ac L.length cc, .int .i64 r, .slice Ad D.length cd] 35) := ⟨_, rfl⟩
  have b0 : New w W0 := by rw [hW0]; exact (Below.refl _ _).alloc (Nat.le_refl _) _
  have B0 : Blk W0 w.heap.size 35 #[.slice Ac L.length cc, .int .i64 r, .slice Ad D.length cd] := by rw [hW0]; exact Blk.new _ _ _
  have T := Lib.hid (fun (W : World) (hW : New W0 W) => h.later (New.trans b0 hW))
  have F := Lib.hid (fun (W : World) (hW : New W0 W) => ccells (B0.below hW B0.lt))
  have SM := Lib.hid (small07_any W0)
  have HW := Lib.hid hW0
  clear h B0 hW0
  go_enter Try.func4, Try.ntmps4
  go_wp2_with fail
  rw [← HW.out]
  refine SM.out.mono ?_
  rintro e w1 ⟨rfl, b1⟩
  have P := Lib.hid (few07_any (r := r) (cd := cd) (T.out w1 b1))
  obtain ⟨x0, x1, x2⟩ := F.out w1 b1
  go_wp2_with fail
  refine P.out.mono ?_
  rintro e w2 ⟨bb, rfl, b2⟩
  have b02 := New.trans b1 b2
  clear x0 x1 x2 P SM HW b1 b2
  cases bb with
  | false =>
    go_wp2
    go_ret
    exact ⟨rfl, New.trans b0 b02⟩
  | true =>
    go_wp2_with fail
    refine wp_region_up New [(true, 0), (true, 1), (true, 2), (true, 4), (false, 3), (false, 5), (true, 6), (true, 7), (true, 8), (true, 9), (true, 10), (true, 12), (true, 13), (false, 11), (false, 14), (true, 15), (true, 16), (true, 17)]
      New.refl New.trans (by kernel_rfl) (by kernel_rfl) (by kernel_rfl) (by kernel_rfl) ?_
    have hU := New.trans b02 (New.drew w2)
    repeat (first
      | (refine up_quiet rfl rfl (v := ?_) (fun W hW => ?_) ?_; rotate_left; (obtain ⟨x0, x1, x2⟩ := F.out W (New.trans hU hW); go_simp <;> with_reducible rfl); simp only [Act.put, List.setIfInBounds_toArray, List.set_cons_zero, List.set_cons_succ])
      | (refine up_call rfl rfl (fun K hK => ?_); go_simp
         obtain ⟨t1, t2, t3, t4, t5, t6, t7⟩ := T.out _ hU
         first
           | (with_reducible refine (check_any t1 t2 t3 t4 t5 t6 t7).mono ?_)
           | (with_reducible refine (rcheck_any t1 t2 t4 t5 t6 t7).mono ?_)
           | (with_reducible refine (cols_any t1 t2 t3 t4).mono ?_)
           | (with_reducible refine (rcols_any t1 t2 t4).mono ?_)
         rintro e u ⟨rfl, c⟩
         refine hK _ _ c ?_
         clear hK t1 t2 t3 t4 t5 t6 t7
         replace hU := New.trans hU c))
    refine up_nil ?_
    go_wp2
    go_ret
    exact ⟨by simp, New.trans b0 hU⟩

set_option maxRecDepth 100000 in
open Go.WideShapes Go.ChangeShapes in
theorem cellChecks_contract {H : Type} {enc : TypeId × Value → H} (W : World) (base : Nat) (args : Array Value) (ds : List (DataW H)) (ps : List MemPlace)
    (hval : ∀ (j : Nat) t v, Try.f4.params[j]? = some t → args[j]? = some v → Value.okWide Try.prog W .any base t v)
    (hA : DataW.TrodAll enc Try.prog W 0 (fun _ => true) true Try.f4.params.toList args.toList ds ps) (hlt : ∀ p ∈ ps, p.block < W.heap.size)
    (hsz : (DataW.weightsEach Try.prog Try.f4.params.toList ds).all (· ≤ reachBytes) = true) :
    Calls Try.prog 4 args W fun e W' => e = .returned (.bool true) ∧ Below W.heap.size W W' := by
  rw [Try.params4] at hA hval hsz
  obtain ⟨v0, d0, rfl, rfl, h0⟩ := trodAll_one hA
  -- t: v0 d0 p0 h0, hval 0
  obtain ⟨Ac, cc, L, r, Ad, cd, D, rfl, hT, _, _⟩ := open_Tb (hval 0 _ _ rfl rfl) h0 hlt (sized_at hsz (j := 0) rfl rfl)
  exact cellChecks_walk hT

end Go.Proofs.Ytcnaameebbcmhaa
