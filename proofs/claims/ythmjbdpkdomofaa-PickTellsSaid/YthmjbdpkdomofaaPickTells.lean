/- PickTells returns true whatever comes in, and leaves all that was there as it was. -/
import Derived.Test.YthmjbdpkdomofaaBun7
import Derived.Test.YthmjbdpkdomofaaBun4
import Derived.Test.YthmjbdpkdomofaaBun8
import Derived.BigQuiet
import Derived.Deep.QuietTactic

namespace Go.Proofs.Ythmjbdpkdomofaa
open Go Go.RowKit Go.Hm

section
variable {w : World} {Ac : Option Addr} {cc : Nat} {L : List ColS} {r : Int} {Ag : Option Addr} {cg : Nat} {G : List GrD} {Aq : Option Addr} {cq : Nat} {Q : List Int} {f t : Int}
theorem parts_few {F : FootS} {Q : List Int} {f t : Int} : (partsQ (okQ F Q f t) F Q f t).length ≤ 4611686018427387903 := by
  cases h : okQ F Q f t with
  | true =>
    have := parts_len h
    rw [h] at this
    omega
  | false =>
    unfold partsQ groupsQ
    simp [partsTo]
set_option maxHeartbeats 8000000 in
set_option maxRecDepth 100000 in
theorem pickTells_walk (h : FQ w Ac cc L r Ag cg G Aq cq Q) :
    Calls Try.prog 3 #[.agg #[.slice Ac L.length cc, .int .i64 r, .slice Ag G.length cg], qV Aq cq Q f t] w (SmallPost w) := by
  have FW := Lib.hid (fun (W : World) (hW : New w W) => show Calls Try.prog 10 #[.agg #[.slice Ac L.length cc, .int .i64 r, .slice Ag G.length cg]] W (BoolNew W) from few19_any (r := r) (cc := cc) (cg := cg) (h.foot.later hW) h.fine)
  have G1 := Lib.hid (fun (W : World) (hW : New w W) => pgroups_any (f := f) (t := t) (h.later hW))
  have G2 := Lib.hid (fun (W : World) (hW : New w W) => rpgroups_any (f := f) (t := t) (h.later hW))
  have P1 := Lib.hid (fun (W : World) (hW : New w W) => pparts_any (f := f) (t := t) (h.later hW))
  have P2 := Lib.hid (fun (W : World) (hW : New w W) => rpparts_any (f := f) (t := t) (h.later hW))
  have D1 := Lib.hid (fun (W : World) (hW : New w W) => pdigests_any (f := f) (t := t) (h.later hW))
  have D2 := Lib.hid (fun (W : World) (hW : New w W) => rpdigests_any (f := f) (t := t) (h.later hW))
  have Y1 := Lib.hid (fun (W : World) (hW : New w W) => pbytes_any (f := f) (t := t) (h.later hW))
  have Y2 := Lib.hid (fun (W : World) (hW : New w W) => rpbytes_any (f := f) (t := t) (h.later hW))
  have hfewq := h.fewq
  have hlen := parts_few (F := footP L r G) (Q := Q) (f := f) (t := t)
  clear h
  generalize partsQ (okQ (footP L r G) Q f t) (footP L r G) Q f t = l at *
  generalize groupsQ (okQ (footP L r G) Q f t) (footP L r G) f t = ab at *
  generalize digestsQ (okQ (footP L r G) Q f t) (footP L r G) Q f t = dg at *
  generalize bytesQ (okQ (footP L r G) Q f t) (footP L r G) Q f t = bt at *
  obtain ⟨a, b⟩ := ab
  have B0 := (Blk.new w 25 #[.slice Ac L.length cc, .int .i64 r, .slice Ag G.length cg]).alloc (.cells #[.slice Aq Q.length cq, .int .i64 f, .int .i64 t] 28)
  have B1 := Blk.new (w.alloc (.cells #[.slice Ac L.length cc, .int .i64 r, .slice Ag G.length cg] 25)) 28 #[.slice Aq Q.length cq, .int .i64 f, .int .i64 t]
  have b0 := new2 w (.cells #[.slice Ac L.length cc, .int .i64 r, .slice Ag G.length cg] 25) (.cells #[.slice Aq Q.length cq, .int .i64 f, .int .i64 t] 28)
  simp only [World.size_alloc] at B1
  unfold pairN at G1 G2
  dsimp only at G1 G2
  go_enter Try.func3, Try.ntmps3
  go_wp2_with fail
  refine (small25_any _).mono ?_
  rintro e w1 ⟨rfl, b1⟩
  have B0 := B0.below b1 B0.lt
  have B1 := B1.below b1 B1.lt
  have b01 := New.trans b0 b1
  clear b0 b1
  obtain ⟨x0, x1, x2⟩ := ccells B0
  go_wp2_with fail
  refine (FW.out _ b01).mono ?_
  rintro e w2 ⟨bb, rfl, b2⟩
  have B0 := B0.below b2 B0.lt
  have B1 := B1.below b2 B1.lt
  have b02 := New.trans b01 b2
  clear x0 x1 x2 FW b01 b2
  obtain ⟨y0, y1, y2⟩ := ccells B1
  cases bb with
  | false =>
    go_wp2
    go_ret
    exact ⟨rfl, b02⟩
  | true =>
    by_cases hq : (100 : Int) < (Q.length : Int)
    · go_wp2
      go_ret
      exact ⟨rfl, b02⟩
    · obtain ⟨x0, x1, x2⟩ := ccells B0
      go_wp2_with fail
      refine (G1.out _ b02).mono ?_
      rintro e w3 ⟨rfl, b3⟩
      have B0 := B0.below b3 B0.lt
      have B1 := B1.below b3 B1.lt
      have b03 := New.trans b02 b3
      clear x0 x1 x2 y0 y1 y2 G1 b02 b3
      obtain ⟨x0, x1, x2⟩ := ccells B0
      obtain ⟨y0, y1, y2⟩ := ccells B1
      go_wp2_with fail
      refine (G2.out _ b03).mono ?_
      rintro e w4 ⟨rfl, b4⟩
      have B0 := B0.below b4 B0.lt
      have B1 := B1.below b4 B1.lt
      have b04 := New.trans b03 b4
      clear x0 x1 x2 y0 y1 y2 G2 b03 b4
      have F := Lib.hid (fun (W : World) (hW : New w4 W) => And.intro (ccells (B0.below hW B0.lt)) (ccells (B1.below hW B1.lt)))
      clear B0 B1
      go_wp2_with fail
      refine wp_region_up New [(true, 0), (true, 1), (true, 2), (true, 3), (true, 4), (true, 5), (true, 6), (true, 7), (true, 8), (true, 9), (true, 10), (true, 11), (true, 12), (true, 13), (true, 15), (true, 16), (false, 14), (false, 17), (false, 18), (true, 19), (true, 20), (true, 21), (true, 22), (true, 24), (true, 25), (false, 23), (false, 26), (true, 27), (true, 28), (true, 29), (true, 30), (true, 31), (true, 33), (true, 34), (false, 32), (false, 35), (true, 36), (true, 37), (true, 38)]
        New.refl New.trans (by kernel_rfl) (by kernel_rfl) (by kernel_rfl) (by kernel_rfl) ?_
      have hU := New.drew w4
      repeat (first
        | (refine up_quiet rfl rfl (v := ?_) (fun W hW => ?_) ?_; rotate_left; (obtain ⟨⟨x0, x1, x2⟩, y0, y1, y2⟩ := F.out W (New.trans hU hW); go_simp <;> with_reducible rfl); simp only [Act.put, List.setIfInBounds_toArray, List.set_cons_zero, List.set_cons_succ]))
      refine up_call rfl rfl (fun K hK => ?_)
      go_simp
      (with_reducible refine (P1.out _ (New.trans b04 hU)).mono ?_)
      rintro e u ⟨A3, n3, c3, rfl, hn3, o3, c⟩
      refine hK _ _ c ?_
      clear hK
      replace hU := New.trans hU c
      repeat (first
        | (refine up_quiet rfl rfl (v := ?_) (fun W hW => ?_) ?_; rotate_left; (obtain ⟨⟨x0, x1, x2⟩, y0, y1, y2⟩ := F.out W (New.trans hU hW); go_simp <;> with_reducible rfl); simp only [Act.put, List.setIfInBounds_toArray, List.set_cons_zero, List.set_cons_succ]))
      refine up_call rfl rfl (fun K hK => ?_)
      go_simp
      (with_reducible refine (P2.out _ (New.trans b04 hU)).mono ?_)
      rintro e u2 ⟨A4, n4, c4, rfl, hn4, o4, c⟩
      refine hK _ _ c ?_
      clear hK
      replace hU := New.trans hU c
      have r3 := Reads.of_own (row_later o3 c)
      have r4 := Reads.of_own o4
      subst hn3
      subst hn4
      have SP := Lib.hid (psame_any (c1 := c3) (c2 := c4) r3 r4 hlen)
      clear o3 o4 r3 r4 P1 P2
      refine up_call rfl rfl (fun K hK => ?_)
      go_simp
      (with_reducible refine SP.out.mono ?_)
      rintro e u3 ⟨rfl, c⟩
      refine hK _ _ c ?_
      clear hK
      replace hU := New.trans hU c
      repeat (first
        | (refine up_quiet rfl rfl (v := ?_) (fun W hW => ?_) ?_; rotate_left; (obtain ⟨⟨x0, x1, x2⟩, y0, y1, y2⟩ := F.out W (New.trans hU hW); go_simp <;> with_reducible rfl); simp only [Act.put, List.setIfInBounds_toArray, List.set_cons_zero, List.set_cons_succ])
        | (refine up_call rfl rfl (fun K hK => ?_); go_simp
           first
             | (with_reducible refine (D1.out _ (New.trans b04 hU)).mono ?_)
             | (with_reducible refine (D2.out _ (New.trans b04 hU)).mono ?_)
             | (with_reducible refine (Y1.out _ (New.trans b04 hU)).mono ?_)
             | (with_reducible refine (Y2.out _ (New.trans b04 hU)).mono ?_)
           rintro e u4 ⟨rfl, c⟩
           refine hK _ _ c ?_
           clear hK
           replace hU := New.trans hU c))
      refine up_nil ?_
      go_wp2
      go_ret
      exact ⟨by simp, New.trans b04 hU⟩
end

set_option maxRecDepth 100000 in
open Go.WideShapes Go.ChangeShapes in
theorem pickTells_contract {H : Type} {enc : TypeId × Value → H} (W : World) (base : Nat) (args : Array Value) (ds : List (DataW H)) (ps : List MemPlace)
    (hval : ∀ (j : Nat) t v, Try.f3.params[j]? = some t → args[j]? = some v → Value.okWide Try.prog W .any base t v)
    (hA : DataW.TrodAll enc Try.prog W 0 (fun _ => true) true Try.f3.params.toList args.toList ds ps) (hlt : ∀ p ∈ ps, p.block < W.heap.size)
    (hsz : (DataW.weightsEach Try.prog Try.f3.params.toList ds).all (· ≤ reachBytes) = true) :
    Calls Try.prog 3 args W fun e W' => e = .returned (.bool true) ∧ Below W.heap.size W W' := by
  rw [Try.params3] at hA hval hsz
  obtain ⟨v0, v1, d0, d1, p0, p1, rfl, rfl, rfl, h0, h1⟩ := trodAll_two hA
  -- t: v0 d0 p0 h0, hval 0
  -- q: v1 d1 p1 h1, hval 1
  obtain ⟨Ac, cc, L, r, Ag, cg, G, rfl, hF, hcg, hr, _, hG, hfew, hcap⟩ := open_Fo2 (hval 0 _ _ rfl rfl) h0 (fun p hp => hlt p (by simp [hp])) (sized_at hsz (j := 0) rfl rfl)
  obtain ⟨A, c, l, f, t, rfl, hc, hm, hq, hl⟩ := open_Q (hval 1 _ _ rfl rfl) h1 (fun p hp => hlt p (by simp [hp])) (sized_at hsz (j := 1) rfl rfl)
  exact pickTells_walk ⟨hF, hcg, hfew, hr, fun g hg => (hG g hg).1, fun g hg => (hG g hg).2, hcap, hq, hc, by omega, hl⟩

end Go.Proofs.Ythmjbdpkdomofaa
