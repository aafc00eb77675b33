/- FooterPlaces returns true whatever comes in, and leaves all that was there as it was. -/
import Derived.Test.YtflaaahcoglflaaBun9
import Derived.Test.YtflaaahcoglflaaBun10

namespace Go.Proofs.Ytflaaahcoglflaa
open Go.RowKit Go.Hm
set_option maxHeartbeats 2000000 in
set_option maxRecDepth 100000 in
theorem footerPlaces_walk {w : World} {Ac : Option Addr} {cc : Nat} {L : List ColS} {r : Int} {Ag : Option Addr} {cg : Nat} {G : List GrD} {g c p : Int} (h : FootIn w Ac cc L Ag G) (hcg : G.length ≤ cg) (hp : ∀ g ∈ G, ∀ x ∈ g.2.2.2, ∀ p ∈ x.2.2, PageFine p) (hr8 : -9223372036854775808 ≤ r ∧ r ≤ 9223372036854775807) :
    Calls Try.prog 4 #[footA Ac cc L r Ag cg G, .int .i64 g, .int .i64 c, .int .i64 p] w (SmallPost w) := by
  have hs : ∀ g ∈ G, ∀ x ∈ g.2.2.2, ∀ p ∈ x.2.2, statFine p.2.2 := fun g hg x hx p hq => (hp g hg x hx p hq).stat
  have B0 := Blk.new w 25 #[.slice Ac L.length cc, .int .i64 r, .slice Ag G.length cg]
  have b0 : New w (w.alloc (.cells #[.slice Ac L.length cc, .int .i64 r, .slice Ag G.length cg] 25)) := (Below.refl _ _).alloc (Nat.le_refl _) _
  have FW := Lib.hid (fun (W : World) (hW : New w W) => show Calls Try.prog 8 #[.agg #[.slice Ac L.length cc, .int .i64 r, .slice Ag G.length cg]] W (BoolNew W) from few19_any (r := r) (cc := cc) (cg := cg) (h.later hW) hp)
  have S1 := Lib.hid (fun (W : World) (hW : New w W) => show Calls Try.prog 14 #[.agg #[.slice Ac L.length cc, .int .i64 r, .slice Ag G.length cg], .int .i64 g, .int .i64 c] W (SpansPost (spansF (footP L r G) g c) W) from fspans_any (r := r) (cc := cc) (cg := cg) (h.later hW) hs hcg)
  have S2 := Lib.hid (fun (W : World) (hW : New w W) => show Calls Try.prog 15 #[.agg #[.slice Ac L.length cc, .int .i64 r, .slice Ag G.length cg], .int .i64 g, .int .i64 c] W (SpansPost (spansF (footP L r G) g c) W) from rfspans_any (r := r) (cc := cc) (cg := cg) (h.later hW) hs hr8)
  have P1 := Lib.hid (fun (W : World) (hW : New w W) => show Calls Try.prog 16 #[.agg #[.slice Ac L.length cc, .int .i64 r, .slice Ag G.length cg], .int .i64 g, .int .i64 c, .int .i64 p] W (NewPost (.int .i64 (placeF (footP L r G) g c p)) W) from place_any (r := r) (cc := cc) (cg := cg) (h.later hW) hs)
  have P2 := Lib.hid (fun (W : World) (hW : New w W) => show Calls Try.prog 17 #[.agg #[.slice Ac L.length cc, .int .i64 r, .slice Ag G.length cg], .int .i64 g, .int .i64 c, .int .i64 p] W (NewPost (.int .i64 (placeF (footP L r G) g c p)) W) from rplace_any (r := r) (cc := cc) (cg := cg) (h.later hW) hs hr8)
  have hlen : (spansF (footP L r G) g c).length ≤ 4611686018427387903 := by
    unfold spansF
    split
    · rename_i e
      rw [Bool.and_eq_true] at e
      have hok : FootOk (footP L r G) := by have := e.1; unfold rightF at this; simpa using this
      obtain ⟨gk, ck, rfl, rfl, h1, h2⟩ := inB_yes e.2
      have hck := foot_chunk hok h1 h2
      have h3 := (rowsL_pos hck.1.1).2.1
      have h4 := foot_rows hok h1
      have h5 := foot_ahead hok h1
      have h6 := hck.1.2
      rw [spansL_len]
      simp only [Int.toNat_natCast]
      unfold aheadR at h5
      omega
    · simp
  clear h hp hs hr8 hcg
  generalize spansF (footP L r G) g c = l at *
  generalize placeF (footP L r G) g c p = v at *
  show Calls Try.prog 4 #[.agg #[.slice Ac L.length cc, .int .i64 r, .slice Ag G.length cg], .int .i64 g, .int .i64 c, .int .i64 p] w (SmallPost w)
  go_enter Try.func4, Try.ntmps4
  go_wp2_with fail
  refine (small19_any _).mono ?_
  rintro e w1 ⟨rfl, b1⟩
  have B1 := B0.below b1 B0.lt
  have b01 := New.trans b0 b1
  clear B0 b0 b1
  obtain ⟨x0, x1, x2⟩ := ccells B1
  go_wp2_with fail
  refine (FW.out _ b01).mono ?_
  rintro e w2 ⟨bb, rfl, b2⟩
  have B2 := B1.below b2 B1.lt
  have b02 := New.trans b01 b2
  clear x0 x1 x2 FW B1 b01 b2
  cases bb with
  | false =>
    go_wp2
    go_ret
    exact ⟨rfl, b02⟩
  | true =>
    have F := Lib.hid (fun (W : World) (hW : New w2 W) => ccells (B2.below hW B2.lt))
    go_wp2_with fail
    refine wp_region_up New [(true, 0), (true, 1), (true, 2), (true, 3), (true, 4), (true, 6), (true, 7), (true, 8), (false, 5), (false, 9), (false, 10), (true, 11), (true, 12), (true, 13), (true, 14), (true, 15), (true, 16), (true, 18), (true, 19), (true, 20), (true, 21), (false, 17), (false, 22), (true, 23), (true, 24), (true, 25)]
      New.refl New.trans (by kernel_rfl) (by kernel_rfl) (by kernel_rfl) (by kernel_rfl) ?_
    have hU := New.drew w2
    repeat (first
      | (refine up_quiet rfl rfl (v := ?_) (fun W hW => ?_) ?_; rotate_left; (obtain ⟨x0, x1, x2⟩ := F.out W (New.trans hU hW); go_simp <;> with_reducible rfl); simp only [Act.put, List.setIfInBounds_toArray, List.set_cons_zero, List.set_cons_succ]))
    refine up_call rfl rfl (fun K hK => ?_)
    go_simp
    (with_reducible refine (S1.out _ (New.trans b02 hU)).mono ?_)
    rintro e u ⟨A3, n3, c3, rfl, o3, c⟩
    refine hK _ _ c ?_
    clear hK
    replace hU := New.trans hU c
    repeat (first
      | (refine up_quiet rfl rfl (v := ?_) (fun W hW => ?_) ?_; rotate_left; (obtain ⟨x0, x1, x2⟩ := F.out W (New.trans hU hW); go_simp <;> with_reducible rfl); simp only [Act.put, List.setIfInBounds_toArray, List.set_cons_zero, List.set_cons_succ]))
    refine up_call rfl rfl (fun K hK => ?_)
    go_simp
    (with_reducible refine (S2.out _ (New.trans b02 hU)).mono ?_)
    rintro e u2 ⟨A4, n4, c4, rfl, o4, c⟩
    refine hK _ _ c ?_
    clear hK
    replace hU := New.trans hU c
    have r3 := Reads.of_own (row_later o3 c)
    have r4 := Reads.of_own o4
    obtain rfl : n3 = l.length := r3.lenP
    obtain rfl : n4 = l.length := r4.lenP
    have SP := Lib.hid (spans_any (c := c3) (c2 := c4) r3 r4 hlen)
    clear o3 o4 r3 r4
    refine up_call rfl rfl (fun K hK => ?_)
    go_simp
    (with_reducible refine SP.out.mono ?_)
    rintro e u3 ⟨rfl, c⟩
    refine hK _ _ c ?_
    clear hK
    replace hU := New.trans hU c
    repeat (first
      | (refine up_quiet rfl rfl (v := ?_) (fun W hW => ?_) ?_; rotate_left; (obtain ⟨x0, x1, x2⟩ := F.out W (New.trans hU hW); go_simp <;> with_reducible rfl); simp only [Act.put, List.setIfInBounds_toArray, List.set_cons_zero, List.set_cons_succ])
      | (refine up_call rfl rfl (fun K hK => ?_); go_simp
         first
           | (with_reducible refine (P1.out _ (New.trans b02 hU)).mono ?_)
           | (with_reducible refine (P2.out _ (New.trans b02 hU)).mono ?_)
         rintro e u4 ⟨rfl, c⟩
         refine hK _ _ c ?_
         clear hK
         replace hU := New.trans hU c))
    refine up_nil ?_
    go_wp2
    go_ret
    exact ⟨by simp, New.trans b02 hU⟩

set_option maxRecDepth 100000 in
open Go.WideShapes Go.ChangeShapes in
theorem footerPlaces_contract {H : Type} {enc : TypeId × Value → H} (W : World) (base : Nat) (args : Array Value) (ds : List (DataW H)) (ps : List MemPlace)
    (hval : ∀ (j : Nat) t v, Try.f4.params[j]? = some t → args[j]? = some v → Value.okWide Try.prog W .any base t v)
    (hA : DataW.TrodAll enc Try.prog W 0 (fun _ => true) true Try.f4.params.toList args.toList ds ps) (hlt : ∀ p ∈ ps, p.block < W.heap.size)
    (hsz : (DataW.weightsEach Try.prog Try.f4.params.toList ds).all (· ≤ reachBytes) = true) :
    Calls Try.prog 4 args W fun e W' => e = .returned (.bool true) ∧ Below W.heap.size W W' := by
  rw [Try.params4] at hA hval hsz
  obtain ⟨v0, v1, v2, v3, d0, d1, d2, d3, p0, p1, p2, p3, rfl, rfl, rfl, h0, h1, h2, h3⟩ := trodAll_four hA
  -- t: v0 d0 p0 h0, hval 0
  obtain ⟨g, rfl, wg, wg'⟩ := open_i64 (hval 1 _ _ rfl rfl) h1
  obtain ⟨c, rfl, wc, wc'⟩ := open_i64 (hval 2 _ _ rfl rfl) h2
  obtain ⟨p, rfl, wp, wp'⟩ := open_i64 (hval 3 _ _ rfl rfl) h3
  obtain ⟨Ac, cc, L, r, Ag, cg, G, rfl, hF, hcg, hr, _, hG⟩ := open_Fo (hval 0 _ _ rfl rfl) h0 (fun p hp => hlt p (by simp [hp])) (sized_at hsz (j := 0) rfl rfl)
  exact footerPlaces_walk hF hcg (fun g hg => (hG g hg).2) hr

end Go.Proofs.Ytflaaahcoglflaa
