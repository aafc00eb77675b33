/- FooterEncodes returns true whatever comes in, and leaves all that was there as it was. -/
import Derived.Test.YtflaaahcoglflaaBun9
import Derived.Test.YtflaaahcoglflaaBun10

namespace Go.Proofs.Ytflaaahcoglflaa
open Go.RowKit Go.Hm
set_option maxHeartbeats 2000000 in
set_option maxRecDepth 100000 in
theorem footerEncodes_walk {w : World} {Ac : Option Addr} {cc : Nat} {L : List ColS} {r : Int} {Ag : Option Addr} {cg : Nat} {G : List GrD} (h : FootIn w Ac cc L Ag G) (hp : ∀ g ∈ G, ∀ x ∈ g.2.2.2, ∀ p ∈ x.2.2, PageFine p) (hr8 : -9223372036854775808 ≤ r ∧ r ≤ 9223372036854775807) :
    Calls Try.prog 3 #[footA Ac cc L r Ag cg G] w (SmallPost w) := by
  have hs : ∀ g ∈ G, ∀ x ∈ g.2.2.2, ∀ p ∈ x.2.2, statFine p.2.2 := fun g hg x hx p hq => (hp g hg x hx p hq).stat
  have B0 := Blk.new w 25 #[.slice Ac L.length cc, .int .i64 r, .slice Ag G.length cg]
  have b0 : New w (w.alloc (.cells #[.slice Ac L.length cc, .int .i64 r, .slice Ag G.length cg] 25)) := (Below.refl _ _).alloc (Nat.le_refl _) _
  have FW := Lib.hid (fun (W : World) (hW : New w W) => show Calls Try.prog 8 #[.agg #[.slice Ac L.length cc, .int .i64 r, .slice Ag G.length cg]] W (BoolNew W) from few19_any (r := r) (cc := cc) (cg := cg) (h.later hW) hp)
  have E1 := Lib.hid (fun (W : World) (hW : New w W) => show Calls Try.prog 9 #[.agg #[.slice Ac L.length cc, .int .i64 r, .slice Ag G.length cg]] W (OptB (encF (footP L r G)) W) from fencode_any (r := r) (cc := cc) (cg := cg) (h.later hW) hp)
  have E2 := Lib.hid (fun (W : World) (hW : New w W) => show Calls Try.prog 10 #[.agg #[.slice Ac L.length cc, .int .i64 r, .slice Ag G.length cg]] W (OptB (encF (footP L r G)) W) from rfencode_any (r := r) (cc := cc) (cg := cg) (h.later hW) hp hr8)
  have R1 := Lib.hid (fun (W : World) (hW : New w W) => show Calls Try.prog 11 #[.agg #[.slice Ac L.length cc, .int .i64 r, .slice Ag G.length cg]] W (NewPost (.bool (rightF (footP L r G))) W) from fright_any (r := r) (cc := cc) (cg := cg) (h.later hW) hs)
  have R2 := Lib.hid (fun (W : World) (hW : New w W) => show Calls Try.prog 12 #[.agg #[.slice Ac L.length cc, .int .i64 r, .slice Ag G.length cg]] W (NewPost (.bool (rightF (footP L r G))) W) from rfright_any (r := r) (cc := cc) (cg := cg) (h.later hW) hs hr8)
  clear h hp hs hr8
  generalize rightF (footP L r G) = M at *
  generalize encF (footP L r G) = O at *
  show Calls Try.prog 3 #[.agg #[.slice Ac L.length cc, .int .i64 r, .slice Ag G.length cg]] w (SmallPost w)
  go_enter Try.func3, Try.ntmps3
  go_wp2_with fail
  refine (small19_any _).mono ?_
  rintro e w1 ⟨rfl, b1⟩
  have B1 := B0.below b1 B0.lt
  have b01 := New.trans b0 b1
  clear B0 b0 b1
  obtain ⟨x0, x1, x2⟩ := ccells B1
  go_wp2_with fail
  refine (FW.out _ b01).mono ?_
  rintro e w2 ⟨bb, rfl, b2⟩
  have B2 := B1.below b2 B1.lt
  have b02 := New.trans b01 b2
  clear x0 x1 x2 FW B1 b01 b2
  cases bb with
  | false =>
    go_wp2
    go_ret
    exact ⟨rfl, b02⟩
  | true =>
    obtain ⟨x0, x1, x2⟩ := ccells B2
    go_wp2_with fail
    refine (E1.out _ b02).mono ?_
    rintro e w3 h3
    obtain ⟨A3, n3, c3, rfl, o3, b3⟩ := h3.u
    have B3 := B2.below b3 B2.lt
    have b03 := New.trans b02 b3
    clear h3 x0 x1 x2 B2 b02 b3 E1
    obtain ⟨x0, x1, x2⟩ := ccells B3
    go_wp2_with fail
    refine (E2.out _ b03).mono ?_
    rintro e w4 h4
    obtain ⟨A4, n4, c4, rfl, o4, b4⟩ := h4.u
    have o3 := o3.later b4
    have B4 := B3.below b4 B3.lt
    have b04 := New.trans b03 b4
    clear h4 x0 x1 x2 B3 b03 b4 E2
    have F := Lib.hid (fun (W : World) (hW : New w4 W) => ccells (B4.below hW B4.lt))
    have S := Lib.hid (fun (W : World) (hW : New w4 W) => And.intro (run_strB (c := c3) (o3.later hW).reads) (run_strB (c := c4) (o4.later hW).reads))
    generalize O.isSome = q at *
    generalize bstr (O.getD []) = s at *
    clear o3 o4 B4
    go_wp2_with fail
    refine wp_region_up New [(true, 0), (true, 1), (true, 2), (true, 3), (true, 4), (true, 5), (true, 6), (true, 7), (true, 8), (true, 9), (true, 10), (true, 11), (true, 12), (true, 13), (true, 14), (true, 16), (false, 15), (false, 17), (true, 18), (true, 19), (true, 20)]
      New.refl New.trans (by kernel_rfl) (by kernel_rfl) (by kernel_rfl) (by kernel_rfl) ?_
    have hU := New.drew w4
    repeat (first
      | (refine up_quiet rfl rfl (v := ?_) (fun W hW => ?_) ?_; rotate_left; (obtain ⟨x0, x1, x2⟩ := F.out W (New.trans hU hW); obtain ⟨X1, X2⟩ := S.out W (New.trans hU hW); go_simp <;> with_reducible rfl); simp only [Act.put, List.setIfInBounds_toArray, List.set_cons_zero, List.set_cons_succ])
      | (refine up_call rfl rfl (fun K hK => ?_); go_simp
         first
           | (with_reducible refine (R1.out _ (New.trans b04 hU)).mono ?_)
           | (with_reducible refine (R2.out _ (New.trans b04 hU)).mono ?_)
         rintro e u ⟨rfl, c⟩
         refine hK _ _ c ?_
         clear hK
         replace hU := New.trans hU c))
    refine up_nil ?_
    go_wp2
    go_ret
    exact ⟨by simp, New.trans b04 hU⟩

set_option maxRecDepth 100000 in
open Go.WideShapes Go.ChangeShapes in
theorem footerEncodes_contract {H : Type} {enc : TypeId × Value → H} (W : World) (base : Nat) (args : Array Value) (ds : List (DataW H)) (ps : List MemPlace)
    (hval : ∀ (j : Nat) t v, Try.f3.params[j]? = some t → args[j]? = some v → Value.okWide Try.prog W .any base t v)
    (hA : DataW.TrodAll enc Try.prog W 0 (fun _ => true) true Try.f3.params.toList args.toList ds ps) (hlt : ∀ p ∈ ps, p.block < W.heap.size)
    (hsz : (DataW.weightsEach Try.prog Try.f3.params.toList ds).all (· ≤ reachBytes) = true) :
    Calls Try.prog 3 args W fun e W' => e = .returned (.bool true) ∧ Below W.heap.size W W' := by
  rw [Try.params3] at hA hval hsz
  obtain ⟨v0, d0, rfl, rfl, h0⟩ := trodAll_one hA
  -- t: v0 d0 p0 h0, hval 0
  obtain ⟨Ac, cc, L, r, Ag, cg, G, rfl, hF, _, hr, _, hG⟩ := open_Fo (hval 0 _ _ rfl rfl) h0 hlt (sized_at hsz (j := 0) rfl rfl)
  exact footerEncodes_walk hF (fun g hg => (hG g hg).2) hr

end Go.Proofs.Ytflaaahcoglflaa
