/- PickCols returns true whatever comes in, and leaves all that was there as it was. -/
import Derived.Test.YthmjbdpkdomofaaBun7
import Derived.Test.YthmjbdpkdomofaaBun5
import Derived.Test.YthmjbdpkdomofaaBun4
import Derived.Test.YthmjbdpkdomofaaBun8

namespace Go.Proofs.Ythmjbdpkdomofaa
open Go Go.RowKit Go.Hm
theorem sIc : Try.prog.underlying 26 = some (.slice (Try.prog.elem 26)) := by kernel_rfl
theorem zIc (w : World) : (sizeOf (Try.prog.elem 26)).run Try.prog w = .ok 1 w := by kernel_rfl
theorem okQ_one {F : FootS} {Q : List Int} {f t : Int} (h : okQ F Q f t = true) {x : Int} (hx : x ∈ Q) : okQ F [x] f t = true := by
  unfold okQ at h ⊢
  rw [Bool.and_eq_true] at h ⊢
  refine ⟨h.1, ?_⟩
  obtain ⟨h1, h2, h3⟩ := (qfits_iff _ _ _ _ _).1 h.2
  obtain ⟨h4, c, d⟩ := (qmay_iff _ _ _).1 h1
  refine (qfits_iff _ _ _ _ _).2 ⟨(qmay_iff _ _ _).2 ⟨h4, fun y hy => ?_, by simp⟩, h2, fun y hy => ?_⟩
  · rw [List.mem_singleton] at hy
    rw [hy]
    exact c x hx
  · rw [List.mem_singleton] at hy
    rw [hy]
    exact h3 x hx
theorem bytesI_bnd {F : FootS} {Q : List Int} {f t : Int} (h : okQ F Q f t = true) : 0 ≤ bytesI F Q f t ∧ bytesI F Q f t ≤ 4503599627370496 := by
  have e := bytes_parts h
  have b := byTo_bnd (okQ_foot h) (fun p hp => parts_is h hp) _ (Nat.le_refl _)
  have l := parts_len h
  rw [e] at b
  have e2 : bytesQ (okQ F Q f t) F Q f t = bytesI F Q f t := by rw [h]; rfl
  rw [e2] at b
  clear e e2
  omega
noncomputable def colsTo (F : FootS) (Q : List Int) (f t : Int) (k : Nat) : Int := ((Q.take k).map fun c => bytesI F [c] f t).sum
theorem colsTo_zero (F : FootS) (Q : List Int) (f t : Int) : colsTo F Q f t 0 = 0 := by simp [colsTo]
theorem colsTo_succ (F : FootS) {Q : List Int} (f t : Int) {k : Nat} (h : k < Q.length) : colsTo F Q f t (k + 1) = colsTo F Q f t k + bytesI F [Q.getD k 0] f t := by
  unfold colsTo
  rw [take_snoc Q k 0 h, List.map_append, List.sum_append]
  simp
theorem colsTo_bnd {F : FootS} {Q : List Int} {f t : Int} (h : okQ F Q f t = true) : ∀ k, k ≤ Q.length → 0 ≤ colsTo F Q f t k ∧ colsTo F Q f t k ≤ 4503599627370496 * (k : Int)
  | 0, _ => by rw [colsTo_zero]; omega
  | k + 1, hk => by
    have ih := colsTo_bnd h k (by omega)
    have b := bytesI_bnd (okQ_one h (mem_getDF (0 : Int) (show k < Q.length by omega)))
    rw [colsTo_succ F f t (by omega)]
    omega
theorem colsTo_all (F : FootS) (Q : List Int) (f t : Int) : colsTo F Q f t Q.length = bytesI F Q f t := by
  unfold colsTo
  rw [List.take_length]
  exact bytes_cols F Q f t

section
variable {w : World} {Ac : Option Addr} {cc : Nat} {L : List ColS} {r : Int} {Ag : Option Addr} {cg : Nat} {G : List GrD} {Aq : Option Addr} {cq : Nat} {Q : List Int} {f t : Int}
theorem FQ.one (h : FQ w Ac cc L r Ag cg G Aq cq Q) {k : Nat} (hk : k < Q.length) : FQ w Ac cc L r Ag cg G (if cq = k then Aq else Aq.map (·.add (k * 1))) (cq - k) [Q.getD k 0] := by
  have hc := h.capq
  have r1 := ((h.cols.cut (k := k) (cap := cq) (by omega) hc).take (k := 1) (by omega))
  have e : ((ints .i64 Q).drop (k * 1)).take (1 * 1) = ints .i64 [Q.getD k 0] := by
    rw [Nat.mul_one, Nat.mul_one]
    unfold ints
    rw [← List.map_drop, ← List.map_take, getD_drop Q k 0 hk]
  rw [e] at r1
  exact ⟨h.foot, h.cap, h.fewG, h.row8, h.gr8, h.fine, h.caps, r1, by simp; omega, by simp, fun x hx => by rw [List.mem_singleton] at hx; rw [hx]; exact h.q8 _ (mem_getDF (0 : Int) hk)⟩
set_option maxHeartbeats 8000000 in
set_option maxRecDepth 100000 in
theorem pickCols_walk (h : FQ w Ac cc L r Ag cg G Aq cq Q) :
    Calls Try.prog 7 #[.agg #[.slice Ac L.length cc, .int .i64 r, .slice Ag G.length cg], .agg #[.slice Aq Q.length cq, .int .i64 f, .int .i64 t]] w (SmallPost w) := by
  have FW := Lib.hid (fun (W : World) (hW : New w W) => show Calls Try.prog 10 #[.agg #[.slice Ac L.length cc, .int .i64 r, .slice Ag G.length cg]] W (BoolNew W) from few19_any (r := r) (cc := cc) (cg := cg) (h.foot.later hW) h.fine)
  have R1 := Lib.hid (fun (W : World) (hW : New w W) => show Calls Try.prog 20 #[.agg #[.slice Ac L.length cc, .int .i64 r, .slice Ag G.length cg]] W (NewPost (.bool (rightF (footP L r G))) W) from rfright_any (r := r) (cc := cc) (cg := cg) (h.foot.later hW) h.stat h.row8)
  have F1 := Lib.hid (fun (W : World) (hW : New w W) => show Calls Try.prog 21 #[.agg #[.slice Aq Q.length cq, .int .i64 f, .int .i64 t], .agg #[.slice Ac L.length cc, .int .i64 r, .slice Ag G.length cg]] W (NewPost (.bool (qfits Q f t L.length r)) W) from rqfits_any (A1 := Ac) (n1 := L.length) (c1 := cc) (rows := r) (A2 := Ag) (n2 := G.length) (c2 := cg) (c := cq) (f := f) (t := t) (Reads.later h.cols hW) (by have := h.fewq; omega))
  have OK := fun (e : rightF (footP L r G) = true) (e2 : qfits Q f t L.length r = true) => show okQ (footP L r G) Q f t = true from by
    unfold okQ
    rw [e]
    exact e2
  have HY := fun (e : rightF (footP L r G) = true) (e2 : qfits Q f t L.length r = true) (W : World) (hW : New w W) => show Calls Try.prog 18 #[.agg #[.slice Ac L.length cc, .int .i64 r, .slice Ag G.length cg], .agg #[.slice Aq Q.length cq, .int .i64 f, .int .i64 t]] W (NewPost (.int .i64 (bytesI (footP L r G) Q f t)) W) from by
    have := pbytes_any (f := f) (t := t) (h.later hW)
    rw [OK e e2] at this
    exact this
  have HZ := fun (e : rightF (footP L r G) = true) (e2 : qfits Q f t L.length r = true) (k : Nat) (hk : k < Q.length) (W : World) (hW : New w W) => show Calls Try.prog 18 #[.agg #[.slice Ac L.length cc, .int .i64 r, .slice Ag G.length cg], .agg #[.slice (if cq = k then Aq else Aq.map (·.add (k * 1))) 1 (cq - k), .int .i64 f, .int .i64 t]] W (NewPost (.int .i64 (bytesI (footP L r G) [Q.getD k 0] f t)) W) from by
    have := pbytes_any (f := f) (t := t) ((h.later hW).one hk)
    rw [okQ_one (OK e e2) (mem_getDF (0 : Int) hk)] at this
    exact this
  have ST := fun (e : rightF (footP L r G) = true) (e2 : qfits Q f t L.length r = true) (k : Nat) (hk : k < Q.length) => And.intro (colsTo_succ (footP L r G) f t hk) (And.intro (colsTo_bnd (OK e e2) k (by omega)) (And.intro (bytesI_bnd (okQ_one (OK e e2) (mem_getDF (0 : Int) hk))) (okQ_cols (OK e e2)).2.2.2.2.2))
  have S0 := Lib.hid (colsTo_zero (footP L r G) Q f t)
  have SA := Lib.hid (colsTo_all (footP L r G) Q f t)
  have hfewq := h.fewq
  have hfewG := h.fewG
  have hcq := h.capq
  clear h OK
  have HY := Lib.hid HY
  have HZ := Lib.hid HZ
  have HST := Lib.hid ST
  clear ST
  generalize rightF (footP L r G) = M at *
  generalize qfits Q f t L.length r = N at *
  generalize colsTo (footP L r G) Q f t = CT at *
  generalize bytesI (footP L r G) = BI at *
  have B0 := (Blk.new w 25 #[.slice Ac L.length cc, .int .i64 r, .slice Ag G.length cg]).alloc (.cells #[.slice Aq Q.length cq, .int .i64 f, .int .i64 t] 28)
  have B1 := Blk.new (w.alloc (.cells #[.slice Ac L.length cc, .int .i64 r, .slice Ag G.length cg] 25)) 28 #[.slice Aq Q.length cq, .int .i64 f, .int .i64 t]
  have b0 := new2 w (.cells #[.slice Ac L.length cc, .int .i64 r, .slice Ag G.length cg] 25) (.cells #[.slice Aq Q.length cq, .int .i64 f, .int .i64 t] 28)
  simp only [World.size_alloc] at B1
  go_enter Try.func7, Try.ntmps7
  go_wp2_with fail
  refine (small25_any _).mono ?_
  rintro e w1 ⟨rfl, b1⟩
  have B0 := B0.below b1 B0.lt
  have B1 := B1.below b1 B1.lt
  have b01 := New.trans b0 b1
  clear b0 b1
  obtain ⟨x0, x1, x2⟩ := ccells B0
  go_wp2_with fail
  refine (FW.out _ b01).mono ?_
  rintro e w2 ⟨bb, rfl, b2⟩
  have B0 := B0.below b2 B0.lt
  have B1 := B1.below b2 B1.lt
  have b03 := New.trans b01 b2
  clear x0 x1 x2 FW b01 b2
  obtain ⟨x0, x1, x2⟩ := ccells B0
  obtain ⟨y0, y1, y2⟩ := ccells B1
  cases bb with
  | false =>
    go_wp2
    go_ret
    exact ⟨rfl, b03⟩
  | true =>
    by_cases hq : (100 : Int) < (Q.length : Int)
    · go_wp2
      go_ret
      exact ⟨rfl, b03⟩
    · go_wp2_with fail
      refine (R1.out _ b03).mono ?_
      rintro e w3 ⟨rfl, b3⟩
      have B0 := B0.below b3 B0.lt
      have B1 := B1.below b3 B1.lt
      have b04 := New.trans b03 b3
      clear x0 x1 x2 y0 y1 y2 R1 b03 b3
      cases M with
      | false =>
        go_wp2
        go_ret
        exact ⟨rfl, b04⟩
      | true =>
        have HY1 := Lib.hid (HY.out (by trivial))
        have HZ1 := Lib.hid (HZ.out (by trivial))
        have HST1 := Lib.hid (HST.out (by trivial))
        clear HY HZ HST
        obtain ⟨x0, x1, x2⟩ := ccells B0
        obtain ⟨y0, y1, y2⟩ := ccells B1
        go_wp2_with fail
        refine (F1.out _ b04).mono ?_
        rintro e w4 ⟨rfl, b4⟩
        have B0 := B0.below b4 B0.lt
        have B1 := B1.below b4 B1.lt
        have b05 := New.trans b04 b4
        clear x0 x1 x2 y0 y1 y2 F1 b04 b4
        cases N with
        | false =>
          go_wp2
          go_ret
          exact ⟨rfl, b05⟩
        | true =>
          have HY2 := Lib.hid (HY1.out (by trivial))
          have HZ2 := Lib.hid (HZ1.out (by trivial))
          have HST2 := Lib.hid (HST1.out (by trivial))
          clear HY1 HZ1 HST1
          go_wp2_with fail
          go_loopw [7, 8] (fun v i wr => ∃ k : Nat, k ≤ Q.length ∧ i = .int .i64 (k : Int) ∧ v = .int .i64 (CT k) ∧ Blk wr w.heap.size 25 #[.slice Ac L.length cc, .int .i64 r, .slice Ag G.length cg] ∧ Blk wr (w.heap.size + 1) 28 #[.slice Aq Q.length cq, .int .i64 f, .int .i64 t] ∧ New w wr) (fun _ i _ => Q.length - (intOf i).toNat)
          case atStart => exact ⟨0, Nat.zero_le _, rfl, by rw [S0.out], B0, B1, b05⟩
          case round =>
            obtain ⟨k, hk, rfl, rfl, B, B1q, b⟩ := hrel
            clear B0 B1 S0 b05
            obtain ⟨y0, y1, y2⟩ := ccells B1q
            by_cases hlt : k < Q.length
            · obtain ⟨hst, ⟨c0, c1⟩, ⟨d0, d1⟩, -⟩ := HST2.out k hlt
              have ZK := Lib.hid (HZ2.out k hlt)
              have SL := fun W => slice_lhS sIc zIc Aq Q.length cq k (k + 1) (by omega) (by omega) W
              obtain ⟨A', hA'⟩ : ∃ A', A' = (if cq = k then Aq else Aq.map (·.add (k * 1))) := ⟨_, rfl⟩
              rw [← hA'] at SL ZK
              simp only [Nat.add_sub_cancel_left, Int.natCast_add, Int.cast_ofNat_Int] at SL
              have HSt := Lib.hid hst
              clear hA' hst
              generalize BI [Q.getD k 0] f t = bk at *
              generalize CT k = ck at *
              have wA : IntKind.i64.wrap (ck + bk) = ck + bk := by rw [IntKind.wrap_i64]; omega
              have wC : IntKind.i64.wrap ((k : Int) + 1) = (k : Int) + 1 := by rw [IntKind.wrap_i64]; omega
              have hki : (k : Int) < (Q.length : Int) := by omega
              have F3 := Lib.hid (fun (W : World) (hW : New wr W) => And.intro (B.below hW B.lt) (B1q.below hW B1q.lt))
              clear B B1q
              go_wp2_with fail
              clear y0 y1 y2
              refine wp_region_up New [(true, 0), (true, 1), (true, 2), (true, 3), (true, 4), (true, 5), (true, 6), (true, 7), (true, 8), (true, 9), (true, 10), (true, 11), (true, 12), (false, 13), (true, 14), (true, 15)]
                New.refl New.trans (by kernel_rfl) (by kernel_rfl) (by kernel_rfl) (by kernel_rfl) ?_
              have hU := New.drew wr
              repeat (first
                | (refine up_quiet rfl rfl (v := ?_) (fun W hQ => ?_) ?_; rotate_left; (obtain ⟨F1, F2⟩ := F3.out W (New.trans hU hQ); obtain ⟨x0, x1, x2⟩ := ccells F1; obtain ⟨y0, y1, y2⟩ := ccells F2; clear F1 F2; go_simp <;> with_reducible rfl); simp only [Act.put, List.setIfInBounds_toArray, List.set_cons_zero, List.set_cons_succ]))
              refine up_call rfl rfl (fun K hK => ?_)
              go_simp
              refine (ZK.out _ (New.trans b hU)).mono ?_
              rintro e w5 ⟨rfl, b5⟩
              refine hK _ _ b5 ?_
              clear hK
              replace hU := New.trans hU b5
              clear b5 SL
              repeat (first
                | (refine up_quiet rfl rfl (v := ?_) (fun W hQ => ?_) ?_; rotate_left; (go_simp <;> with_reducible rfl); simp only [Act.put, List.setIfInBounds_toArray, List.set_cons_zero, List.set_cons_succ]))
              refine up_nil ?_
              obtain ⟨F1, F2⟩ := F3.out _ hU
              have b8 := New.trans b hU
              clear F3 hU
              go_wp2_with fail
              go_roundw
              case rel => exact ⟨k + 1, by omega, by go_num, by rw [HSt.out], F1, F2, b8⟩
              case measure => simp [intOf]; omega
            · obtain rfl : k = Q.length := by omega
              obtain ⟨x0, x1, x2⟩ := ccells B
              rw [SA.out]
              generalize BI Q f t = bq at *
              go_wp2_with fail
              refine (HY2.out _ b).mono ?_
              rintro e w6 ⟨rfl, b6⟩
              have b7 := New.trans b b6
              clear x0 x1 x2 y0 y1 y2 b6 B B1q
              go_wp2
              go_ret
              exact ⟨by simp, b7⟩
end

set_option maxRecDepth 100000 in
open Go.WideShapes Go.ChangeShapes in
theorem pickCols_contract {H : Type} {enc : TypeId × Value → H} (W : World) (base : Nat) (args : Array Value) (ds : List (DataW H)) (ps : List MemPlace)
    (hval : ∀ (j : Nat) t v, Try.f7.params[j]? = some t → args[j]? = some v → Value.okWide Try.prog W .any base t v)
    (hA : DataW.TrodAll enc Try.prog W 0 (fun _ => true) true Try.f7.params.toList args.toList ds ps) (hlt : ∀ p ∈ ps, p.block < W.heap.size)
    (hsz : (DataW.weightsEach Try.prog Try.f7.params.toList ds).all (· ≤ reachBytes) = true) :
    Calls Try.prog 7 args W fun e W' => e = .returned (.bool true) ∧ Below W.heap.size W W' := by
  rw [Try.params7] at hA hval hsz
  obtain ⟨v0, v1, d0, d1, p0, p1, rfl, rfl, rfl, h0, h1⟩ := trodAll_two hA
  -- t: v0 d0 p0 h0, hval 0
  -- q: v1 d1 p1 h1, hval 1
  obtain ⟨Ac, cc, L, r, Ag, cg, G, rfl, hF, hcg, hr, _, hG, hfew, hcap⟩ := open_Fo2 (hval 0 _ _ rfl rfl) h0 (fun p hp => hlt p (by simp [hp])) (sized_at hsz (j := 0) rfl rfl)
  obtain ⟨A, c, l, f, t, rfl, hc, hm, hq, hl⟩ := open_Q (hval 1 _ _ rfl rfl) h1 (fun p hp => hlt p (by simp [hp])) (sized_at hsz (j := 1) rfl rfl)
  exact pickCols_walk ⟨hF, hcg, hfew, hr, fun g hg => (hG g hg).1, fun g hg => (hG g hg).2, hcap, hq, hc, by omega, hl⟩

end Go.Proofs.Ythmjbdpkdomofaa
