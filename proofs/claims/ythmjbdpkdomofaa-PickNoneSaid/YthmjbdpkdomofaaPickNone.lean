/- PickNone returns true whatever comes in, and leaves all that was there as it was. -/
import Derived.Test.YthmjbdpkdomofaaBun7
import Derived.Test.YthmjbdpkdomofaaBun5
import Derived.Test.YthmjbdpkdomofaaBun4
import Derived.Test.YthmjbdpkdomofaaBun3

namespace Go.Proofs.Ythmjbdpkdomofaa
open Go Go.RowKit Go.Hm

section
variable {w : World} {Ac : Option Addr} {cc : Nat} {L : List ColS} {r : Int} {Ag : Option Addr} {cg : Nat} {G : List GrD} {Aq : Option Addr} {cq : Nat} {Q : List Int} {p : Int}
theorem ovr_none (l : List (Int × Int)) (p : Int) : ovr l p p = (0, 0) :=
  ovr_is ⟨Nat.le_refl _, Nat.zero_le _, .inr ⟨rfl, rfl⟩, fun i _ => ⟨fun h => by omega, fun h => by unfold hasS at h; omega⟩⟩
theorem groups_none (ok : Bool) (F : FootS) (p : Int) : groupsQ ok F p p = (0, 0) := by
  unfold groupsQ
  rw [ovr_none]
  simp
theorem parts_none (ok : Bool) (F : FootS) (Q : List Int) (p : Int) : partsQ ok F Q p p = [] := by
  unfold partsQ
  rw [groups_none]
  rfl
theorem need_00 {n : Nat} (h : n ≤ 65536) : needI (n : Nat) 0 0 = if n = 0 then 0 else 1 := by
  have := needI_fitP (n := n) (f := 0) (t := 0) (by omega) (by omega) h
  by_cases h0 : n = 0
  · subst h0
    rw [evs_among (by omega)] at this
    exact this
  · rw [evs_beside (by omega) (by omega)] at this
    rw [if_neg h0]
    exact this
theorem digests_none {F : FootS} {Q : List Int} {p : Int} (h : okQ F Q p p = true) : digestsQ true F Q p p = if F.groups.length = 0 then 0 else 1 := by
  have h5 := rows_sum_le (okQ_foot h)
  have h1 := need_00 h5
  unfold digestsQ
  rw [if_pos rfl, groups_none, parts_none]
  split
  · dsimp only
    show needI (F.groups.length : Nat) 0 0 + 0 - 0 = _
    rw [h1]
    omega
  · show digTo F (needI (F.groups.length : Nat) 0 0) [] 0 = _
    rw [digTo_zero, h1]
set_option maxHeartbeats 8000000 in
set_option maxRecDepth 100000 in
theorem pickNone_walk (h : FQ w Ac cc L r Ag cg G Aq cq Q) :
    Calls Try.prog 8 #[.agg #[.slice Ac L.length cc, .int .i64 r, .slice Ag G.length cg], .slice Aq Q.length cq, .int .i64 p] w (SmallPost w) := by
  have FW := Lib.hid (fun (W : World) (hW : New w W) => show Calls Try.prog 10 #[.agg #[.slice Ac L.length cc, .int .i64 r, .slice Ag G.length cg]] W (BoolNew W) from few19_any (r := r) (cc := cc) (cg := cg) (h.foot.later hW) h.fine)
  have R1 := Lib.hid (fun (W : World) (hW : New w W) => show Calls Try.prog 20 #[.agg #[.slice Ac L.length cc, .int .i64 r, .slice Ag G.length cg]] W (NewPost (.bool (rightF (footP L r G))) W) from rfright_any (r := r) (cc := cc) (cg := cg) (h.foot.later hW) h.stat h.row8)
  have F1 := Lib.hid (fun (W : World) (hW : New w W) => show Calls Try.prog 21 #[.agg #[.slice Aq Q.length cq, .int .i64 p, .int .i64 p], .agg #[.slice Ac L.length cc, .int .i64 r, .slice Ag G.length cg]] W (NewPost (.bool (qfits Q p p L.length r)) W) from rqfits_any (A1 := Ac) (n1 := L.length) (c1 := cc) (rows := r) (A2 := Ag) (n2 := G.length) (c2 := cg) (c := cq) (f := p) (t := p) (Reads.later h.cols hW) (by have := h.fewq; omega))
  have G1 := Lib.hid (fun (W : World) (hW : New w W) => show Calls Try.prog 11 #[.agg #[.slice Ac L.length cc, .int .i64 r, .slice Ag G.length cg], .agg #[.slice Aq Q.length cq, .int .i64 p, .int .i64 p]] W (NewPost (.tuple #[.int .i64 0, .int .i64 0]) W) from by
    have := pgroups_any (f := p) (t := p) (h.later hW)
    rw [groups_none] at this
    exact this)
  have P1 := Lib.hid (fun (W : World) (hW : New w W) => show Calls Try.prog 14 #[.agg #[.slice Ac L.length cc, .int .i64 r, .slice Ag G.length cg], .agg #[.slice Aq Q.length cq, .int .i64 p, .int .i64 p]] W (PartsPost [] W) from by
    have := pparts_any (f := p) (t := p) (h.later hW)
    rw [parts_none] at this
    exact this)
  have D1 := fun (W : World) (hW : New w W) (e : rightF (footP L r G) = true) (e2 : qfits Q p p L.length r = true) => show Calls Try.prog 16 #[.agg #[.slice Ac L.length cc, .int .i64 r, .slice Ag G.length cg], .agg #[.slice Aq Q.length cq, .int .i64 p, .int .i64 p]] W (NewPost (.int .i64 (if G.length = 0 then 0 else 1)) W) from by
    have hok : okQ (footP L r G) Q p p = true := by
      unfold okQ
      rw [e]
      exact e2
    have := pdigests_any (f := p) (t := p) (h.later hW)
    have hl : (footP L r G).groups.length = G.length := by unfold footP; simp
    have hd := digests_none hok
    rw [hl] at hd
    rw [hok, hd] at this
    exact this
  have Y1 := fun (W : World) (hW : New w W) (e : rightF (footP L r G) = true) (e2 : qfits Q p p L.length r = true) => show Calls Try.prog 18 #[.agg #[.slice Ac L.length cc, .int .i64 r, .slice Ag G.length cg], .agg #[.slice Aq Q.length cq, .int .i64 p, .int .i64 p]] W (NewPost (.int .i64 0) W) from by
    have hok : okQ (footP L r G) Q p p = true := by
      unfold okQ
      rw [e]
      exact e2
    have := pbytes_any (f := p) (t := p) (h.later hW)
    rw [hok] at this
    unfold bytesQ at this
    rw [if_pos rfl, bytes_none] at this
    exact this
  have hfewq := h.fewq
  have hfewG := h.fewG
  clear h
  have HD := Lib.hid D1
  have HY := Lib.hid Y1
  clear D1 Y1
  generalize rightF (footP L r G) = M at *
  generalize qfits Q p p L.length r = N at *
  have B0 := Blk.new w 25 #[.slice Ac L.length cc, .int .i64 r, .slice Ag G.length cg]
  have b0 : New w (w.alloc (.cells #[.slice Ac L.length cc, .int .i64 r, .slice Ag G.length cg] 25)) := (Below.refl _ _).alloc (Nat.le_refl _) _
  go_enter Try.func8, Try.ntmps8
  go_wp2_with fail
  refine (small25_any _).mono ?_
  rintro e w1 ⟨rfl, b1⟩
  have B0 := B0.below b1 B0.lt
  have b01 := New.trans b0 b1
  clear b0 b1
  obtain ⟨x0, x1, x2⟩ := ccells B0
  go_wp2_with fail
  refine (FW.out _ b01).mono ?_
  rintro e w2 ⟨bb, rfl, b2⟩
  have B0 := B0.below b2 B0.lt
  have b02 := New.trans b01 b2
  clear x0 x1 x2 FW b01 b2
  have ba : New w2 (w2.alloc (.cells #[.slice Aq Q.length cq, .int .i64 p, .int .i64 p] 28)) := (Below.refl _ _).alloc (Nat.le_refl _) _
  have B1 := Blk.new w2 28 #[.slice Aq Q.length cq, .int .i64 p, .int .i64 p]
  have B0 := B0.below ba B0.lt
  have b03 := New.trans b02 ba
  clear b02 ba
  obtain ⟨x0, x1, x2⟩ := ccells B0
  cases bb with
  | false =>
    go_wp2
    go_ret
    exact ⟨rfl, b03⟩
  | true =>
    by_cases hq : (100 : Int) < (Q.length : Int)
    · go_wp2
      go_ret
      exact ⟨rfl, b03⟩
    · go_wp2_with fail
      refine (R1.out _ b03).mono ?_
      rintro e w3 ⟨rfl, b3⟩
      have B0 := B0.below b3 B0.lt
      have B1 := B1.below b3 B1.lt
      have b04 := New.trans b03 b3
      clear x0 x1 x2 R1 b03 b3
      cases M with
      | false =>
        go_wp2
        go_ret
        exact ⟨rfl, b04⟩
      | true =>
        have HD1 := Lib.hid (fun W hW => HD.out W hW (by trivial))
        have HY1 := Lib.hid (fun W hW => HY.out W hW (by trivial))
        clear HD HY
        obtain ⟨x0, x1, x2⟩ := ccells B0
        obtain ⟨y0, y1, y2⟩ := ccells B1
        go_wp2_with fail
        refine (F1.out _ b04).mono ?_
        rintro e w4 ⟨rfl, b4⟩
        have B0 := B0.below b4 B0.lt
        have B1 := B1.below b4 B1.lt
        have b05 := New.trans b04 b4
        clear x0 x1 x2 y0 y1 y2 F1 b04 b4
        cases N with
        | false =>
          go_wp2
          go_ret
          exact ⟨rfl, b05⟩
        | true =>
          have HD2 := Lib.hid (fun W hW => HD1.out W hW (by trivial))
          have HY2 := Lib.hid (fun W hW => HY1.out W hW (by trivial))
          clear HD1 HY1
          obtain ⟨x0, x1, x2⟩ := ccells B0
          obtain ⟨y0, y1, y2⟩ := ccells B1
          go_wp2_with fail
          refine (G1.out _ b05).mono ?_
          rintro e w5 ⟨rfl, b5⟩
          have B0 := B0.below b5 B0.lt
          have B1 := B1.below b5 B1.lt
          have b06 := New.trans b05 b5
          clear x0 x1 x2 y0 y1 y2 G1 b05 b5
          obtain ⟨x0, x1, x2⟩ := ccells B0
          obtain ⟨y0, y1, y2⟩ := ccells B1
          obtain ⟨n, hn, hn2⟩ : ∃ n : Int, n = (if G.length = 0 then 0 else 1) ∧ ((G.length = 0 ∧ n = 0) ∨ (G.length ≠ 0 ∧ n = 1)) := ⟨_, rfl, by by_cases e : G.length = 0 <;> simp [e]⟩
          rw [← hn] at HD2
          clear hn
          have HN := Lib.hid hn2
          clear hn2
          go_wp2_with fail
          refine (HD2.out _ b06).mono ?_
          rintro e w6 ⟨rfl, b6⟩
          have B0 := B0.below b6 B0.lt
          have B1 := B1.below b6 B1.lt
          have b07 := New.trans b06 b6
          clear x0 x1 x2 y0 y1 y2 HD2 b06 b6
          obtain ⟨x0, x1, x2⟩ := ccells B0
          obtain ⟨y0, y1, y2⟩ := ccells B1
          go_wp2_with fail
          refine (P1.out _ b07).mono ?_
          rintro e w7 ⟨A7, n7, c7, rfl, hn7, -, b7⟩
          subst hn7
          have B0 := B0.below b7 B0.lt
          have B1 := B1.below b7 B1.lt
          have b08 := New.trans b07 b7
          clear x0 x1 x2 y0 y1 y2 P1 b07 b7
          obtain ⟨x0, x1, x2⟩ := ccells B0
          obtain ⟨y0, y1, y2⟩ := ccells B1
          go_wp2_with fail
          refine (HY2.out _ b08).mono ?_
          rintro e w8 ⟨rfl, b8⟩
          have B0 := B0.below b8 B0.lt
          have b09 := New.trans b08 b8
          clear x0 x1 x2 y0 y1 y2 HY2 b08 b8 B1
          obtain ⟨x0, x1, x2⟩ := ccells B0
          rcases HN.out with ⟨g0, rfl⟩ | ⟨g0, rfl⟩
          · have e0 : ((G.length : Int) == 0) = true := by rw [g0]; rfl
            have G0 := Lib.hid g0
            clear g0 HN
            go_wp2
            go_ret
            exact ⟨by simp, b09⟩
          · have e0 : ((G.length : Int) == 0) = false := by rw [beq_eq_false_iff_ne]; omega
            have e1 : 0 < G.length := by omega
            have e2 : (0 : Int) < (G.length : Int) := by omega
            clear g0 HN
            go_wp2
            go_ret
            exact ⟨by simp, b09⟩
end

set_option maxRecDepth 100000 in
open Go.WideShapes Go.ChangeShapes in
theorem pickNone_contract {H : Type} {enc : TypeId × Value → H} (W : World) (base : Nat) (args : Array Value) (ds : List (DataW H)) (ps : List MemPlace)
    (hval : ∀ (j : Nat) t v, Try.f8.params[j]? = some t → args[j]? = some v → Value.okWide Try.prog W .any base t v)
    (hA : DataW.TrodAll enc Try.prog W 0 (fun _ => true) true Try.f8.params.toList args.toList ds ps) (hlt : ∀ p ∈ ps, p.block < W.heap.size)
    (hsz : (DataW.weightsEach Try.prog Try.f8.params.toList ds).all (· ≤ reachBytes) = true) :
    Calls Try.prog 8 args W fun e W' => e = .returned (.bool true) ∧ Below W.heap.size W W' := by
  rw [Try.params8] at hA hval hsz
  obtain ⟨v0, v1, v2, d0, d1, d2, p0, p1, p2, rfl, rfl, rfl, h0, h1, h2⟩ := trodAll_three hA
  -- t: v0 d0 p0 h0, hval 0
  obtain ⟨A_cols, c_cols, cols, rfl, hc_cols, hm_cols, hr_cols, hl_cols⟩ := open_I (hval 1 _ _ rfl rfl) h1 (fun p hp => hlt p (by simp [hp])) (sized_at hsz (j := 1) rfl rfl)
  obtain ⟨p, rfl, wp, wp'⟩ := open_i64 (hval 2 _ _ rfl rfl) h2
  obtain ⟨Ac, cc, L, r, Ag, cg, G, rfl, hF, hcg, hr, _, hG, hfew, hcap⟩ := open_Fo2 (hval 0 _ _ rfl rfl) h0 (fun p hp => hlt p (by simp [hp])) (sized_at hsz (j := 0) rfl rfl)
  exact pickNone_walk ⟨hF, hcg, hfew, hr, fun g hg => (hG g hg).1, fun g hg => (hG g hg).2, hcap, hr_cols, hc_cols, by omega, hl_cols⟩

end Go.Proofs.Ythmjbdpkdomofaa
