/- ProofJoins returns true whatever comes in, and leaves all that was there as it was. -/
import Derived.Test.YtgfemjpeegbhhaaDoorBun9

namespace Go.Proofs.YtgfemjpeegbhhaaDoor
open Go.RowKit Go.Hm
set_option maxHeartbeats 8000000 in
set_option maxRecDepth 100000 in
theorem proofJoins_walk {w : World} {A : Option Addr} {c : Nat} {L : List (List Nat)} (f t : Int) (hR : Reads w w.heap.size 32 A L.length (recs digC L)) (hD : Digs L) (hc : L.length ≤ c) (hcm : c ≤ 9223372036854775807) (hC : ConstIn w) :
    Calls Tryd.prog 10 #[.slice A L.length c, .int .i64 f, .int .i64 t] w (SmallPost w) := by
  have SM := Lib.hid (small22_any w hC)
  have DI := Lib.hid (fun (W : World) => show DigsIn w W A L from DigsIn.arg hD hR)
  have HC := Lib.hid hC
  clear hR hC
  go_enter Tryd.func10, Tryd.ntmps10
  go_wp2_with fail
  refine SM.out.mono ?_
  rintro e w1 ⟨rfl, b1⟩
  have B1 := Lib.hid b1
  clear SM b1
  go_wp2_with fail
  refine new_any.mono ?_
  rintro e w2 ⟨rfl, rfl⟩
  have l1 := LogOf.made w1 w.heap.size
  obtain ⟨w3, hw3⟩ : ∃ W, W = w1.alloc (.cells #[.slice none 0 0] 62) := ⟨_, rfl⟩
  have b3 : New w w3 := by rw [hw3]; exact New.trans B1.out (new_alloc2 _ _)
  rw [← hw3] at l1
  rw [← hw3]
  have hgw : w.heap.size ≤ w1.heap.size := B1.out.size
  generalize w1.heap.size = g at *
  have B3 := Lib.hid b3
  have S3 := Lib.hid (show LogN w g 0 w3 from ⟨[], ⟨_, l1, b3⟩, Nat.le_refl _⟩)
  clear hw3 B1 b3 l1
  by_cases a1 : 60 < L.length
  · have d1 : decide ((60 : Int) < (L.length : Int)) = true := decide_eq_true (by omega)
    go_wp2
    go_ret
    exact ⟨rfl, B3.out⟩
  have d1 : decide ((60 : Int) < (L.length : Int)) = false := decide_eq_false (by omega)
  by_cases a2 : f < 0
  · have d2 : decide (f < 0) = true := decide_eq_true a2
    go_wp2
    go_ret
    exact ⟨rfl, B3.out⟩
  have d2 : decide (f < 0) = false := decide_eq_false a2
  by_cases a3 : t < f
  · have d3 : decide (t < f) = true := decide_eq_true a3
    go_wp2
    go_ret
    exact ⟨rfl, B3.out⟩
  have d3 : decide (t < f) = false := decide_eq_false a3
  by_cases a4 : (L.length : Int) < t
  · have d4 : decide ((L.length : Int) < t) = true := decide_eq_true a4
    go_wp2
    go_ret
    exact ⟨rfl, B3.out⟩
  obtain ⟨f, rfl⟩ : ∃ m : Nat, f = (m : Int) := ⟨f.toNat, by omega⟩
  obtain ⟨t, rfl⟩ : ∃ m : Nat, t = (m : Int) := ⟨t.toNat, by omega⟩
  have d4 : decide (L.length < t) = false := decide_eq_false (by omega)
  have d3 : decide (t < f) = false := decide_eq_false (by omega)
  have h1 : f ≤ t := by omega
  have h2 : t ≤ L.length := by omega
  have h3 : L.length ≤ 65536 := by omega
  obtain ⟨jb1, jb2⟩ := join_back h1 h2 h3
  have hpl : (provP L (f : Int) (t : Int)).length = cnt (evs f t 0 L.length) := by rw [(provP_fit h1 h2 h3).1, prD_len]
  have ND := fun W => need_any (L.length : Nat) (f : Int) (t : Int) W (by omega) (by omega)
  rw [needI_fit h1 h2 h3, ← hpl] at ND
  have ND := Lib.hid ND
  have PV := Lib.hid (prove_n hgw HC.out S3.out (f : Int) (t : Int) (DI.out w3) hc hcm (by omega))
  have hls : (sl L f t).length = t - f := sl_len h2
  obtain ⟨cr, er, ir, zr, or_, -⟩ := dV_agg (rootD_dig L hD)
  have JN := Lib.hid (fun (W : World) (A1 : Option Addr) (c1 : Nat) (hs : LogN w g (0 + L.length) W) (d1 : DigsIn w W A1 (provP L (f : Int) (t : Int))) (h4 : (provP L (f : Int) (t : Int)).length ≤ c1) (h5 : c1 ≤ 9223372036854775807) => show Calls Tryd.prog 34 #[.pointer (some ⟨g, 0, none⟩), .int .i64 (L.length : Int), .int .i64 (f : Int), .slice (if c = f then A else A.map (·.add (f * 32))) (t - f) (c - f), .slice A1 (provP L (f : Int) (t : Int)).length c1] W (NPost (.tuple #[.agg cr, .bool true]) w g (0 + L.length + (2 * L.length + 1)) W) from by
    have := join_n hgw HC.out hs L.length (f : Int) (c := c - f) (P := sl L f t) ((DI.out W).sl (lo := f) (hi := t) (c := c) h1 h2 hc) (by omega) (by omega) d1 h4 h5 (by omega) (by omega) (by omega) (v := .agg cr) (b := true) ((congrArg dV jb2).trans er) jb1
    rwa [hls] at this)
  have RT := Lib.hid (fun (W : World) (hs : LogN w g (0 + L.length + (2 * L.length + 1)) W) => root_n hgw HC.out hs (DI.out W) hc hcm (by omega) er)
  have SL := fun W => dslice_lh A L.length c f t h1 (by omega) W
  have EQ := fun W => eqDV (rootD_dig L hD) (rootD_dig L hD) W
  rw [er, decide_eq_true rfl] at EQ
  have HEQ := Lib.hid EQ
  have IR := Lib.hid ir
  have ZR := Lib.hid zr
  have OR := Lib.hid or_
  obtain ⟨AS, hAS⟩ : ∃ X, X = (if c = f then A else A.map (·.add (f * 32))) := ⟨_, rfl⟩
  rw [← hAS] at JN
  simp only [← hAS] at SL
  clear hAS
  generalize hP : provP L (f : Int) (t : Int) = P at *
  clear EQ er ir zr or_ jb1 jb2 hP hpl hls a1 a2 a3 a4 hD
  go_wp2_with fail
  (with_reducible refine PV.out.mono ?_)
  rintro e w4 ⟨A1, c1, rfl, e1, e2, i4, s4, k4⟩
  have J4 := Lib.hid (JN.out w4 A1 c1 s4 i4 e1 e2)
  clear i4 s4 k4 PV JN e1
  obtain ⟨n1, hn1⟩ : ∃ n, n = P.length := ⟨_, rfl⟩
  rw [← hn1] at J4 ND ⊢
  clear hn1
  go_wp2_with (refine wpList_slice rfl 23 (.tmp 51) (some (.tmp 52)) (some (.tmp 53)) none rfl (SL _) ?_)
  (with_reducible refine J4.out.mono ?_)
  rintro e w5 ⟨rfl, s5, k5⟩
  have n5 := new_alloc2 w5 (.cells cr tD)
  have S6 := Lib.hid (s5.new n5)
  have G6 := Lib.hid (Blk.new w5 tD cr)
  clear s5 k5 n5 J4 SL
  go_upto_region 7 with (refine wpList_store_row rfl 32 (.tmp 10) (.tmp 57) rfl w5.heap.size cr rfl rfl _ _ (heap_alloc_new _ _) IR.out ZR.out OR.out ?_; rw [alloc_setRow])
  obtain ⟨w6, hw6⟩ : ∃ W, W = w5.alloc (.cells cr 32) := ⟨_, rfl⟩
  rw [← hw6] at S6 G6 ⊢
  generalize w5.heap.size = b10 at *
  clear hw6
  have FG := Lib.hid (fun (W : World) (k : KeepB w w6 W) => k.1.2 _ _ _ (by decide) (by decide) G6.out)
  have DK : (Tryd.prog).eqGuardType (Tryd.prog).depth 32 = false := by kernel_rfl
  have DK := Lib.hid DK
  refine wp_region_up (KeepB w) [(true, 0), (true, 1), (true, 2), (true, 3), (true, 4), (true, 5), (true, 6), (true, 7), (false, 8), (true, 9), (true, 10), (true, 11), (true, 12), (true, 13), (true, 14), (true, 15), (true, 16), (true, 17), (false, 18), (true, 19), (true, 20), (true, 21)]
    (KeepB.refl w) KeepB.trans (by kernel_rfl) (by kernel_rfl) (by kernel_rfl) (by kernel_rfl) ?_
  have hT := KeepB.new S6.out.news (New.drew w6)
  have hS := S6.out.new (New.drew w6)
  obtain ⟨u0, hu0⟩ : ∃ W, W = w6.drew := ⟨_, rfl⟩
  rw [← hu0] at hT hS ⊢
  clear hu0
  iterate 8 (
    refine up_quiet rfl rfl (v := ?_) (fun W hW => ?_) ?_
    rotate_left
    · go_simp <;> with_reducible rfl
    simp only [Act.put, List.setIfInBounds_toArray, List.set_cons_zero, List.set_cons_succ])
  refine up_call rfl rfl (fun K hK => ?_)
  go_simp
  (with_reducible refine (ND.out _).mono ?_)
  rintro e u1 ⟨rfl, b'⟩
  have kb := KeepB.new hS.news b'
  refine hK _ _ kb ?_
  clear hK
  replace hT := hT.trans kb
  replace hS := hS.new b'
  clear kb b'
  refine up_quiet rfl rfl (v := .bool true) (fun W hW => by go_simp) ?_
  simp only [Act.put, List.setIfInBounds_toArray, List.set_cons_zero, List.set_cons_succ]
  iterate 5 (
    refine up_quiet rfl rfl (v := ?_) (fun W hW => ?_) ?_
    rotate_left
    · go_simp <;> with_reducible rfl
    simp only [Act.put, List.setIfInBounds_toArray, List.set_cons_zero, List.set_cons_succ])
  refine up_quiet rfl rfl (v := .agg cr) (fun W hW => exec_load_row rfl (FG.out W (hT.trans hW)) digarr rfl IR.out) ?_
  simp only [Act.put, List.setIfInBounds_toArray, List.set_cons_zero, List.set_cons_succ]
  iterate 2 (
    refine up_quiet rfl rfl (v := ?_) (fun W hW => ?_) ?_
    rotate_left
    · go_simp <;> with_reducible rfl
    simp only [Act.put, List.setIfInBounds_toArray, List.set_cons_zero, List.set_cons_succ])
  refine up_call rfl rfl (fun K hK => ?_)
  go_simp
  (with_reducible refine (RT.out _ hS).mono ?_)
  rintro e u2 ⟨rfl, s', k'⟩
  have kb := KeepB.log hS.news s'.news k'
  refine hK _ _ kb ?_
  clear hK
  replace hT := hT.trans kb
  replace hS := s'
  clear kb k'
  refine up_quiet rfl rfl (v := .bool true) (fun W hW => exec_agg rfl rfl DK.out (HEQ.out W)) ?_
  simp only [Act.put, List.setIfInBounds_toArray, List.set_cons_zero, List.set_cons_succ]
  iterate 2 (
    refine up_quiet rfl rfl (v := ?_) (fun W hW => ?_) ?_
    rotate_left
    · go_simp <;> with_reducible rfl
    simp only [Act.put, List.setIfInBounds_toArray, List.set_cons_zero, List.set_cons_succ])
  refine up_nil ?_
  have BE := Lib.hid hS.news
  go_wp2
  go_ret
  exact ⟨rfl, BE.out⟩

set_option maxRecDepth 100000 in
open Go.WideShapes Go.ChangeShapes in
theorem proofJoins_contract {H : Type} {enc : TypeId × Value → H} (W : World) (base : Nat) (args : Array Value) (ds : List (DataW H)) (ps : List MemPlace)
    (hval : ∀ (j : Nat) t v, Tryd.f10.params[j]? = some t → args[j]? = some v → Value.okWide Tryd.prog W .any base t v)
    (hA : DataW.TrodAll enc Tryd.prog W 0 (fun _ => true) true Tryd.f10.params.toList args.toList ds ps) (hlt : ∀ p ∈ ps, p.block < W.heap.size)
    (hsz : (DataW.weightsEach Tryd.prog Tryd.f10.params.toList ds).all (· ≤ reachBytes) = true) (hL : laidMetH Tryd.prog laidC W) :
    Calls Tryd.prog 10 args W fun e W' => e = .returned (.bool true) ∧ Below W.heap.size W W' := by
  rw [Tryd.params10] at hA hval hsz
  obtain ⟨v0, v1, v2, d0, d1, d2, p0, p1, p2, rfl, rfl, rfl, h0, h1, h2⟩ := trodAll_three hA
  -- leaves: v0 d0 p0 h0, hval 0
  obtain ⟨lo, rfl, wlo, wlo'⟩ := open_i64 (hval 1 _ _ rfl rfl) h1
  obtain ⟨hi, rfl, whi, whi'⟩ := open_i64 (hval 2 _ _ rfl rfl) h2
  have _ := wlo
  have _ := wlo'
  have _ := whi
  have _ := whi'
  obtain ⟨A_l, c_l, L_l, rfl, hr, hd, hc, hm⟩ := open_Ds (hval 0 _ _ rfl rfl) h0 (fun p hp => hlt p (by simp [hp])) (sized_at hsz (j := 0) rfl rfl)
  exact proofJoins_walk lo hi hr hd hc hm (const_of_laid hL)

end Go.Proofs.YtgfemjpeegbhhaaDoor
