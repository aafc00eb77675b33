/- TreeRoots returns true whatever comes in, and leaves all that was there as it was. -/
import Derived.Test.YtgfemjpeegbhhaaDoorBun7

namespace Go.Proofs.YtgfemjpeegbhhaaDoor
open Go.RowKit Go.Hm
set_option maxHeartbeats 8000000 in
set_option maxRecDepth 100000 in
theorem treeRoots_walk {w : World} {A B : Option Addr} {c e : Nat} {s d : List Nat} {L : List (List Nat)} {k n : Int} (hs8 : ∀ z ∈ s, z < 256) (hsl : s.length ≤ 140737488351232)
    (hx : Reads w w.heap.size 1 A d.length (nums .u8 d)) (hx8 : ∀ z ∈ d, z < 256) (hxc : d.length ≤ c) (hcm : c ≤ 140737488351232) (hR : Reads w w.heap.size 32 B L.length (recs digC L)) (hD : Digs L) (hec : L.length ≤ e) (hem : e ≤ 9223372036854775807) (hC : ConstIn w) :
    Calls Tryd.prog 3 #[.string (bstr s), .int .i64 k, .int .i64 n, .slice A d.length c, .slice B L.length e] w (SmallPost w) := by
  have SM := Lib.hid (small21_any w hC)
  have HX := Lib.hid hx
  have HR := Lib.hid hR
  have HD := Lib.hid hD
  have HC := Lib.hid hC
  have S8 := Lib.hid hs8
  have X8 := Lib.hid hx8
  have z1 := bstr_size s
  clear hx hR hD hC hs8 hx8
  go_enter Tryd.func3, Tryd.ntmps3
  go_wp2_with fail
  refine SM.out.mono ?_
  rintro e0 w1 ⟨rfl, b1⟩
  have B1 := Lib.hid b1
  clear SM b1
  go_wp2_with fail
  refine new_any.mono ?_
  rintro e0 w2 ⟨rfl, rfl⟩
  have l1 := LogOf.made w1 w.heap.size
  obtain ⟨w3, hw3⟩ : ∃ W, W = w1.alloc (.cells #[.slice none 0 0] 62) := ⟨_, rfl⟩
  have b3 : New w w3 := by rw [hw3]; exact New.trans B1.out (new_alloc2 _ _)
  rw [← hw3] at l1
  rw [← hw3]
  have hgw : w.heap.size ≤ w1.heap.size := B1.out.size
  generalize w1.heap.size = g at *
  have B3 := Lib.hid b3
  have L1 := Lib.hid l1
  clear hw3 B1 b3 l1
  obtain ⟨S, hS⟩ : ∃ S, S = bstr s := ⟨_, rfl⟩
  have HS := Lib.hid hS
  rw [← hS] at z1 ⊢
  obtain ⟨p, hp⟩ : ∃ p, p = s.length := ⟨_, rfl⟩
  have HP := Lib.hid hp
  rw [← hp] at z1 hsl
  clear hS hp
  by_cases a1 : 300 < p
  · have e1 : decide ((300 : Int) < (p : Int)) = true := by simp; omega
    go_wp2
    go_ret
    exact ⟨rfl, B3.out⟩
  have e1 : decide ((300 : Int) < (p : Int)) = false := by simp; omega
  by_cases a2 : 500 < d.length
  · have e2 : decide ((500 : Int) < (d.length : Int)) = true := by simp; omega
    go_wp2
    go_ret
    exact ⟨rfl, B3.out⟩
  have e2 : decide ((500 : Int) < (d.length : Int)) = false := by simp; omega
  by_cases a3 : 40 < L.length
  · have e3 : decide ((40 : Int) < (L.length : Int)) = true := by simp; omega
    go_wp2
    go_ret
    exact ⟨rfl, B3.out⟩
  have e3 : decide ((40 : Int) < (L.length : Int)) = false := by simp; omega
  have hgl := L1.out.lt
  obtain ⟨h, hh⟩ : ∃ h, h = w3.heap.size := ⟨_, rfl⟩
  have hhw : w.heap.size ≤ h := by rw [hh]; exact B3.out.size
  have S4 := Lib.hid (show Log2 w g h (w3.alloc (.cells #[.slice none 0 0] 30)) [] [] [] from by
    rw [hh]
    exact ⟨_, _, L1.out.new (new_alloc2 _ _), ⟨none, 0, 0, [], rfl, Blk.new _ _ _, Own.nil_, (fun _ hd => nomatch hd), rfl⟩, by simp [rowT, Value.ownBlock], New.trans B3.out (new_alloc2 _ _), by simp⟩)
  have HH := Lib.hid hh
  clear hh
  obtain ⟨fl, hfl⟩ : ∃ fl, fl = (frameO s (leafP k n d)).toList := ⟨_, rfl⟩
  have hfn : fl.length ≤ 1 := by rw [hfl]; cases frameO s (leafP k n d) <;> simp
  have hfg : GoodF fl := by
    rw [hfl]
    have := GoodF.add (F := []) (o := frameO s (leafP k n d)) (fun _ h => nomatch h) (fun f hf => ⟨frameO_lt S8.out (leafP_lt X8.out) hf, frameO_len hf (by simp [tsum, leafP, low_len]; omega)⟩)
    simpa using this
  have hx := hashN_dig s (leafP k n d)
  have KL := Lib.hid (fun (W : World) (F F' : List (List Nat)) (K : List (Nat × Array Value)) (l : Log2 w g h W F F' K) (hF : F.length ≤ 1000) => by
    have := leaf_2L (k := k) (n := n) hgw HC.out l S8.out (by rw [← HP.out]; omega) HX.out X8.out (by omega) hxc (by omega) (by omega)
    rwa [← hfl, ← HS.out] at this)
  have KR := Lib.hid (fun (W : World) (F F' : List (List Nat)) (K : List (Nat × Array Value)) (l : Log2 w g h W F F' K) (hF : F'.length ≤ 1000) => by
    have := leaf_2R (k := k) (n := n) hhw l S8.out (by rw [← HP.out]; omega) HX.out X8.out (by omega) hxc (by omega) (by omega)
    rwa [← hfl, ← HS.out] at this)
  clear hfl
  generalize hashN s (leafP k n d) = x at *
  have NL := Lib.hid (fun (W : World) (F F' : List (List Nat)) (K : List (Nat × Array Value)) (l : Log2 w g h W F F' K) (hF : F.length ≤ 1000) => node_2L hgw HC.out l hx hx (by omega))
  have NR := Lib.hid (fun (W : World) (F F' : List (List Nat)) (K : List (Nat × Array Value)) (l : Log2 w g h W F F' K) (hF : F'.length ≤ 1000) => node_2R hhw l hx hx (by omega))
  have RL := Lib.hid (fun (W : World) (F F' : List (List Nat)) (K : List (Nat × Array Value)) (l : Log2 w g h W F F' K) (hF : F.length ≤ 1000) => root_2L hgw HC.out l HR.out HD.out hec hem (by omega))
  have RR := Lib.hid (fun (W : World) (F F' : List (List Nat)) (K : List (Nat × Array Value)) (l : Log2 w g h W F F' K) (hF : F'.length ≤ 1000) => root_2R hhw l HR.out HD.out hec hem (by omega))
  have hy := hashN_dig nodeTag [x, x]
  have hz := rootD_dig L HD.out
  have hrn := rootD_few HD.out
  have hrg := rootD_good HD.out
  have hfr : GoodF [frameL nodeTag [x, x]] := fun f hf => by
    obtain rfl := List.mem_singleton.1 hf
    exact node_good hx hx _ frame_node
  generalize frameL nodeTag [x, x] = fx at *
  generalize (rootD L).2 = fr at *
  generalize hashN nodeTag [x, x] = y at *
  generalize (rootD L).1 = z at *
  have GF := Lib.hid (GoodF.app (GoodF.app hfg hfr) hrg)
  have HN := Lib.hid (And.intro hfn hrn)
  obtain ⟨ca, ea, ia, za, oa, -⟩ := dV_agg hx
  obtain ⟨cc, ec, ic, zc, oc, -⟩ := dV_agg hy
  obtain ⟨ce, ee, ie, ze, oe, -⟩ := dV_agg hz
  have EA := fun W => eqDV hx hx W
  have EC := fun W => eqDV hy hy W
  have EE := fun W => eqDV hz hz W
  rw [ea, decide_eq_true rfl] at EA
  rw [ec, decide_eq_true rfl] at EC
  rw [ee, decide_eq_true rfl] at EE
  rw [ea] at KL KR NL NR
  rw [ec] at NL NR
  rw [ee] at RL RR
  replace EA := Lib.hid EA
  replace EC := Lib.hid EC
  replace EE := Lib.hid EE
  have Ica := Lib.hid ia
  have Zca := Lib.hid za
  have Oca := Lib.hid oa
  have Icc := Lib.hid ic
  have Zcc := Lib.hid zc
  have Occ := Lib.hid oc
  have Ice := Lib.hid ie
  have Zce := Lib.hid ze
  have Oce := Lib.hid oe
  clear hx hy hz ea ec ee ia ic ie za zc ze oa oc oe hfg hfr hrg L1 hgl HX HR X8 S8 hfn hrn
  have hh := HH.out
  go_wp2_with fail
  rw [← hh]
  clear hh
  (with_reducible refine (KL.out _ _ _ _ S4.out (by simp)).mono ?_)
  rintro e0 w5 ⟨rfl, s5⟩
  have S5 := Lib.hid s5
  clear s5
  go_wp2_with (first
    | (refine wpList_store_row rfl 32 (.tmp 14) (.tmp 51) rfl w5.heap.size ca rfl rfl _ _ (heap_alloc_new _ _) Ica.out Zca.out Oca.out ?_; rw [alloc_setRow])
    | fail)
  obtain ⟨w6, hw6⟩ : ∃ W, W = w5.alloc (.cells ca 32) := ⟨_, rfl⟩
  have S6 := Lib.hid (S5.out.add ca)
  rw [← hw6] at S6 ⊢
  generalize w5.heap.size = ba at *
  clear hw6
  (with_reducible refine (KR.out _ _ _ _ S6.out (by simp)).mono ?_)
  rintro e0 w7 ⟨rfl, s7⟩
  have S7 := Lib.hid (s7.add ca)
  have X14 := Lib.hid (S7.out.blk (b := ba) (cs := ca) (by simp))
  have X15 := Lib.hid (S7.out.blk (b := w7.heap.size) (cs := ca) (by simp))
  clear s7
  go_wp2_with (first
    | (refine wpList_store_row rfl 32 (.tmp 15) (.tmp 57) rfl w7.heap.size ca rfl rfl _ _ (heap_alloc_new _ _) Ica.out Zca.out Oca.out ?_; rw [alloc_setRow])
    | (refine wpList_loadD rfl (.tmp 14) rfl ba ca rfl X14.out Ica.out ?_)
    | (refine wpList_loadD rfl (.tmp 15) rfl w7.heap.size ca rfl X15.out Ica.out ?_)
    | fail)
  obtain ⟨w8, hw8⟩ : ∃ W, W = w7.alloc (.cells ca 32) := ⟨_, rfl⟩
  rw [← hw8] at S7 ⊢
  generalize w7.heap.size = bb at *
  clear hw8 X14 X15
  (with_reducible refine (NL.out _ _ _ _ S7.out (by have := HN.out; simp; omega)).mono ?_)
  rintro e0 w9 ⟨rfl, s9⟩
  have S9 := Lib.hid (s9.add cc)
  have X15 := Lib.hid (S9.out.blk (b := bb) (cs := ca) (by simp))
  have X14 := Lib.hid (S9.out.blk (b := ba) (cs := ca) (by simp))
  clear s9
  go_wp2_with (first
    | (refine wpList_store_row rfl 32 (.tmp 16) (.tmp 61) rfl w9.heap.size cc rfl rfl _ _ (heap_alloc_new _ _) Icc.out Zcc.out Occ.out ?_; rw [alloc_setRow])
    | (refine wpList_loadD rfl (.tmp 15) rfl bb ca rfl X15.out Ica.out ?_)
    | (refine wpList_loadD rfl (.tmp 14) rfl ba ca rfl X14.out Ica.out ?_)
    | fail)
  obtain ⟨w10, hw10⟩ : ∃ W, W = w9.alloc (.cells cc 32) := ⟨_, rfl⟩
  rw [← hw10] at S9 ⊢
  generalize w9.heap.size = bc at *
  clear hw10 X15 X14
  (with_reducible refine (NR.out _ _ _ _ S9.out (by have := HN.out; simp; omega)).mono ?_)
  rintro e0 w11 ⟨rfl, s11⟩
  have S11 := Lib.hid (s11.add cc)
  clear s11
  go_wp2_with (first
    | (refine wpList_store_row rfl 32 (.tmp 17) (.tmp 65) rfl w11.heap.size cc rfl rfl _ _ (heap_alloc_new _ _) Icc.out Zcc.out Occ.out ?_; rw [alloc_setRow])
    | fail)
  obtain ⟨w12, hw12⟩ : ∃ W, W = w11.alloc (.cells cc 32) := ⟨_, rfl⟩
  rw [← hw12] at S11 ⊢
  generalize w11.heap.size = bd at *
  clear hw12 
  (with_reducible refine (RL.out _ _ _ _ S11.out (by have := HN.out; simp; omega)).mono ?_)
  rintro e0 w13 ⟨rfl, s13⟩
  have S13 := Lib.hid (s13.add ce)
  clear s13
  go_wp2_with (first
    | (refine wpList_store_row rfl 32 (.tmp 18) (.tmp 68) rfl w13.heap.size ce rfl rfl _ _ (heap_alloc_new _ _) Ice.out Zce.out Oce.out ?_; rw [alloc_setRow])
    | fail)
  obtain ⟨w14, hw14⟩ : ∃ W, W = w13.alloc (.cells ce 32) := ⟨_, rfl⟩
  rw [← hw14] at S13 ⊢
  generalize w13.heap.size = be at *
  clear hw14 
  (with_reducible refine (RR.out _ _ _ _ S13.out (by have := HN.out; simp; omega)).mono ?_)
  rintro e0 w15 ⟨rfl, s15⟩
  have S15 := Lib.hid (s15.add ce)
  clear s15
  go_wp2_with (first
    | (refine wpList_store_row rfl 32 (.tmp 19) (.tmp 71) rfl w15.heap.size ce rfl rfl _ _ (heap_alloc_new _ _) Ice.out Zce.out Oce.out ?_; rw [alloc_setRow])
    | fail)
  obtain ⟨w16, hw16⟩ : ∃ W, W = w15.alloc (.cells ce 32) := ⟨_, rfl⟩
  rw [← hw16] at S15 ⊢
  generalize w15.heap.size = bf at *
  clear hw16 
  obtain ⟨F, hF⟩ : ∃ F, F = [] ++ fl ++ [fx] ++ fr := ⟨_, rfl⟩
  have GF := Lib.hid (show GoodF F by rw [hF]; simpa using GF.out)
  have hFl : F.length ≤ 1000 := by rw [hF]; have := HN.out; simp; omega
  have S15 := Lib.hid (show Log2 w g h w16 F F _ by rw [hF]; exact S15.out)
  clear hF
  have GA := Lib.hid (S15.out.blk (b := ba) (cs := ca) (by simp))
  have GB := Lib.hid (S15.out.blk (b := bb) (cs := ca) (by simp))
  have GC := Lib.hid (S15.out.blk (b := bc) (cs := cc) (by simp))
  have GD := Lib.hid (S15.out.blk (b := bd) (cs := cc) (by simp))
  have GE := Lib.hid (S15.out.blk (b := be) (cs := ce) (by simp))
  have GG := Lib.hid (S15.out.blk (b := bf) (cs := ce) (by simp))
  obtain ⟨V, l⟩ := S15.out.left
  obtain ⟨V', l'⟩ := S15.out.right
  obtain ⟨Am, cm, Dm, _, RM, hbm, hcm2⟩ := l'.rows
  have hlt' := l'.lt
  have FR := Lib.hid (fun (W : World) (hW : New w16 W) => lframes_any (l.new hW) (by omega) (fun p hp => by have := (GF.out p hp).2; omega))
  have CM := Lib.hid (fun (W : World) (hW : New w16 W) => (Below.cell hW (p := ⟨h, 0, none⟩) hlt').trans hcm2)
  have RMh := Lib.hid RM
  have HBM := Lib.hid hbm
  have B16 := Lib.hid S15.out.news
  obtain ⟨nf, hnf⟩ : ∃ n, n = F.length := ⟨_, rfl⟩
  rw [← hnf] at CM RMh hFl
  have HNF := Lib.hid hnf
  have DK : (Tryd.prog).eqGuardType (Tryd.prog).depth 32 = false := by kernel_rfl
  have DK := Lib.hid DK
  clear l l' RM hbm hcm2 hlt' S15 KL KR NL NR RL RR hnf S13 S11 S9 S7 S6 S5 S4
  go_wp2
  refine wp_region_up New [(true, 0), (true, 1), (true, 2), (true, 3), (true, 4), (true, 5), (true, 6), (true, 7), (true, 8), (true, 9), (true, 10), (true, 11), (true, 12), (true, 13), (true, 14), (true, 15), (true, 16), (true, 17), (true, 19), (true, 20), (true, 21), (true, 22), (false, 18), (false, 23), (true, 24), (true, 25)]
    New.refl New.trans (by kernel_rfl) (by kernel_rfl) (by kernel_rfl) (by kernel_rfl) ?_
  have hU := New.drew w16
  iterate 2 (
    refine up_quiet rfl rfl (v := ?_) (fun W hW => ?_) ?_
    rotate_left
    · go_simp <;> with_reducible rfl
    simp only [Act.put, List.setIfInBounds_toArray, List.set_cons_zero, List.set_cons_succ])
  refine up_quiet rfl rfl (v := .agg ca) (fun W hW => exec_load_row rfl (Blk.below GA.out (New.trans hU hW) GA.out.lt) digarr rfl Ica.out) ?_
  simp only [Act.put, List.setIfInBounds_toArray, List.set_cons_zero, List.set_cons_succ]
  refine up_quiet rfl rfl (v := .agg ca) (fun W hW => exec_load_row rfl (Blk.below GB.out (New.trans hU hW) GB.out.lt) digarr rfl Ica.out) ?_
  simp only [Act.put, List.setIfInBounds_toArray, List.set_cons_zero, List.set_cons_succ]
  refine up_quiet rfl rfl (v := .bool true) (fun W hW => exec_agg rfl rfl DK.out (EA.out W)) ?_
  simp only [Act.put, List.setIfInBounds_toArray, List.set_cons_zero, List.set_cons_succ]
  iterate 2 (
    refine up_quiet rfl rfl (v := ?_) (fun W hW => ?_) ?_
    rotate_left
    · go_simp <;> with_reducible rfl
    simp only [Act.put, List.setIfInBounds_toArray, List.set_cons_zero, List.set_cons_succ])
  refine up_quiet rfl rfl (v := .agg cc) (fun W hW => exec_load_row rfl (Blk.below GC.out (New.trans hU hW) GC.out.lt) digarr rfl Icc.out) ?_
  simp only [Act.put, List.setIfInBounds_toArray, List.set_cons_zero, List.set_cons_succ]
  refine up_quiet rfl rfl (v := .agg cc) (fun W hW => exec_load_row rfl (Blk.below GD.out (New.trans hU hW) GD.out.lt) digarr rfl Icc.out) ?_
  simp only [Act.put, List.setIfInBounds_toArray, List.set_cons_zero, List.set_cons_succ]
  refine up_quiet rfl rfl (v := .bool true) (fun W hW => exec_agg rfl rfl DK.out (EC.out W)) ?_
  simp only [Act.put, List.setIfInBounds_toArray, List.set_cons_zero, List.set_cons_succ]
  iterate 2 (
    refine up_quiet rfl rfl (v := ?_) (fun W hW => ?_) ?_
    rotate_left
    · go_simp <;> with_reducible rfl
    simp only [Act.put, List.setIfInBounds_toArray, List.set_cons_zero, List.set_cons_succ])
  refine up_quiet rfl rfl (v := .agg ce) (fun W hW => exec_load_row rfl (Blk.below GE.out (New.trans hU hW) GE.out.lt) digarr rfl Ice.out) ?_
  simp only [Act.put, List.setIfInBounds_toArray, List.set_cons_zero, List.set_cons_succ]
  refine up_quiet rfl rfl (v := .agg ce) (fun W hW => exec_load_row rfl (Blk.below GG.out (New.trans hU hW) GG.out.lt) digarr rfl Ice.out) ?_
  simp only [Act.put, List.setIfInBounds_toArray, List.set_cons_zero, List.set_cons_succ]
  refine up_quiet rfl rfl (v := .bool true) (fun W hW => exec_agg rfl rfl DK.out (EE.out W)) ?_
  simp only [Act.put, List.setIfInBounds_toArray, List.set_cons_zero, List.set_cons_succ]
  iterate 3 (
    refine up_quiet rfl rfl (v := ?_) (fun W hW => ?_) ?_
    rotate_left
    · go_simp <;> with_reducible rfl
    simp only [Act.put, List.setIfInBounds_toArray, List.set_cons_zero, List.set_cons_succ])
  iterate 4 (
    refine up_quiet rfl rfl (v := ?_) (fun W hW => ?_) ?_
    rotate_left
    · have c0 := CM.out W (New.trans hU hW)
      go_simp <;> with_reducible rfl
    simp only [Act.put, List.setIfInBounds_toArray, List.set_cons_zero, List.set_cons_succ])
  refine up_call rfl rfl (fun K hK => ?_)
  go_simp
  (with_reducible refine (FR.out _ hU).mono ?_)
  rintro e17 w17 ⟨A7, c7, D7, rfl, o7, p7, h7, b7⟩
  refine hK _ _ b7 ?_
  clear hK
  have R7 := FramesPost.rows o7 p7
  have hU7 := New.trans hU b7
  have SA := same_any R7 (RMh.out.later hU7) (by rw [h7]; exact fun p hp => (GF.out p hp).1) (by rw [HBM.out]; exact fun p hp => (GF.out p hp).1) (by rw [← HNF.out]; omega) (by omega)
  rw [decide_eq_true (show bytesOf D7 = bytesOf Dm by rw [h7, HBM.out])] at SA
  rw [← HNF.out] at SA ⊢
  replace SA := Lib.hid SA
  clear o7 p7 h7 R7
  refine up_call rfl rfl (fun K hK => ?_)
  go_simp
  (with_reducible refine SA.out.mono ?_)
  rintro e18 w18 ⟨rfl, b8⟩
  refine hK _ _ b8 ?_
  clear hK
  iterate 2 (
    refine up_quiet rfl rfl (v := ?_) (fun W hW => ?_) ?_
    rotate_left
    · go_simp <;> with_reducible rfl
    simp only [Act.put, List.setIfInBounds_toArray, List.set_cons_zero, List.set_cons_succ])
  refine up_nil ?_
  have BE := Lib.hid (New.trans B16.out (New.trans hU7 b8))
  go_wp2
  go_ret
  exact ⟨rfl, BE.out⟩

set_option maxRecDepth 100000 in
open Go.WideShapes Go.ChangeShapes in
theorem treeRoots_contract {H : Type} {enc : TypeId × Value → H} (W : World) (base : Nat) (args : Array Value) (ds : List (DataW H)) (ps : List MemPlace)
    (hval : ∀ (j : Nat) t v, Tryd.f3.params[j]? = some t → args[j]? = some v → Value.okWide Tryd.prog W .any base t v)
    (hA : DataW.TrodAll enc Tryd.prog W 0 (fun _ => true) true Tryd.f3.params.toList args.toList ds ps) (hlt : ∀ p ∈ ps, p.block < W.heap.size)
    (hsz : (DataW.weightsEach Tryd.prog Tryd.f3.params.toList ds).all (· ≤ reachBytes) = true) (hL : laidMetH Tryd.prog laidC W) :
    Calls Tryd.prog 3 args W fun e W' => e = .returned (.bool true) ∧ Below W.heap.size W W' := by
  rw [Tryd.params3] at hA hval hsz
  obtain ⟨v0, v1, v2, v3, v4, d0, d1, d2, d3, d4, p0, p1, p2, p3, p4, rfl, rfl, rfl, h0, h1, h2, h3, h4⟩ := trodAll_five hA
  obtain ⟨kind, rfl, h8_kind, hl_kind⟩ := open_s (hval 0 _ _ rfl rfl) h0 (fun p hp => hlt p (by simp [hp])) (sized_at hsz (j := 0) rfl rfl)
  obtain ⟨k, rfl, wk, wk'⟩ := open_i64 (hval 1 _ _ rfl rfl) h1
  obtain ⟨n, rfl, wn, wn'⟩ := open_i64 (hval 2 _ _ rfl rfl) h2
  obtain ⟨A_data, c_data, data, rfl, hc_data, hm_data, hr_data, hl_data⟩ := open_B (hval 3 _ _ rfl rfl) h3 (fun p hp => hlt p (by simp [hp])) (sized_at hsz (j := 3) rfl rfl)
  -- leaves: v4 d4 p4 h4, hval 4
  have _ := wk
  have _ := wk'
  have _ := wn
  have _ := wn'
  obtain ⟨A_l, c_l, L_l, rfl, hr, hd, hc, hm⟩ := open_Ds (hval 4 _ _ rfl rfl) h4 (fun p hp => hlt p (by simp [hp])) (sized_at hsz (j := 4) rfl rfl)
  exact treeRoots_walk h8_kind hl_kind hr_data hl_data hc_data hm_data hr hd hc hm (const_of_laid hL)

end Go.Proofs.YtgfemjpeegbhhaaDoor
