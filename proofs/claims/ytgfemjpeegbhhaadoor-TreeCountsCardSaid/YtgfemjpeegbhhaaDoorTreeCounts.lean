/- TreeCounts returns true whatever comes in, and leaves all that was there as it was. -/
import Derived.Test.YtgfemjpeegbhhaaDoorBun7

namespace Go.Hm
open Go Go.RowKit
/-- What the frames of a root are parsed as. -/
theorem rootD_parse {L : List (List Nat)} (h : Digs L) {f : List Nat} (hf : f ∈ (rootD L).2) : ∃ s M, parseO f = some (s, M) ∧ (L.length = 0 → s = noneTag ∧ M.length = 0) ∧ (L.length ≠ 0 → s = nodeTag ∧ M.length = 2) := by
  by_cases h0 : L.length = 0
  · obtain rfl := List.eq_nil_of_length_eq_zero h0
    rw [rootD_nil] at hf
    obtain rfl := List.mem_singleton.1 hf
    exact ⟨_, _, parse_frame (by simp) frame_none, fun _ => ⟨rfl, rfl⟩, fun h => absurd rfl h⟩
  · obtain ⟨a, b, ha, hb, e⟩ := (rootD_nodes L h (by omega)).2 f hf
    refine ⟨_, _, parse_frame ?_ e, fun h => absurd h h0, fun _ => ⟨rfl, rfl⟩⟩
    intro p hp
    simp only [List.mem_cons, List.not_mem_nil, or_false] at hp
    rcases hp with rfl | rfl
    · rw [ha.1]; omega
    · rw [hb.1]; omega

end Go.Hm

namespace Go.Proofs.YtgfemjpeegbhhaaDoor
open Go.RowKit Go.Hm
set_option maxHeartbeats 4000000 in
set_option maxRecDepth 100000 in
theorem treeCounts_walk {w : World} {A : Option Addr} {c : Nat} {L : List (List Nat)} (hR : Reads w w.heap.size 32 A L.length (recs digC L)) (hD : Digs L) (hc : L.length ≤ c) (hcm : c ≤ 9223372036854775807) (hC : ConstIn w) :
    Calls Tryd.prog 8 #[.slice A L.length c] w (SmallPost w) := by
  have SM := Lib.hid (small21_any w hC)
  have HR := Lib.hid hR
  have HD := Lib.hid hD
  have HC := Lib.hid hC
  clear hR hD hC
  go_enter Tryd.func8, Tryd.ntmps8
  go_wp2_with fail
  refine SM.out.mono ?_
  rintro e w1 ⟨rfl, b1⟩
  have B1 := Lib.hid b1
  clear SM b1
  go_wp2_with fail
  refine new_any.mono ?_
  rintro e w2 ⟨rfl, rfl⟩
  have l1 := LogOf.made w1 w.heap.size
  obtain ⟨w3, hw3⟩ : ∃ W, W = w1.alloc (.cells #[.slice none 0 0] 62) := ⟨_, rfl⟩
  have b3 : New w w3 := by rw [hw3]; exact New.trans B1.out (new_alloc2 _ _)
  rw [← hw3] at l1
  rw [← hw3]
  have hgw : w.heap.size ≤ w1.heap.size := B1.out.size
  generalize w1.heap.size = g at *
  have B3 := Lib.hid b3
  have L1 := Lib.hid l1
  clear hw3 B1 b3 l1
  by_cases h3 : 60 < L.length
  · have d3 : decide ((60 : Int) < (L.length : Int)) = true := by simp; omega
    go_wp2
    go_ret
    exact ⟨rfl, B3.out⟩
  have d3 : decide ((60 : Int) < (L.length : Int)) = false := by simp; omega
  have own := L1.out.own (B := w.heap.size) (Nat.le_refl _) hgw
  have RT := Lib.hid (root_any (L.length + 1) (by omega) L1.out B3.out.size (by simp; omega) (leafIn_of HR.out HD.out B3.out own) hc hcm (fun w' t => HC.out.turn2 B3.out t own))
  have OWN := Lib.hid own
  clear own
  go_wp2_with fail
  (with_reducible refine RT.out.mono ?_)
  rintro e w4 ⟨rfl, V4, l4, _, t4⟩
  rw [List.nil_append] at l4
  have B4 := Lib.hid (Turns.below B3.out t4 OWN.out (Nat.le_refl _))
  have FR := Lib.hid (lframes_any l4 (by have := rootD_few HD.out; omega) (fun p hp => by have := (rootD_good HD.out p hp).2; omega))
  clear RT l4 t4 L1 d3 OWN
  go_wp2_with fail
  (with_reducible refine FR.out.mono ?_)
  rintro e w5 ⟨A5, c5, D5, rfl, o5, p5, h5, b5⟩
  have R5 := Lib.hid (FramesPost.rows o5 p5)
  have H5 := Lib.hid h5
  have B5 := Lib.hid (New.trans B4.out b5)
  have FL := rootD_flen HD.out
  have hfew := rootD_few HD.out
  have PA := Lib.hid (fun f (hf : f ∈ (rootD L).2) => And.intro (rootD_parse HD.out hf) (rootD_good HD.out f hf))
  generalize (rootD L).2 = F at *
  obtain ⟨nf, hnf⟩ : ∃ n, n = F.length := ⟨_, rfl⟩
  have HNF := Lib.hid hnf
  rw [← hnf] at FL R5 hfew ⊢
  have hD5 : D5.length = nf := by rw [← bytesOf_len, H5.out, hnf]
  have HD5 := Lib.hid hD5
  have HFL := Lib.hid FL
  obtain ⟨nL, hnL⟩ : ∃ n, n = L.length := ⟨_, rfl⟩
  rw [← hnL] at PA HFL h3 hfew ⊢
  clear FR o5 p5 h5 b5 B4 hnf FL hD5 hnL HR
  go_wp2
  go_loopw [6] (fun i wr => ∃ k : Nat, k ≤ nf ∧ i = .int .i64 (k : Int) ∧ Hid (New w5 wr)) (fun i _ => nf - (intOf i).toNat)
  case atStart => exact ⟨0, by omega, rfl, Lib.hid (Below.refl _ _)⟩
  case round =>
    obtain ⟨k, hk, rfl, b⟩ := hrel
    by_cases hlt : k < nf
    · have hkD : k < D5.length := by rw [HD5.out]; exact hlt
      obtain ⟨ad, rfl, _⟩ := R5.out.at_ hkD
      have kc := R5.out.cells hkD wr b.out
      have RD := ((R5.out.later b.out).parts.at_ hkD)
      have e1 := bytesOf_at D5 k
      have hm := mem_getD (L := F) (k := k) (by rw [← HNF.out]; exact hlt)
      rw [H5.out] at e1
      rw [e1] at hm
      obtain ⟨⟨s, M, hp, hp0, hp1⟩, h8, hln⟩ := PA.out _ hm
      generalize D5.getD k (none, 0, []) = d at *
      have P1 := parse_any (c := d.2.1) RD.1 h8 RD.2.1 (by omega)
      rw [hp] at P1
      have P1 := Lib.hid P1
      clear e1 hm RD hp h8 hln
      go_wp2_with fail
      (with_reducible refine P1.out.mono ?_)
      rintro e w6 hq
      obtain ⟨A6, n6, c6, D6, rfl, R6, hb6, b6⟩ := hq
      have hb6 : bytesOf D6 = M := hb6
      obtain rfl : n6 = M.length := by rw [R6.len, ← bytesOf_len, hb6]
      have B6 := Lib.hid (New.trans b.out b6)
      clear R6 hb6 b6 P1 kc
      by_cases hz : nL = 0
      · obtain ⟨rfl, hM⟩ := hp0 hz
        rw [hM]
        have z1 : decide (0 < nL) = false := by simp; omega
        have z2 : decide ((0 : Int) < (nL : Int)) = false := by simp; omega
        have z3 : ((nL : Int) == 0) = true := by simp; omega
        clear hz
        rw [show bstr ((Option.map Prod.fst (some (noneTag, M))).getD []) = ⟨#[110, 111, 110, 101]⟩ from rfl]
        clear hp0 hp1 hM
        go_wp2
        go_roundw
        case rel => exact ⟨k + 1, by omega, by go_num, B6⟩
        case measure => simp [intOf]; omega
      · obtain ⟨rfl, hM⟩ := hp1 hz
        rw [hM]
        rw [show bstr ((Option.map Prod.fst (some (nodeTag, M))).getD []) = ⟨#[110, 111, 100, 101]⟩ from rfl]
        clear hp0 hp1 hM
        have z1 : decide (0 < nL) = true := by simp; omega
        have z2 : decide ((0 : Int) < (nL : Int)) = true := by simp; omega
        have z3 : ((nL : Int) == 0) = false := by simp; omega
        have z4 : decide (nL = 0) = false := by simp; omega
        go_wp2
        go_roundw
        case rel => exact ⟨k + 1, by omega, by go_num, B6⟩
        case measure => simp [intOf]; omega
    · obtain rfl : k = nf := by omega
      have BE := Lib.hid (New.trans B5.out b.out)
      have FL := HFL.out
      clear PA R5 H5 HNF HD5
      by_cases hz : nL = 0
      · rw [if_pos hz] at FL
        have z3 : ((nL : Int) == 0) = true := by simp; omega
        subst hz
        subst FL
        go_wp2
        go_ret
        exact ⟨by simp, BE.out⟩
      · rw [if_neg hz] at FL
        have z3 : ((nL : Int) == 0) = false := by simp; omega
        have z4 : decide (nL = 0) = false := by simp; omega
        have z5 : (nL : Int) - 1 = (k : Int) := by omega
        go_wp2
        go_ret
        exact ⟨by simp, BE.out⟩

set_option maxRecDepth 100000 in
open Go.WideShapes Go.ChangeShapes in
theorem treeCounts_contract {H : Type} {enc : TypeId × Value → H} (W : World) (base : Nat) (args : Array Value) (ds : List (DataW H)) (ps : List MemPlace)
    (hval : ∀ (j : Nat) t v, Tryd.f8.params[j]? = some t → args[j]? = some v → Value.okWide Tryd.prog W .any base t v)
    (hA : DataW.TrodAll enc Tryd.prog W 0 (fun _ => true) true Tryd.f8.params.toList args.toList ds ps) (hlt : ∀ p ∈ ps, p.block < W.heap.size)
    (hsz : (DataW.weightsEach Tryd.prog Tryd.f8.params.toList ds).all (· ≤ reachBytes) = true) (hL : laidMetH Tryd.prog laidC W) :
    Calls Tryd.prog 8 args W fun e W' => e = .returned (.bool true) ∧ Below W.heap.size W W' := by
  rw [Tryd.params8] at hA hval hsz
  obtain ⟨v0, d0, rfl, rfl, h0⟩ := trodAll_one hA
  -- a: v0 d0 p0 h0, hval 0
  obtain ⟨A_a, c_a, L_a, rfl, hr, hd, hc, hm⟩ := open_Ds (hval 0 _ _ rfl rfl) h0 hlt (sized_at hsz (j := 0) rfl rfl)
  exact treeCounts_walk hr hd hc hm (const_of_laid hL)

end Go.Proofs.YtgfemjpeegbhhaaDoor
