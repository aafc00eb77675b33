/- SchemaGets returns true whatever comes in, and leaves all that was there as it was. -/
import Derived.Test.YtpbfohgmhjadpabLaw16
import Derived.Test.YtpbfohgmhjadpabSchGr

namespace Go.Proofs.Ytpbfohgmhjadpab
open Go.RowKit Go.Hm

set_option maxHeartbeats 1000000 in
set_option maxRecDepth 100000 in
theorem schemaGets_walk {w : World} {A : Option Addr} {n c : Nat} {b : List Nat} (h : Reads w w.heap.size 1 A n (nums .u8 b)) (h8 : ∀ x ∈ b, x < 256) (hn : n ≤ 1500) (hc : n ≤ c) (hcm : c ≤ maxLen) :
    Calls Try.prog 4 #[.slice A n c] w (SmallPost w) := by
  obtain rfl := h.len
  have OV := Lib.hid (fun (W : World) (hW : New w W) => over_any (c := c) (Reads.later h hW) (by omega) h8)
  have t1 : decide (1500 < (b.length : Int)) = false := by simp; omega
  generalize hR : getC (some b) = R at *
  obtain ⟨l, S⟩ := R
  have HRR := Lib.hid hR
  clear hR
  go_enter Try.func4, Try.ntmps4
  go_wp2_with fail
  refine (small16_any w).mono ?_
  rintro e w1 ⟨rfl, b1⟩
  go_wp2_with fail
  refine (OV.out w1 b1).mono ?_
  rintro e w2 ⟨g, rfl, hg2, C2, b2⟩
  have C2 := CurS.of C2
  have b02 := New.trans b1 b2
  have hgw : w.heap.size ≤ g := by have := b1.size; omega
  have b3 : New w2 (w2.alloc (.cells #[.slice A b.length c, .bool false] 32)) := (Below.refl _ _).alloc (Nat.le_refl _) _
  have C3 := C2.below b3
  have hgg : g < w2.heap.size := C2.lt
  have b03 := New.trans b02 b3
  have D3 : RCurS (w2.alloc (.cells #[.slice A b.length c, .bool false] 32)) w.heap.size w2.heap.size (some b) := ⟨A, c, Blk.new _ _ _, hc, hcm, h.below b03, b02.size, h8⟩
  obtain ⟨W3, hW3⟩ : ∃ W, W = w2.alloc (.cells #[.slice A b.length c, .bool false] 32) := ⟨_, rfl⟩
  have P4 := Lib.hid (sget_any C3)
  rw [HRR.out] at P4
  rw [← hW3] at D3 C3 b03
  have HW3 := Lib.hid hW3
  have hgr1 : w2.heap.size < W3.heap.size := D3.lt
  obtain ⟨gr, hgr⟩ : ∃ gr, gr = w2.heap.size := ⟨_, rfl⟩
  rw [← hgr] at D3 hgg hgr1
  have hgr0 : w.heap.size ≤ gr := by have := b02.size; omega
  have HGR := Lib.hid hgr
  clear b2 b1 OV b3 b02 hW3 C2 hgr
  go_wp2_with fail
  refine P4.out.mono ?_
  rintro e w4 ⟨A4, n4, c4, rfl, hc4, hm4, k4, C4, G4⟩
  rw [← HW3.out] at G4 k4
  rw [← HGR.out]
  have b04 : New w w4 := b03.grown G4 b03.size (fun k hk => by injection hk with hk; omega)
  have D4 := D3.keep G4 hgw (by omega)
  have HK4 := Lib.hid k4
  have P5 := Lib.hid (rsget_any D4)
  rw [HRR.out] at P5
  have z34 := G4.size
  obtain ⟨cs4, B4⟩ := D4.blk
  clear P4 C3 D3 G4 b03 k4
  go_wp2_with fail
  refine P5.out.mono ?_
  rintro e w5 ⟨A5, n5, c5, rfl, hc5, k5, D5, G5⟩
  have b05 : New w w5 := b04.grown G5 b04.size (fun k hk => by injection hk with hk; omega)
  have C5 := C4.keep G5 B4 (by omega) (by decide)
  have k4 := World.ownsRow.kept HK4.out G5 (.inr (fun e => by have := (World.ownsRow.lt HK4.out _ e).1; omega))
  have r4 := Reads.of_own k4
  have r5 := Reads.of_own k5
  have q4 := r4.lenC
  have hl64 : l.length ≤ 4611686018427387903 := by
    have h1 := HRR.out
    have h2 := colsS_len (lenS 64 (some b)).1 (lenS 64 (some b)).2
    have h3 := lenS_le (m := 64) (some b) (by omega) (St.ok_some h8)
    unfold getC at h1
    split at h1
    · simp only [Prod.mk.injEq] at h1
      rw [← h1.1]
      simp
    · rw [h1] at h2
      simp only at h2
      omega
  have SE := Lib.hid (fun (W : World) (hW : New w5 W) => schemaEq_any (c := c4) (c2 := c5) (Reads.later r4 hW) (Reads.later r5 hW) (by omega))
  obtain ⟨A6, c6, B6, _⟩ := D5
  have XC := Lib.hid (fun (W : World) (hW : New w5 W) => by
    have B7 := B6.below hW B6.lt
    have h0 := B7.cell 0
    have h1 := B7.cell 1
    simp at h0 h1
    exact And.intro h0 h1)
  have LC := Lib.hid (fun (W : World) (hW : New w5 W) => leftS (C5.below hW))
  have BC := Lib.hid (fun (W : World) (hW : New w5 W) => badS (C5.below hW))
  generalize S.getD [] = lr at *
  generalize S.isNone = bn at *
  clear P5 C4 D4 G5 B4 b04 r4 r5 k4 k5 C5 B6 q4 hl64
  go_wp2_with fail
  refine wp_region_up New [(true, 0), (true, 1), (true, 2), (true, 3), (false, 4), (true, 5), (true, 6), (true, 7), (true, 9), (true, 10), (true, 11), (true, 12), (true, 13), (false, 8), (true, 14), (true, 15), (true, 16), (true, 17), (true, 19), (true, 20), (true, 21), (true, 22), (false, 18), (true, 23), (true, 24), (true, 25)]
    New.refl New.trans (by kernel_rfl) (by kernel_rfl) (by kernel_rfl) (by kernel_rfl) ?_
  have hU := New.drew w5
  repeat (first
    | (refine up_call rfl rfl (fun K hK => ?_); go_simp
       (with_reducible refine (SE.out _ hU).mono ?_)
       rintro e w6 ⟨rfl, b6⟩
       refine hK _ _ b6 ?_
       clear hK
       replace hU := New.trans hU b6)
    | (refine up_call rfl rfl (fun K hK => ?_); go_simp
       first
       | (with_reducible refine (LC.out _ hU).mono ?_)
       | (with_reducible refine (BC.out _ hU).mono ?_)
       rintro e w7 ⟨rfl, rfl⟩
       refine hK _ _ (New.refl _) ?_
       clear hK)
    | (refine up_quiet rfl rfl (v := ?_) (fun W hW => ?_) ?_; rotate_left; (obtain ⟨y0, y1⟩ := XC.out W (New.trans hU hW); go_simp <;> with_reducible rfl); simp only [Act.put, List.setIfInBounds_toArray, List.set_cons_zero, List.set_cons_succ]))
  refine up_nil ?_
  go_wp2
  go_ret
  exact ⟨by simp, New.trans b05 hU⟩

set_option maxHeartbeats 400000 in
theorem schemaGets_big {w : World} {A : Option Addr} {n c : Nat} {b : List Nat} (h : Reads w w.heap.size 1 A n (nums .u8 b)) (h8 : ∀ x ∈ b, x < 256) (hn : n ≤ 140737488351232) (hb : 1500 < n) :
    Calls Try.prog 4 #[.slice A n c] w (SmallPost w) := by
  have OV := Lib.hid (fun (W : World) (hW : New w W) => over_any (c := c) (Reads.later h hW) (by omega) h8)
  have t1 : decide (1500 < (n : Int)) = true := by simp; omega
  clear h
  go_enter Try.func4, Try.ntmps4
  go_wp2_with fail
  refine (small16_any w).mono ?_
  rintro e w1 ⟨rfl, b1⟩
  go_wp2_with fail
  refine (OV.out w1 b1).mono ?_
  rintro e w2 ⟨g, rfl, hg2, C2, b2⟩
  have b02 := New.trans b1 b2
  go_wp2
  go_ret
  exact ⟨by simp, b02⟩

set_option maxRecDepth 100000 in
open Go.WideShapes Go.ChangeShapes in
theorem schemaGets_contract {H : Type} {enc : TypeId × Value → H} (W : World) (base : Nat) (args : Array Value) (ds : List (DataW H)) (ps : List MemPlace)
    (hval : ∀ (j : Nat) t v, Try.f4.params[j]? = some t → args[j]? = some v → Value.okWide Try.prog W .any base t v)
    (hA : DataW.TrodAll enc Try.prog W 0 (fun _ => true) true Try.f4.params.toList args.toList ds ps) (hlt : ∀ p ∈ ps, p.block < W.heap.size)
    (hsz : (DataW.weightsEach Try.prog Try.f4.params.toList ds).all (· ≤ reachBytes) = true) :
    Calls Try.prog 4 args W fun e W' => e = .returned (.bool true) ∧ Below W.heap.size W W' := by
  rw [Try.params4] at hA hval hsz
  obtain ⟨v0, d0, rfl, rfl, h0⟩ := trodAll_one hA
  obtain ⟨A_b, c_b, b, rfl, hc_b, hm_b, hr_b, hl_b⟩ := open_B (hval 0 _ _ rfl rfl) h0 hlt (sized_at hsz (j := 0) rfl rfl)
  by_cases hb : 1500 < b.length
  · exact schemaGets_big hr_b hl_b (by omega) hb
  · exact schemaGets_walk hr_b hl_b (by omega) hc_b (by simp only [maxLen]; omega)

end Go.Proofs.Ytpbfohgmhjadpab
