/- SchemaOnce returns true whatever comes in, and leaves all that was there as it was. -/
import Derived.Test.YtpbfohgmhjadpabLaw16

namespace Go.Proofs.Ytpbfohgmhjadpab
open Go.RowKit Go.Hm

set_option maxHeartbeats 1000000 in
set_option maxRecDepth 100000 in
theorem schemaOnce_walk {w : World} {A : Option Addr} {n c : Nat} {b : List Nat} (h : Reads w w.heap.size 1 A n (nums .u8 b)) (h8 : ∀ x ∈ b, x < 256) (hn : n ≤ 1500) (hc : n ≤ c) :
    Calls Try.prog 6 #[.slice A n c] w (SmallPost w) := by
  obtain rfl := h.len
  have OV := Lib.hid (fun (W : World) (hW : New w W) => over_any (c := c) (Reads.later h hW) (by omega) h8)
  have HR := Lib.hid h
  have t1 : decide (1500 < (b.length : Int)) = false := by simp; omega
  have hok : St.ok (some b) := St.ok_some h8
  have K1 := fun l r (hg : getC (some b) = (l, some r)) => getC_some hok hg
  have K2 := fun l (hg : getC (some b) = (l, none)) => getC_none hg
  have K3 : ∀ x ∈ (getC (some b)).1, colFine x := by
    intro x hx
    unfold getC at hx
    split at hx
    · simp at hx
    · exact colsS_fine _ (lenS_ok hok) x hx
  generalize hR : getC (some b) = R at *
  obtain ⟨l, S⟩ := R
  have HRR := Lib.hid hR
  clear hR
  go_enter Try.func6, Try.ntmps6
  go_wp2_with fail
  refine (small16_any w).mono ?_
  rintro e w1 ⟨rfl, b1⟩
  go_wp2_with fail
  refine (OV.out w1 b1).mono ?_
  rintro e w2 ⟨g, rfl, hg2, C2, b2⟩
  have C2 := CurS.of C2
  have b02 := New.trans b1 b2
  have P3 := Lib.hid (sget_any C2)
  rw [HRR.out] at P3
  have hgw : w.heap.size ≤ g := by have := b1.size; omega
  clear b2 b1 OV
  go_wp2_with fail
  refine P3.out.mono ?_
  rintro e w3 ⟨A3, n3, c3, rfl, hc3, hm3, k3, C3, G3⟩
  have b03 : New w w3 := b02.grown G3 b02.size (fun k hk => by injection hk with hk; omega)
  have r3 := Reads.of_own k3
  have q3 := r3.lenC
  have P4 := Lib.hid (badS C3)
  clear P3 C2 G3 b02 k3
  rcases S with _ | r
  · have hl := K2 l rfl
    subst hl
    obtain rfl : n3 = 0 := by simpa using q3
    clear q3 K1 K2 K3 hok
    go_wp2_with fail
    refine P4.out.mono ?_
    rintro e w4 ⟨rfl, rfl⟩
    go_wp2
    go_ret
    exact ⟨by simp, b03⟩
  · obtain ⟨m1, m2⟩ := K1 l r rfl
    injection m2 with m2
    have hput : putC [] l = vp l.length ++ catC l := by rw [putC, if_pos m1, List.nil_append]
    have hlen : (putC [] l).length + r.length = b.length := by rw [hput, m2]; simp only [List.length_append]
    have htk : b.take (putC [] l).length = putC [] l := by rw [hput, m2, List.take_left]
    have hl64 := ((colsCk_iff l).1 m1).1
    have hfin : ∀ x ∈ l, (∀ z ∈ x.1, z < 256) ∧ x.1.length ≤ 140737488351232 := fun x hx => ⟨(K3 x hx).1, by have := (K3 x hx).2; omega⟩
    have HF := Lib.hid hfin
    have PU := Lib.hid (sput_any (w := w3) (A := none) (n := 0) (c := 0) (b := []) (c2 := c3) Reads.none_ (by omega) r3 hfin hc3 (by omega))
    have CO := Lib.hid (fun (W : World) (hW : New w3 W) => cols_any (c := c3) (Reads.later r3 hW) HF.out hc3 (by omega))
    rw [m1] at CO
    generalize putC [] l = V at *
    have HT := Lib.hid htk
    have HM := Lib.hid (And.intro m2 hput)
    have r5 := HR.out.take (k := V.length) (by omega)
    have hnt : (nums IntKind.u8 b).take (V.length * 1) = nums .u8 V := by rw [Nat.mul_one, nums_take, HT.out]
    rw [hnt] at r5
    clear K1 K2 K3 hok m2 hput htk hfin m1 hnt
    subst q3
    go_wp2_with fail
    refine P4.out.mono ?_
    rintro e w4 ⟨rfl, rfl⟩
    go_wp2_with fail
    refine PU.out.mono ?_
    rintro e w5 ⟨A5, n5, c5, rfl, k5, b5⟩
    have b05 := New.trans b03 b5
    have q5 := k5.len
    rw [nums_length] at q5
    subst q5
    have C5 := C3.below b5
    have z1 : IntKind.i64.wrap ((b.length : Int) - (r.length : Int)) = (V.length : Int) := by rw [IntWalk.i64_in _ (by omega)]; omega
    have z2 : (V.length : Int) ≤ (b.length : Int) := by omega
    have z3 : (V.length : Int) ≤ (c : Int) := by omega
    go_wp2_with fail
    refine wp_region_up New [(true, 0), (true, 1), (true, 2), (false, 3), (true, 4), (true, 5), (true, 6), (true, 7), (true, 8), (true, 9), (true, 10), (true, 11), (true, 12), (true, 13), (true, 14), (true, 15), (true, 16), (true, 17), (true, 18), (false, 19), (true, 20), (true, 21), (true, 22), (true, 23), (true, 24), (true, 25), (true, 26), (true, 27), (true, 28), (true, 29), (true, 30), (true, 31), (true, 32), (true, 33)]
      New.refl New.trans (by kernel_rfl) (by kernel_rfl) (by kernel_rfl) (by kernel_rfl) ?_
    have hU := New.drew w5
    have LF := Lib.hid (fun (W : World) (hW : New w5 W) => leftS (C5.below hW))
    have z4 : decide (V.length ≤ b.length) = true := by simp; omega
    clear C5
    repeat (first
      | (refine up_call rfl rfl (fun K hK => ?_); go_simp
         (with_reducible refine (CO.out _ (New.trans b5 hU)).mono ?_)
         rintro e w6 ⟨rfl, b6⟩
         refine hK _ _ b6 ?_
         clear hK
         replace hU := New.trans hU b6)
      | (refine up_call rfl rfl (fun K hK => ?_); go_simp
         (with_reducible refine (LF.out _ hU).mono ?_)
         rintro e w7 ⟨rfl, rfl⟩
         refine hK _ _ (New.refl _) ?_
         clear hK)
      | (refine up_str elB.ht (by kernel_rfl) (by kernel_rfl) rfl rfl rfl k5.reads hU ?_; simp only [Act.put, List.setIfInBounds_toArray, List.set_cons_zero, List.set_cons_succ])
      | (refine up_str elB.ht (by kernel_rfl) (by kernel_rfl) rfl rfl rfl r5 (New.trans b05 hU) ?_; simp only [Act.put, List.setIfInBounds_toArray, List.set_cons_zero, List.set_cons_succ])
      | (refine up_quiet rfl rfl (v := ?_) (fun W hW => ?_) ?_; rotate_left; (go_simp <;> with_reducible rfl); simp only [Act.put, List.setIfInBounds_toArray, List.set_cons_zero, List.set_cons_succ]))
    refine up_nil ?_
    go_wp2
    go_ret
    exact ⟨by simp, New.trans b05 hU⟩

set_option maxHeartbeats 400000 in
theorem schemaOnce_big {w : World} {A : Option Addr} {n c : Nat} {b : List Nat} (h : Reads w w.heap.size 1 A n (nums .u8 b)) (h8 : ∀ x ∈ b, x < 256) (hn : n ≤ 140737488351232) (hb : 1500 < n) :
    Calls Try.prog 6 #[.slice A n c] w (SmallPost w) := by
  have OV := Lib.hid (fun (W : World) (hW : New w W) => over_any (c := c) (Reads.later h hW) (by omega) h8)
  have t1 : decide (1500 < (n : Int)) = true := by simp; omega
  clear h
  go_enter Try.func6, Try.ntmps6
  go_wp2_with fail
  refine (small16_any w).mono ?_
  rintro e w1 ⟨rfl, b1⟩
  go_wp2_with fail
  refine (OV.out w1 b1).mono ?_
  rintro e w2 ⟨g, rfl, hg2, C2, b2⟩
  have b02 := New.trans b1 b2
  go_wp2
  go_ret
  exact ⟨by simp, b02⟩

set_option maxRecDepth 100000 in
open Go.WideShapes Go.ChangeShapes in
theorem schemaOnce_contract {H : Type} {enc : TypeId × Value → H} (W : World) (base : Nat) (args : Array Value) (ds : List (DataW H)) (ps : List MemPlace)
    (hval : ∀ (j : Nat) t v, Try.f6.params[j]? = some t → args[j]? = some v → Value.okWide Try.prog W .any base t v)
    (hA : DataW.TrodAll enc Try.prog W 0 (fun _ => true) true Try.f6.params.toList args.toList ds ps) (hlt : ∀ p ∈ ps, p.block < W.heap.size)
    (hsz : (DataW.weightsEach Try.prog Try.f6.params.toList ds).all (· ≤ reachBytes) = true) :
    Calls Try.prog 6 args W fun e W' => e = .returned (.bool true) ∧ Below W.heap.size W W' := by
  rw [Try.params6] at hA hval hsz
  obtain ⟨v0, d0, rfl, rfl, h0⟩ := trodAll_one hA
  obtain ⟨A_b, c_b, b, rfl, hc_b, hm_b, hr_b, hl_b⟩ := open_B (hval 0 _ _ rfl rfl) h0 hlt (sized_at hsz (j := 0) rfl rfl)
  by_cases hb : 1500 < b.length
  · exact schemaOnce_big hr_b hl_b (by omega) hb
  · exact schemaOnce_walk hr_b hl_b (by omega) hc_b

end Go.Proofs.Ytpbfohgmhjadpab
