/- FooterDecodes returns true whatever comes in, and leaves all that was there as it was. -/
import Derived.Test.YtflaaahcoglflaaGreatBun9
import Derived.Test.YtflaaahcoglflaaGreatBun10

namespace Go.Proofs.YtflaaahcoglflaaGreat
open Go Go.RowKit Go.Hm
theorem great_ok : ∀ r : Int, 0 ≤ r → r ≤ 65536 → r ≤ (fun _ : Int => (65536 : Int)) r ∧ (fun _ : Int => (65536 : Int)) r ≤ 65536 := fun _ _ h => ⟨h, Int.le_refl _⟩
set_option maxHeartbeats 4000000 in
set_option maxRecDepth 100000 in
theorem footerDecodes_walk {w : World} {A : Option Addr} {c : Nat} {b : List Nat} (hr : Reads w w.heap.size 1 A b.length (nums .u8 b)) (h8 : ∀ x ∈ b, x < 256) (hc : b.length ≤ c) (hcx : c ≤ maxLen) :
    Calls Tryz.prog 3 #[.slice A b.length c] w (SmallPost w) := by
  have HR := Lib.hid (fun (W : World) (hW : New w W) => Reads.later hr hW)
  clear hr
  go_enter Tryz.func3, Tryz.ntmps3
  go_wp2_with fail
  refine (small19_any _).mono ?_
  rintro e w1 ⟨rfl, b1⟩
  by_cases hb : 1200 < b.length
  · have hbi : (1200 : Int) < (b.length : Int) := by omega
    go_wp2
    go_ret
    exact ⟨rfl, b1⟩
  have hbi : ¬ (1200 : Int) < (b.length : Int) := by omega
  have D1 := fdecode_any (c := c) (HR.out _ b1) h8 (by omega)
  have D2 := Lib.hid (fun (W : World) (hW : New w W) => rfdecode_any (c := c) (HR.out _ hW) h8 (by omega) hc hcx)
  have he : footO (fun _ => 65536) b = footO (fun r => r) b := (footO_is great_ok h8 (by omega)).uniq (footO_is id_ok h8 (by omega))
  rw [he] at D2
  generalize footO (fun r => r) b = O at *
  have D1 := Lib.hid D1
  clear he hb
  go_wp2_with fail
  refine D1.out.mono ?_
  rintro e w2 h2
  have b02 : New w w2 := by
    cases O with
    | none => exact New.trans b1 h2.2
    | some F => obtain ⟨_, _, _, _, _, _, _, _, _, _, k⟩ := h2; exact New.trans b1 k
  cases O with
  | none =>
    obtain ⟨rfl, -⟩ := h2
    have ba : New w2 (w2.alloc (.cells #[.slice none 0 0, .int .i64 0, .slice none 0 0] 27)) := (Below.refl _ _).alloc (Nat.le_refl _) _
    have B1 := Blk.new w2 27 #[.slice none 0 0, .int .i64 0, .slice none 0 0]
    have b0a := New.trans b02 ba
    have P2 := Lib.hid (D2.out _ b0a)
    clear D1 D2 HR b1 b02 ba
    go_wp2_with fail
    refine P2.out.mono ?_
    rintro e w3 ⟨rfl, b3⟩
    have ba2 : New w3 (w3.alloc (.cells #[.slice none 0 0, .int .i64 0, .slice none 0 0] 27)) := (Below.refl _ _).alloc (Nat.le_refl _) _
    have B2 := Blk.new w3 27 #[.slice none 0 0, .int .i64 0, .slice none 0 0]
    have B1 := (B1.below b3 B1.lt)
    have B1 := B1.below ba2 B1.lt
    have b0b := New.trans (New.trans b0a b3) ba2
    have FZ : ∀ W : World, FootIn W none 0 [] none [] := fun W => ⟨Reads.none_, by simp, by simp, by simp, Reads.none_, by simp, by simp, by simp⟩
    have SM0 := fsame_any (w := w3.alloc (.cells #[.slice none 0 0, .int .i64 0, .slice none 0 0] 27)) (L := []) (r := 0) (G1 := []) (G2 := []) (A1 := none) (A2 := none) (B1 := none) (B2 := none) (c1 := 0) (k1 := 0) (c2 := 0) (k2 := 0) (FZ _) (FZ _) rfl
    unfold footA at SM0
    simp only [List.length_nil] at SM0
    have SM := Lib.hid SM0
    clear SM0
    clear P2 b0a b3 ba2 FZ
    obtain ⟨x0, x1, x2⟩ := ccells B1
    obtain ⟨y0, y1, y2⟩ := ccells B2
    go_wp2_with fail
    refine SM.out.mono ?_
    rintro e w4 ⟨rfl, b4⟩
    go_wp2
    go_ret
    exact ⟨rfl, New.trans b0b b4⟩
  | some F =>
    obtain ⟨Ac1, cc1, L1, r1, Ag1, cg1, G1, rfl, hP1, ⟨FI1, hcg1⟩, b2⟩ := h2
    subst hP1
    unfold footA
    have ba : New w2 (w2.alloc (.cells #[.slice Ac1 L1.length cc1, .int .i64 r1, .slice Ag1 G1.length cg1] 27)) := (Below.refl _ _).alloc (Nat.le_refl _) _
    have B1 := Blk.new w2 27 #[.slice Ac1 L1.length cc1, .int .i64 r1, .slice Ag1 G1.length cg1]
    have b0a := New.trans b02 ba
    have P2 := Lib.hid (D2.out _ b0a)
    have FI1 := FI1.later ba
    clear D1 D2 HR b1 b02 ba hcg1 b2
    go_wp2_with fail
    refine P2.out.mono ?_
    rintro e w3 ⟨Ac2, cc2, L2, r2, Ag2, cg2, G2, rfl, hP2, ⟨FI2, hcg2⟩, b3⟩
    unfold footA
    have hPG : G2.map grP = G1.map grP := congrArg FootS.groups hP2
    obtain rfl : L2 = L1 := congrArg FootS.cols hP2
    obtain rfl : r2 = r1 := congrArg FootS.rows hP2
    have ba2 : New w3 (w3.alloc (.cells #[.slice Ac2 L2.length cc2, .int .i64 r2, .slice Ag2 G2.length cg2] 27)) := (Below.refl _ _).alloc (Nat.le_refl _) _
    have B2 := Blk.new w3 27 #[.slice Ac2 L2.length cc2, .int .i64 r2, .slice Ag2 G2.length cg2]
    have B1 := (B1.below b3 B1.lt)
    have B1 := B1.below ba2 B1.lt
    have b0b := New.trans (New.trans b0a b3) ba2
    have SM := Lib.hid (show Calls Tryz.prog 7 #[.agg #[.slice Ac1 L2.length cc1, .int .i64 r2, .slice Ag1 G1.length cg1], .agg #[.slice Ac2 L2.length cc2, .int .i64 r2, .slice Ag2 G2.length cg2]] (w3.alloc (.cells #[.slice Ac2 L2.length cc2, .int .i64 r2, .slice Ag2 G2.length cg2] 27)) (NewPost (.bool true) _) from fsame_any (r := r2) (c1 := cc1) (k1 := cg1) (c2 := cc2) (k2 := cg2) ((FI1.later b3).later ba2) (FI2.later ba2) hPG.symm)
    clear P2 b0a b3 ba2 hPG hP2 FI1 FI2 hcg2
    obtain ⟨x0, x1, x2⟩ := ccells B1
    obtain ⟨y0, y1, y2⟩ := ccells B2
    go_wp2_with fail
    refine SM.out.mono ?_
    rintro e w4 ⟨rfl, b4⟩
    go_wp2
    go_ret
    exact ⟨rfl, New.trans b0b b4⟩

set_option maxRecDepth 100000 in
open Go.WideShapes Go.ChangeShapes in
theorem footerDecodes_contract {H : Type} {enc : TypeId × Value → H} (W : World) (base : Nat) (args : Array Value) (ds : List (DataW H)) (ps : List MemPlace)
    (hval : ∀ (j : Nat) t v, Tryz.f3.params[j]? = some t → args[j]? = some v → Value.okWide Tryz.prog W .any base t v)
    (hA : DataW.TrodAll enc Tryz.prog W 0 (fun _ => true) true Tryz.f3.params.toList args.toList ds ps) (hlt : ∀ p ∈ ps, p.block < W.heap.size)
    (hsz : (DataW.weightsEach Tryz.prog Tryz.f3.params.toList ds).all (· ≤ reachBytes) = true) :
    Calls Tryz.prog 3 args W fun e W' => e = .returned (.bool true) ∧ Below W.heap.size W W' := by
  rw [Tryz.params3] at hA hval hsz
  obtain ⟨v0, d0, rfl, rfl, h0⟩ := trodAll_one hA
  obtain ⟨A_b, c_b, b, rfl, hc_b, hm_b, hr_b, hl_b⟩ := open_B (hval 0 _ _ rfl rfl) h0 hlt (sized_at hsz (j := 0) rfl rfl)
  exact footerDecodes_walk hr_b hl_b hc_b (by unfold maxLen; omega)

end Go.Proofs.YtflaaahcoglflaaGreat
