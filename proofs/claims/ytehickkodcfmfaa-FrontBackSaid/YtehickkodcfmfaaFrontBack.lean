/- FrontBack returns true whatever comes in, and leaves all that was there as it was. -/
import Derived.Test.YtehickkodcfmfaaSmallF

namespace Go.Proofs.Ytehickkodcfmfaa
open Go.RowKit Go.Hm

theorem few13_few_ {L : List (List Nat)} (h : few13 L = true) : encF L = some (fenc [] L) ∧ L.length ≤ 200 := by
  obtain ⟨h1, h2, h3⟩ := few13_iff h
  exact ⟨by unfold encF; rw [fewB_yes (by omega) (fun s hs => by have := h3 s hs; omega) (by omega)]; rfl, h1⟩

set_option maxHeartbeats 1000000 in
set_option maxRecDepth 100000 in
theorem frontBack_walk {w : World} {A : Option Addr} {n c : Nat} {L : List (List Nat)} (h : Reads w w.heap.size 1 A n (strs L)) (hL : ∀ s ∈ L, (∀ x ∈ s, x < 256) ∧ s.length ≤ 140737488351232) (hf : few13 L = true) :
    Calls Try.prog 12 #[.slice A n c] w (SmallPost w) := by
  have hL8 : ∀ s ∈ L, ∀ x ∈ s, x < 256 := fun s hs => (hL s hs).1
  have hLl : ∀ s ∈ L, s.length ≤ 140737488351232 := fun s hs => (hL s hs).2
  obtain ⟨hE, hl2⟩ := few13_few_ hf
  have hln := h.lenT
  have hbl := fenc_len [] L (fun s hs => by have := (few13_iff hf).2.2 s hs; omega)
  have hsum := (few13_iff hf).2.1
  have hb8 := encF_lt hL8 hE
  have hD := (decF_iff (n := (L.length : Int)) hb8).2 ⟨rfl, hE⟩
  have HF := Lib.hid hf
  have HE := Lib.hid (fun (W : World) (hW : New w W) => fenc_any (c := c) (Reads.later h hW) hL8 hLl (by omega))
  rw [hE] at HE
  have HD := Lib.hid hD
  have Hln := Lib.hid hln
  have HL8 := Lib.hid hL8
  clear hf hL hL8 hE hD hln
  generalize fenc [] L = b at *
  have hn : n ≤ 200 := by have := Hln.out; omega
  go_enter Try.func12, Try.ntmps12
  go_wp2_with (first
    | (go_at_call 28; refine (small13_any w).mono ?_; rintro e w1 ⟨rfl, b1⟩
       have F1 := Lib.hid (few13_any (c := c) (Reads.later h b1) hLl (by omega))
       rw [HF.out] at F1)
    | (go_at_call 29; refine F1.out.mono ?_; rintro e w2 ⟨rfl, rfl⟩
       have P1 := Lib.hid (HE.out w1 b1))
    | (go_at_call 30; refine P1.out.mono ?_; rintro e w2 ⟨A3, n3, c3, rfl, k3, b2⟩
       have b02 := New.trans b1 b2
       have l3 := k3.len
       rw [nums_length] at l3
       have q3 : n3 ≤ 100000 := by omega
       have L3 := Lib.hid l3
       clear l3
       have P2 := Lib.hid (fdec_any (c := c3) (m := (n : Int)) k3.reads hb8 (by omega) (by omega) (by omega))
       rw [show ((n : Nat) : Int) = (L.length : Int) by rw [Hln.out], HD.out, ← Hln.out] at P2)
    | (go_at_call 34; refine P2.out.mono ?_; rintro e w3 ⟨A4, n4, c4, rfl, k4, b3⟩
       have b03 := New.trans b02 b3
       have l4 := k4.len
       rw [strs_length, ← Hln.out] at l4
       subst l4
       have Q := Lib.hid (sameT_any (c := c4) (c2 := c) k4.reads (Reads.later h b03) HL8.out HL8.out (by omega) (by omega)))
    | (go_at_call 36; refine Q.out.mono ?_; rintro e w4 ⟨rfl, b4⟩))
  go_ret
  exact ⟨by simp, New.trans b03 b4⟩

set_option maxHeartbeats 400000 in
theorem frontBack_big {w : World} {A : Option Addr} {n c : Nat} {L : List (List Nat)} (h : Reads w w.heap.size 1 A n (strs L)) (hL : ∀ s ∈ L, (∀ x ∈ s, x < 256) ∧ s.length ≤ 140737488351232) (hn : n ≤ 9223372036854775806) (hf : few13 L = false) :
    Calls Try.prog 12 #[.slice A n c] w (SmallPost w) := by
  have HF := Lib.hid (fun (W : World) (hW : New w W) => few13_any (c := c) (Reads.later h hW) (fun s hs => (hL s hs).2) hn)
  rw [hf] at HF
  clear h hL hf
  go_enter Try.func12, Try.ntmps12
  go_wp2_with (first
    | (go_at_call 28; refine (small13_any w).mono ?_; rintro e w1 ⟨rfl, b1⟩)
    | (go_at_call 29; refine (HF.out w1 b1).mono ?_; rintro e w2 ⟨rfl, rfl⟩))
  go_ret
  exact ⟨rfl, b1⟩

open Go.WideShapes Go.ChangeShapes in
theorem frontBack_contract {H : Type} {enc : TypeId × Value → H} (W : World) (base : Nat) (args : Array Value) (ds : List (DataW H)) (ps : List MemPlace)
    (hval : ∀ (j : Nat) t v, Try.f12.params[j]? = some t → args[j]? = some v → Value.okWide Try.prog W .any base t v)
    (hA : DataW.TrodAll enc Try.prog W 0 (fun _ => true) true Try.f12.params.toList args.toList ds ps) (hlt : ∀ p ∈ ps, p.block < W.heap.size)
    (hsz : (DataW.weightsEach Try.prog Try.f12.params.toList ds).all (· ≤ reachBytes) = true) :
    Calls Try.prog 12 args W fun e W' => e = .returned (.bool true) ∧ Below W.heap.size W W' := by
  rw [Try.params12] at hA hval hsz
  obtain ⟨v0, d0, rfl, rfl, h0⟩ := trodAll_one hA
  obtain ⟨A_L, c_L, L, rfl, hc_L, hm_L, hr_L, hl_L⟩ := open_T (hval 0 _ _ rfl rfl) h0 hlt (sized_at hsz (j := 0) rfl rfl)
  cases hq : few13 L with
  | true => exact frontBack_walk hr_L hl_L hq
  | false => exact frontBack_big hr_L hl_L (by omega) hq

end Go.Proofs.Ytehickkodcfmfaa
