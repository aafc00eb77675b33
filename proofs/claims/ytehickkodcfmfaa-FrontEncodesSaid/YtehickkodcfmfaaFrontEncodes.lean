/- FrontEncodes returns true whatever comes in, and leaves all that was there as it was. -/
import Derived.Test.YtehickkodcfmfaaSmallF

namespace Go.Proofs.Ytehickkodcfmfaa
open Go.RowKit Go.Hm

set_option maxHeartbeats 1000000 in
set_option maxRecDepth 100000 in
theorem frontEncodes_walk {w : World} {A : Option Addr} {n c : Nat} {L : List (List Nat)} {a b : List Nat} (h : Reads w w.heap.size 1 A n (strs L)) (hL : ∀ s ∈ L, (∀ x ∈ s, x < 256) ∧ s.length ≤ 140737488351232) (hn : n ≤ 9223372036854775806)
    (ha : ∀ x ∈ a, x < 256) (hb : ∀ x ∈ b, x < 256) (hf : few13 L = true) (hla : a.length ≤ 1000) (hlb : b.length ≤ 1000) :
    Calls Try.prog 10 #[.slice A n c, .string (bstr a), .string (bstr b)] w (SmallPost w) := by
  have hL8 : ∀ s ∈ L, ∀ x ∈ s, x < 256 := fun s hs => (hL s hs).1
  have hLl : ∀ s ∈ L, s.length ≤ 140737488351232 := fun s hs => (hL s hs).2
  have z1 := bstr_size a
  have z2 := bstr_size b
  have t1 : decide (1000 < (a.length : Int)) = false := by simp; omega
  have t2 : decide (1000 < (b.length : Int)) = false := by simp; omega
  have HF := Lib.hid hf
  have HE := Lib.hid (fun (W : World) (hW : New w W) => fenc_any (c := c) (Reads.later h hW) hL8 hLl hn)
  have HR := Lib.hid (fun (W : World) (hW : New w W) => rfenc_any (c := c) (Reads.later h hW) hL8 hLl hn)
  clear hf hL hL8
  generalize encF L = o at *
  generalize ho1 : o.isSome = oi at *
  generalize ho2 : o.getD [] = og at *
  have HO := Lib.hid (And.intro ho1 ho2)
  clear ho1 ho2
  go_enter Try.func10, Try.ntmps10
  go_wp2_with (first
    | (go_at_call 28; refine (small13_any w).mono ?_; rintro e w1 ⟨rfl, b1⟩
       have F1 := Lib.hid (few13_any (c := c) (Reads.later h b1) hLl hn)
       rw [HF.out] at F1)
    | (go_at_call 29; refine F1.out.mono ?_; rintro e w2 ⟨rfl, rfl⟩
       have P1 := Lib.hid (HE.out w1 b1))
    | (go_at_call 30; refine P1.out.mono ?_; intro e w2 hh; obtain ⟨A3, n3, c3, rfl, k3, b2⟩ := OptB.u hh; clear hh
       rw [HO.out.1]
       rw [HO.out.2] at k3
       have b02 := New.trans b1 b2
       have P2 := Lib.hid (HR.out w2 b02))
    | (go_at_call 31; refine P2.out.mono ?_; intro e w3 hh; obtain ⟨A4, n4, c4, rfl, k4, b3⟩ := OptB.u hh; clear hh
       rw [HO.out.1]
       rw [HO.out.2] at k4
       have b03 := New.trans b02 b3
       have S1 := run_strB (c := c3) (Reads.later k3.reads b3)
       have S2 := run_strB (c := c4) k4.reads)
    | (go_at_call 32; refine (shared_any a b ha hb (by omega) (by omega) _).mono ?_; intro e w4 hh; obtain ⟨rfl, b4⟩ := hh.new; clear hh)
    | (go_at_call 33; refine (rshared_any a b ha hb (by omega) (by omega) _).mono ?_; intro e w5 hh; obtain ⟨rfl, b5⟩ := hh.new; clear hh))
  all_goals go_outline
  go_ret
  exact ⟨by simp, New.trans b03 (New.trans b4 b5)⟩

set_option maxHeartbeats 400000 in
theorem frontEncodes_big {w : World} {A : Option Addr} {n c : Nat} {L : List (List Nat)} {a b : List Nat} (h : Reads w w.heap.size 1 A n (strs L)) (hL : ∀ s ∈ L, (∀ x ∈ s, x < 256) ∧ s.length ≤ 140737488351232) (hn : n ≤ 9223372036854775806)
    (hf : few13 L = false ∨ 1000 < a.length ∨ 1000 < b.length) :
    Calls Try.prog 10 #[.slice A n c, .string (bstr a), .string (bstr b)] w (SmallPost w) := by
  have z1 := bstr_size a
  have z2 := bstr_size b
  have HF := Lib.hid (fun (W : World) (hW : New w W) => few13_any (c := c) (Reads.later h hW) (fun s hs => (hL s hs).2) hn)
  cases hq : few13 L
  all_goals
    rw [hq] at HF
    try (by_cases h1 : 1000 < a.length)
    all_goals try (have t1 : decide (1000 < (a.length : Int)) = false := by simp; omega)
    all_goals try (have h2 : 1000 < b.length := by rcases hf with hf | hf | hf; (rw [hq] at hf; cases hf); omega; omega)
    all_goals
      clear hf hq h hL
      go_enter Try.func10, Try.ntmps10
      go_wp2_with (first
        | (go_at_call 28; refine (small13_any w).mono ?_; rintro e w1 ⟨rfl, b1⟩)
        | (go_at_call 29; refine (HF.out w1 b1).mono ?_; rintro e w2 ⟨rfl, rfl⟩))
      go_ret
      exact ⟨rfl, b1⟩

open Go.WideShapes Go.ChangeShapes in
theorem frontEncodes_contract {H : Type} {enc : TypeId × Value → H} (W : World) (base : Nat) (args : Array Value) (ds : List (DataW H)) (ps : List MemPlace)
    (hval : ∀ (j : Nat) t v, Try.f10.params[j]? = some t → args[j]? = some v → Value.okWide Try.prog W .any base t v)
    (hA : DataW.TrodAll enc Try.prog W 0 (fun _ => true) true Try.f10.params.toList args.toList ds ps) (hlt : ∀ p ∈ ps, p.block < W.heap.size)
    (hsz : (DataW.weightsEach Try.prog Try.f10.params.toList ds).all (· ≤ reachBytes) = true) :
    Calls Try.prog 10 args W fun e W' => e = .returned (.bool true) ∧ Below W.heap.size W W' := by
  rw [Try.params10] at hA hval hsz
  obtain ⟨v0, v1, v2, d0, d1, d2, p0, p1, p2, rfl, rfl, rfl, h0, h1, h2⟩ := trodAll_three hA
  obtain ⟨A_L, c_L, L, rfl, hc_L, hm_L, hr_L, hl_L⟩ := open_T (hval 0 _ _ rfl rfl) h0 (fun p hp => hlt p (by simp [hp])) (sized_at hsz (j := 0) rfl rfl)
  obtain ⟨a, rfl, h8_a, hl_a⟩ := open_s (hval 1 _ _ rfl rfl) h1 (fun p hp => hlt p (by simp [hp])) (sized_at hsz (j := 1) rfl rfl)
  obtain ⟨b, rfl, h8_b, hl_b⟩ := open_s (hval 2 _ _ rfl rfl) h2 (fun p hp => hlt p (by simp [hp])) (sized_at hsz (j := 2) rfl rfl)
  by_cases hb : few13 L = true ∧ a.length ≤ 1000 ∧ b.length ≤ 1000
  · exact frontEncodes_walk hr_L hl_L (by omega) h8_a h8_b hb.1 hb.2.1 hb.2.2
  · refine frontEncodes_big hr_L hl_L (by omega) ?_
    cases hq : few13 L with
    | false => exact .inl rfl
    | true => rw [hq] at hb; simp at hb; omega

end Go.Proofs.Ytehickkodcfmfaa
