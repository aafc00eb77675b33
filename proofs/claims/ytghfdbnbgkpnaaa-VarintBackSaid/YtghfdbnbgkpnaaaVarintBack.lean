/- VarintBack returns true whatever comes in, and leaves all that was there as it was. -/
import Derived.Test.YtghfdbnbgkpnaaaSmallV
import Derived.Test.YtghfdbnbgkpnaaaOpen
namespace Go.Hm
/-- Numbers' bytes, one number after the other. -/
def catv (l : List Nat) : List Nat := l.flatMap vp
theorem catv_nil : catv [] = [] := rfl
theorem catv_cons (x : Nat) (l : List Nat) : catv (x :: l) = vp x ++ catv l := rfl
theorem catv_snoc (l : List Nat) (x : Nat) : catv (l ++ [x]) = catv l ++ vp x := by simp [catv]
theorem catv_len (l : List Nat) (h : ∀ x ∈ l, x ≤ 18446744073709551615) : (catv l).length ≤ 10 * l.length := by
  induction l with
  | nil => simp [catv]
  | cons x l ih =>
    have h1 := vp_len10 (n := x) (by have := h x (by simp); omega)
    have h2 := ih (fun y hy => h y (by simp [hy]))
    rw [catv_cons, List.length_append, List.length_cons]; omega
theorem vp_lt256 : ∀ (k n : Nat), n ≤ k → ∀ x ∈ vp n, x < 256 := by
  intro k
  induction k using Nat.strongRecOn with
  | ind k ih =>
    intro n hk x hx
    by_cases hn : n < 128
    · rw [vp_lt hn] at hx; simp at hx; omega
    · rw [vp_ge hn, List.mem_cons] at hx
      rcases hx with hx | hx
      · omega
      · exact ih (n / 128) (by omega) (n / 128) (Nat.le_refl _) x hx
theorem catv_lt (l : List Nat) : ∀ x ∈ catv l, x < 256 := by
  intro x hx
  obtain ⟨y, _, hy⟩ := List.mem_flatMap.1 hx
  exact vp_lt256 y y (Nat.le_refl _) x hy
end Go.Hm
namespace Go.Proofs.Ytghfdbnbgkpnaaa
open Go.RowKit Go.Hm

set_option maxHeartbeats 1000000 in
set_option maxRecDepth 100000 in
theorem varintBack_walk {w : World} {A2 : Option Addr} {n2 c2 : Nat} {L : List Nat} (h2 : Reads w w.heap.size 1 A2 n2 (nums .u64 L)) (hL : ∀ x ∈ L, x ≤ 18446744073709551615) (hn2 : n2 ≤ 60) :
    Calls Try.prog 11 #[.slice A2 n2 c2] w (SmallPost w) := by
  obtain rfl := h2.len
  go_enter Try.func11, Try.ntmps11
  go_wp2_with (go_at_call 37; refine (small04_any w).mono ?_; rintro e w1 ⟨rfl, b1⟩
               have z1 := b1.size)
  go_loopw [4, 5, 6] (fun v s i wr => ∃ (k : Nat) (A : Option Addr) (m c : Nat), i = .int .i64 (k : Int) ∧ k ≤ L.length ∧ v = .slice A m c ∧ s = .int .i64 (m : Int) ∧ Own wr w.heap.size 5 (.slice A m c) (nums .u8 (catv (L.take k))) ∧ Below w.heap.size w wr) (fun _ _ i _ => L.length - (intOf i).toNat)
  case atStart => exact ⟨0, _, _, _, rfl, by omega, rfl, rfl, Own.nil_, b1⟩
  case round =>
    obtain ⟨k, A5, m5, c5, rfl, hk, rfl, rfl, o5, b5⟩ := hrel
    have z5 := b5.size
    by_cases hlt : k < L.length
    · have R := (h2.below b5).num hlt
      obtain ⟨ad, rfl, hb, hcell⟩ := R
      have q5 : m5 = (catv (L.take k)).length := by have := o5.len; rwa [nums_length] at this
      have q6 := catv_len (L.take k) (fun x hx => hL x (List.mem_of_mem_take hx))
      rw [← q5, List.length_take] at q6
      have T := take_snoc L k 0 hlt
      have HT := Lib.hid T
      clear T
      have Q5 := Lib.hid q5
      clear q5
      have hl0 : L.getD k 0 ≤ 18446744073709551615 := by
        rw [List.getD_eq_getElem?_getD, List.getElem?_eq_getElem hlt]
        exact hL _ (List.getElem_mem hlt)
      have Hc : ∀ W, Below w.heap.size w W → W.cell? (ad.add k) = some (.int .u64 ((L.getD k 0 : Nat) : Int)) := fun W hW => by
        obtain ⟨ad', e, _, hc⟩ := (h2.below hW).num hlt
        injection e with e
        rw [e]
        exact hc
      have hyl := vp_len10 (n := L.getD k 0) (by omega)
      generalize L.getD k 0 = y at *
      obtain ⟨z, hz⟩ : ∃ z, z = (vp y).length := ⟨_, rfl⟩
      rw [← hz] at hyl
      have Hz := Lib.hid hz
      clear hz
      go_wp2_with (first
        | (go_at_call 38; refine (put_any A5 m5 c5 _ y wr o5.reads (by omega) (by omega)).mono ?_; rintro e w6 ⟨A6, n6, c6, rfl, k6, b6⟩
           have b06 := below_then b5 b6 (Nat.le_refl _)
           have hcell := Hc w6 b06)
        | (go_at_call 40; refine (size_any y _ (by omega)).mono ?_; rintro e w7 ⟨rfl, rfl⟩
           rw [← Hz.out]))
      have q8 : n6 = m5 + z := by have := k6.len; rw [nums_length, List.length_append, ← Q5.out, ← Hz.out] at this; omega
      go_roundw
      case rel => exact ⟨k + 1, _, _, _, by go_num, by omega, rfl, by rw [q8]; go_num, by rw [HT.out, catv_snoc]; exact k6.base_le z5, b06⟩
      case measure => simp [intOf]; omega
    · obtain rfl : k = L.length := by omega
      rw [List.take_length] at o5
      have q5 : m5 = (catv L).length := by have := o5.len; rwa [nums_length] at this
      have q6 := catv_len L hL
      rw [← q5] at q6
      have O6 := Lib.hid (over_any (c := c5) o5.reads (by omega) (catv_lt L))
      clear q5
      go_wp2_with (first
        | (go_at_call 21; refine O6.out.mono ?_; rintro e w6 ⟨g, rfl, hg, C6, b6⟩
           have b06 := b5.trans (b6.mono b5.size)))
      go_loopw [8] (fun i wr => ∃ (k : Nat), i = .int .i64 (k : Int) ∧ k ≤ L.length ∧ Cur wr g (catv (L.drop k)) false ∧ Below w.heap.size w wr) (fun i _ => L.length - (intOf i).toNat)
      case atStart => exact ⟨0, rfl, by omega, by simpa using C6, b06⟩
      case round =>
        obtain ⟨k, rfl, hk, C, b⟩ := hrel
        have hgw : w.heap.size ≤ g := Nat.le_trans z5 hg
        by_cases hlt : k < L.length
        · obtain ⟨ad, rfl, hbl, _⟩ := (h2.below b).num hlt
          have Hc : ∀ W, Below w.heap.size w W → W.cell? (ad.add k) = some (.int .u64 ((L.getD k 0 : Nat) : Int)) := fun W hW => by
            obtain ⟨ad', e, _, hc⟩ := (h2.below hW).num hlt
            injection e with e
            rw [e]
            exact hc
          have hl0 : L.getD k 0 ≤ 18446744073709551615 := by
            rw [List.getD_eq_getElem?_getD, List.getElem?_eq_getElem hlt]
            exact hL _ (List.getElem_mem hlt)
          rw [drop_cons_getD L k 0 hlt, catv_cons] at C
          generalize L.getD k 0 = y at *
          have HC := Lib.hid Hc
          clear Hc
          have U9 := Lib.hid (get_app (C.below (New.drew wr)) (by omega))
          have hi : decide ((k : Int) < (L.length : Int)) = true := by simp; omega
          go_wp2
          refine wp_region_up (Far g) [(true, 0), (true, 2), (true, 3), (true, 4), (true, 5), (false, 1), (true, 6)]
            (Far.refl g) Far.trans (by kernel_rfl) (by kernel_rfl) (by kernel_rfl) (by kernel_rfl) ?_
          have hU : Below w.heap.size w wr.drew := b.drew
          repeat (first
            | (refine up_call rfl rfl (fun K hK => ?_); go_simp
               (with_reducible refine U9.out.mono ?_); rintro e w9 ⟨rfl, D9, b9⟩
               refine hK _ _ b9 ?_
               clear hK
               have hU := Far.below hU b9 hgw (Nat.le_refl _))
            | (refine up_quiet rfl rfl (v := ?_) (fun W hW => ?_) ?_; rotate_left; (have hc := HC.out W (Far.below hU hW hgw (Nat.le_refl _)); go_simp <;> with_reducible rfl); simp only [Act.put, List.setIfInBounds_toArray, List.set_cons_zero, List.set_cons_succ]))
          refine up_nil ?_
          go_wp2
          go_roundw
          case rel => exact ⟨k + 1, by go_num, by omega, D9, hU⟩
          case measure => simp [intOf]; omega
        · obtain rfl : k = L.length := by omega
          rw [List.drop_length] at C
          have E9 := Lib.hid (show Calls Try.prog 32 #[.pointer (some ⟨g, 0, none⟩)] wr (BadPost true wr) from end_any C)
          go_wp2_with (go_at_call 32; refine E9.out.mono ?_; rintro e w9 ⟨rfl, rfl⟩)
          go_ret
          exact ⟨rfl, b⟩

set_option maxHeartbeats 400000 in
theorem varintBack_big {w : World} {A2 : Option Addr} {n2 c2 : Nat} (hn : 60 < n2) (hm : n2 ≤ 9223372036854775807) :
    Calls Try.prog 11 #[.slice A2 n2 c2] w (SmallPost w) := by
  go_enter Try.func11, Try.ntmps11
  go_wp2_with (go_at_call 37; refine (small04_any w).mono ?_; rintro e w1 ⟨rfl, b1⟩)
  go_ret
  exact ⟨rfl, b1⟩

open Go.WideShapes Go.ChangeShapes in
theorem varintBack_contract {H : Type} {enc : TypeId × Value → H} (W : World) (base : Nat) (args : Array Value) (ds : List (DataW H)) (ps : List MemPlace)
    (hval : ∀ (j : Nat) t v, Try.f11.params[j]? = some t → args[j]? = some v → Value.okWide Try.prog W .any base t v)
    (hA : DataW.TrodAll enc Try.prog W 0 (fun _ => true) true Try.f11.params.toList args.toList ds ps) (hlt : ∀ p ∈ ps, p.block < W.heap.size)
    (hsz : (DataW.weightsEach Try.prog Try.f11.params.toList ds).all (· ≤ reachBytes) = true) :
    Calls Try.prog 11 args W fun e W' => e = .returned (.bool true) ∧ Below W.heap.size W W' := by
  rw [Try.params11] at hA hval hsz
  obtain ⟨v0, d0, rfl, rfl, h0⟩ := trodAll_one hA
  obtain ⟨A2, c2, L, rfl, hc2, hm2, hr2, hL⟩ := open_W (hval 0 _ _ rfl rfl) h0 hlt (sized_at hsz (j := 0) rfl rfl)
  by_cases hn : L.length ≤ 60
  · exact varintBack_walk hr2 hL hn
  · exact varintBack_big (by omega) (by omega)
end Go.Proofs.Ytghfdbnbgkpnaaa
