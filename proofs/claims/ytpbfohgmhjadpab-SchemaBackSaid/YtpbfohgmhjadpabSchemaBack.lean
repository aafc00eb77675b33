/- SchemaBack returns true whatever comes in, and leaves all that was there as it was. -/
import Derived.Test.YtpbfohgmhjadpabLaw16

namespace Go.Proofs.Ytpbfohgmhjadpab
open Go.RowKit Go.Hm

set_option maxHeartbeats 1000000 in
set_option maxRecDepth 100000 in
theorem schemaBack_walk {w : World} {A A2 : Option Addr} {n c n2 c2 : Nat} {b : List Nat} {L : List ColS} (h : Reads w w.heap.size 1 A n (nums .u8 b)) (h8 : ∀ x ∈ b, x < 256) (h2 : Reads w w.heap.size 3 A2 n2 (recs colV L)) (hL : ∀ x ∈ L, (∀ z ∈ x.1, z < 256) ∧ x.1.length ≤ 140737488351232) (hc : n2 ≤ c2) (hn2 : n2 ≤ 4611686018427387903) (hn9 : n ≤ 9223372036854775807) :
    Calls Try.prog 5 #[.slice A2 n2 c2, .slice A n c] w (SmallPost w) := by
  obtain rfl := h.len
  have F := Lib.hid (fun (W : World) (hW : New w W) => few16_any (c := c2) (Reads.later h2 hW) (fun x hx => (hL x hx).2) hn2)
  have CK := Lib.hid (fun (W : World) (hW : New w W) => cols_any (c := c2) (Reads.later h2 hW) hL hc hn2)
  have PP := Lib.hid (fun (W : World) (hW : New w W) => sput_any (w := W) (A := none) (n := 0) (c := 0) (b := []) Reads.none_ (by omega) (Reads.later h2 hW) hL hc hn2)
  have SC := Lib.hid (fun (W : World) (hW : New w W) (A : Option Addr) (c : Nat) (hr : Reads W W.heap.size 3 A n2 (recs colV L)) => schemaEq_any (c := c) (c2 := c2) hr (Reads.later h2 hW) hn2)
  have HR := Lib.hid h
  by_cases hb : 300 < b.length
  · have t1 : decide (300 < (b.length : Int)) = true := by simp; omega
    go_enter Try.func5, Try.ntmps5
    go_wp2_with fail
    refine (small16_any w).mono ?_
    rintro e w1 ⟨rfl, b1⟩
    go_wp2_with fail
    refine (F.out w1 b1).mono ?_
    rintro e w1' ⟨bb, rfl, rfl⟩
    cases bb
    all_goals
      go_wp2
      go_ret
      exact ⟨rfl, b1⟩
  · have t1 : decide (300 < (b.length : Int)) = false := by simp; omega
    have hkk : colsCk L = 0 ∨ ¬ colsCk L = 0 := Classical.em _
    have hput : colsCk L = 0 → putC [] L = vp L.length ++ catC L ∧ (putC [] L).length ≤ 10000 ∧ getC (some (putC [] L ++ b)) = (L, some b) ∧ ∀ x ∈ putC [] L, x < 256 := fun hk => by
      obtain ⟨m1, m2, _⟩ := (colsCk_iff L).1 hk
      have e : putC [] L = vp L.length ++ catC L := by rw [putC, if_pos hk, List.nil_append]
      refine ⟨e, ?_, by rw [e]; exact getC_app L b hk, ?_⟩
      · rw [e]
        have := catC_len L (fun x hx => (m2 x hx).2.1)
        have := vp_len10 (n := L.length) (by omega)
        rw [List.length_append]
        omega
      · rw [e]
        exact putC_byte L (fun x hx => ⟨(hL x hx).1, (m2 x hx).2.2.1, (m2 x hx).2.2.2⟩)
    generalize colsCk L = ck at *
    generalize putC [] L = V at *
    rcases hkk with hk | hk
    · subst hk
      obtain ⟨_, v1, v2, v3⟩ := hput rfl
      clear hput
      go_enter Try.func5, Try.ntmps5
      go_wp2_with fail
      refine (small16_any w).mono ?_
      rintro e w1 ⟨rfl, b1⟩
      go_wp2_with fail
      refine (F.out w1 b1).mono ?_
      rintro e w1' ⟨bb, rfl, rfl⟩
      cases bb
      · go_wp2
        go_ret
        exact ⟨rfl, b1⟩
      · go_wp2_with fail
        refine (CK.out w1 b1).mono ?_
        rintro e w2 ⟨rfl, b2⟩
        have b02 := New.trans b1 b2
        go_wp2_with fail
        refine (PP.out w2 b02).mono ?_
        rintro e w3 ⟨A3, n3, c3, rfl, k3, b3⟩
        have b03 := New.trans b02 b3
        have z2 := b02.size
        have k3 := k3.base_le z2
        have q3 : n3 = V.length := by have := k3.len; rwa [nums_length] at this
        have q4 : n3 ≤ 10000 := by omega
        have Q3 := Lib.hid q3
        have z3 := b03.size
        have r3 := Reads.later HR.out b03
        clear q3 b2 b1 b02 b3
        go_wp2_with (refine wpList_pushesN elB rfl (.tmp 26) (.tmp 27) rfl (W := w) (B := w.heap.size) k3 r3 rfl rfl b03 (Nat.le_refl _) z3 (by omega) (by simp only [maxLen]; omega) ?_
                     intro A4 c4 w4 _ _ o4 g4 b04 _)
        have P5 := Lib.hid (over_any (c := c4) o4.reads (by omega) (by
          intro x hx
          rcases List.mem_append.1 hx with hx | hx
          · exact v3 x hx
          · exact h8 x hx))
        refine P5.out.mono ?_
        rintro e w5 ⟨g5, rfl, hg5, C5, b5⟩
        have b05 := New.trans b04 b5
        have C5 := CurS.of C5
        have P6 := Lib.hid (sget_any C5)
        rw [v2] at P6
        have hgw : w.heap.size ≤ g5 := by have := b04.size; omega
        clear P5 b5 o4 b04 b03 k3
        go_wp2_with fail
        refine P6.out.mono ?_
        rintro e w6 ⟨A6, n6, c6, rfl, hc6, hm6, k6, C6, G6⟩
        have b06 : New w w6 := b05.grown G6 b05.size (fun k hk => by injection hk with hk; omega)
        have r6 := Reads.of_own k6
        have q6 : n6 = n2 := by have := r6.lenC; have := h2.lenC; omega
        subst q6
        have P7 := Lib.hid (badS C6)
        have P8 := Lib.hid (leftS C6)
        have P9 := Lib.hid (SC.out w6 b06 _ c6 r6)
        clear P6 C5 G6 k6 r6
        go_wp2_with fail
        refine P7.out.mono ?_
        rintro e w7 ⟨rfl, rfl⟩
        go_wp2_with fail
        refine P8.out.mono ?_
        rintro e w8 ⟨rfl, rfl⟩
        go_wp2_with fail
        refine P9.out.mono ?_
        rintro e w9 ⟨rfl, b9⟩
        go_wp2
        go_ret
        exact ⟨by simp, New.trans b06 b9⟩
    · have e1 : (ck != 0) = true := by simpa using hk
      clear hk hput
      go_enter Try.func5, Try.ntmps5
      go_wp2_with fail
      refine (small16_any w).mono ?_
      rintro e w1 ⟨rfl, b1⟩
      go_wp2_with fail
      refine (F.out w1 b1).mono ?_
      rintro e w1' ⟨bb, rfl, rfl⟩
      cases bb
      · go_wp2
        go_ret
        exact ⟨rfl, b1⟩
      · go_wp2_with fail
        refine (CK.out w1 b1).mono ?_
        rintro e w2 ⟨rfl, b2⟩
        go_wp2
        go_ret
        exact ⟨rfl, New.trans b1 b2⟩

set_option maxRecDepth 100000 in
open Go.WideShapes Go.ChangeShapes in
theorem schemaBack_contract {H : Type} {enc : TypeId × Value → H} (W : World) (base : Nat) (args : Array Value) (ds : List (DataW H)) (ps : List MemPlace)
    (hval : ∀ (j : Nat) t v, Try.f5.params[j]? = some t → args[j]? = some v → Value.okWide Try.prog W .any base t v)
    (hA : DataW.TrodAll enc Try.prog W 0 (fun _ => true) true Try.f5.params.toList args.toList ds ps) (hlt : ∀ p ∈ ps, p.block < W.heap.size)
    (hsz : (DataW.weightsEach Try.prog Try.f5.params.toList ds).all (· ≤ reachBytes) = true) :
    Calls Try.prog 5 args W fun e W' => e = .returned (.bool true) ∧ Below W.heap.size W W' := by
  rw [Try.params5] at hA hval hsz
  obtain ⟨v0, v1, d0, d1, p0, p1, rfl, rfl, rfl, h0, h1⟩ := trodAll_two hA
  -- l: v0 d0 p0 h0, hval 0
  obtain ⟨A_b, c_b, b, rfl, hc_b, hm_b, hr_b, hl_b⟩ := open_B (hval 1 _ _ rfl rfl) h1 (fun p hp => hlt p (by simp [hp])) (sized_at hsz (j := 1) rfl rfl)
  obtain ⟨A1, c1, l1, rfl, hc1, hm1, hr1, hl1⟩ := open_Cols (hval 0 _ _ rfl rfl) h0 (fun p hp => hlt p (by simp [hp])) (sized_at hsz (j := 0) rfl rfl)
  exact schemaBack_walk hr_b hl_b hr1 (fun x hx => ⟨(hl1 x hx).1, (hl1 x hx).2.1⟩) hc1 (by omega) (by omega)

end Go.Proofs.Ytpbfohgmhjadpab
