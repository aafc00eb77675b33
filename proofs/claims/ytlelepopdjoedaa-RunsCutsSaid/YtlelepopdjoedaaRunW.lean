/- The contract of hypostyleref10.Encode. -/
import Derived.Test.YtlelepopdjoedaaRunQ
import Derived.Test.YtlelepopdjoedaaRunB
import Derived.Test.YtlelepopdjoedaaRefV

namespace Go.Proofs.Ytlelepopdjoedaa
open Go.RowKit Go.Hm
theorem uslice_h (A : Option Addr) (n c m : Nat) (hc : m ≤ c) (w : World) : (Instr.sliceAt 22 (.slice A n c) none (some (.int .i64 (m : Int))) none).run Try.prog w = .ok (.slice A m c) w := by
  rw [run_sliceAt_slice w _ _ _ _ _ sU, run_slice_h w _ A n c sU .i64 (m : Int) (by omega) (by omega), zU]
  cases A <;> simp [Result.andThen, sliced, Addr.add]
theorem rencode_big {w : World} {A : Option Addr} {c n : Nat} (hl : 65536 < n) (hn : n ≤ 9223372036854775807) : Calls Try.prog 12 #[.slice A n c] w (OptB none w) := by
  go_enter Try.func12, Try.ntmps12
  go_wp2
  go_ret2
  exact ⟨rfl, Below.refl _ _⟩
/-- What is said of the pieces that are still to come. -/
def Pcs (ps : List (List Nat)) : Prop := ∀ p ∈ ps, PieceOk p ∧ p.length ≤ 65536 ∧ ∀ x ∈ p, x ≤ 18446744073709551615
theorem own_apart2 {W1 W2 : World} {base : Nat} {e e' : TypeId} {u v : Value} {xs ys : List Value} (h2 : Go.Hm.Own W2 W1.heap.size e u xs) (h1 : Go.Hm.Own W1 base e' v ys) : v.ownBlock = none ∨ v.ownBlock ≠ u.ownBlock := by
  rcases hv : v.ownBlock with _ | k
  · exact .inl rfl
  · refine .inr fun e => ?_
    have a := (h2.lt k e.symm).1
    have b := (h1.lt k hv).2
    omega
set_option maxHeartbeats 4000000 in
theorem rencode_any {w : World} {A : Option Addr} {c : Nat} {L : List Nat} (h : Reads w w.heap.size 1 A L.length (nums .u64 L)) (hc : L.length ≤ c) (hL : ∀ x ∈ L, x ≤ 18446744073709551615) (hl : L.length ≤ 65536) :
    Calls Try.prog 12 #[.slice A L.length c] w (OptB (some (encL L)) w) := by
  have RC := Lib.hid (rcut_any (c := c) h hc (by omega))
  have hP : Hid (Pcs (pcs L)) := Lib.hid fun p hp => ⟨pcs_ok L p hp, Nat.le_trans (wordsOf hL hp).2 hl, (wordsOf hL hp).1⟩
  have hF : Hid ((pcs L).flatten = L) := Lib.hid (pcs_flat L)
  have hE : Hid (encL L = (pcs L).flatMap encP) := Lib.hid rfl
  have hnp : (pcs L).length ≤ 131073 := by
    have := szR_all L
    have e := congrArg List.length this
    have f := spansR_few (L := L) L.length 0 0 (by omega) (Nat.le_refl _) (Nat.zero_le _)
    unfold szR cuts at e
    rw [List.length_map, List.length_map] at e
    omega
  have hCu : Hid (cuts L = (pcs L).map List.length) := Lib.hid rfl
  have hR := Lib.hid h
  clear h hL
  generalize pcs L = PS at *
  go_enter Try.func12, Try.ntmps12
  go_wp2_with fail
  refine RC.out.mono ?_
  rintro e w5 ⟨v5, rfl, o5, b5⟩
  rw [hCu.out] at o5
  obtain ⟨A5, c5, rfl, -, -⟩ := o5.slice
  rw [nums_length, List.length_map] at *
  have R5 := Lib.hid o5.reads
  have RX := Lib.hid ((hR.out.below b5).more b5.size)
  have hz5 := b5.size
  have B5 := Lib.hid b5
  clear RC o5 b5 hR
  go_wp2_with fail
  go_loopw [0, 4, 6] (fun v0 v4 v6 wr => ∃ (A' Ao : Option Addr) (m c' co : Nat) (p1 p2 : List (List Nat)), v0 = .slice A' m c' ∧ v4 = .slice Ao (p1.flatMap encP).length co ∧ v6 = .int .i64 (p1.length : Int) ∧ Hid (PS = p1 ++ p2) ∧ Hid (m = p2.flatten.length) ∧ m ≤ c' ∧ m ≤ 65536 ∧ (p1.flatMap encP).length ≤ p1.length * 600000 ∧ Hid (Reads wr w5.heap.size 1 A' m (nums .u64 p2.flatten)) ∧ Hid (Go.Hm.Own wr w5.heap.size 5 (.slice Ao (p1.flatMap encP).length co) (nums .u8 (p1.flatMap encP))) ∧ Below w5.heap.size w5 wr) (fun _ _ v6 _ => PS.length - (intOf v6).toNat)
  case atStart => exact ⟨A, none, L.length, c, 0, [], PS, rfl, rfl, rfl, Lib.hid rfl, Lib.hid (by rw [hF.out]), hc, hl, by simp, Lib.hid (by rw [hF.out]; exact RX.out), Lib.hid Own.nil_, Below.refl _ _⟩
  case round =>
    obtain ⟨A', Ao, m, c', co, p1, p2, rfl, rfl, rfl, hPS, hm, hmc, hm65, hob, hrd, hown, hb⟩ := hrel
    have hpl : Hid (PS.length = p1.length + p2.length) := Lib.hid (by rw [hPS.out, List.length_append])
    match p2, hPS, hm, hrd, hpl with
    | [], hPS, hm, hrd, hpl =>
      have hz := hb.size
      have hbB := B5.out.trans (Below.mono hb hz5)
      have hEE : encL L = p1.flatMap encP := by rw [hE.out, hPS.out, List.append_nil]
      have HO := Lib.hid (hown.out.base_le hz5)
      have hpl := hpl.out
      simp only [List.length_nil, Nat.add_zero] at hpl
      clear hm hrd hown hPS hF hE hP
      go_wp2
      go_ret2
      exact ⟨_, _, _, rfl, by rw [hEE]; exact HO.out, hbB⟩
    | p :: p3, hPS, hm, hrd, hpl =>
      obtain ⟨hk, hp65, hpw⟩ := hP.out p (by rw [hPS.out]; simp)
      have hcell := (R5.out.below hb).num (i := p1.length) (by rw [hpl.out, List.length_cons]; omega)
      obtain ⟨ad5, rfl, -, hcell⟩ := hcell
      have hgd : ((PS.map List.length).getD p1.length 0) = p.length := by rw [hPS.out]; simp
      rw [hgd] at hcell
      have hm := hm.out
      rw [List.flatten_cons, List.length_append] at hm
      have hlt : p1.length < PS.length := by rw [hpl.out, List.length_cons]; omega
      have hlt2 : p1.length ≤ 131072 := by omega
      have hp0 := hk.1
      have hm0 : 0 < m := by omega
      have hz := hb.size
      have hPS2 : Hid (PS = (p1 ++ [p]) ++ p3) := Lib.hid (by rw [hPS.out]; simp)
      have hout : (p1 ++ [p]).flatMap encP = p1.flatMap encP ++ encP p := by simp
      have hEl := encP_len hpw hp65
      have hob2 : (p1.flatMap encP ++ encP p).length ≤ (p1 ++ [p]).length * 600000 := by simp only [List.length_append, List.length_cons, List.length_nil]; omega
      have rP : Reads wr w5.heap.size 1 A' p.length (nums .u64 p) := by
        have := hrd.out.take (k := p.length) (by omega)
        rw [nums_take, Nat.mul_one, List.flatten_cons, List.take_left] at this
        exact this
      have rQ : Reads wr w5.heap.size 1 (if c' = p.length then A' else A'.map (·.add p.length)) (m - p.length) (nums .u64 p3.flatten) := by
        have := hrd.out.cut (k := p.length) (cap := c') (by omega) hmc
        rw [nums_drop, Nat.mul_one, List.flatten_cons, List.drop_left] at this
        exact this
      have SH := fun w => uslice_h A' m c' p.length (by omega) w
      have SL := fun w => uslice_l A' m c' p.length (by omega) w
      unfold slV at SL
      generalize (if c' = p.length then A' else A'.map (·.add p.length)) = AS at *
      have hm2 : Hid (m - p.length = p3.flatten.length) := Lib.hid (by omega)
      have HP := Lib.hid hout
      have RP := Lib.hid rP
      have RQ := Lib.hid rQ
      have ST := Lib.hid (rstretch_any (c := c') (rP.more hz) (by omega))
      obtain ⟨ap, rfl, hap, hcp⟩ := rP.num hp0
      have hcp : wr.cell? ap = some (.int .u64 ((p.getD 0 0 : Nat) : Int)) := hcp
      have hg0 : p.getD 0 0 ≤ 18446744073709551615 := by rw [List.getD_eq_getElem?_getD, List.getElem?_eq_getElem hp0]; exact hpw _ (List.getElem_mem hp0)
      obtain ⟨N, hN1, hN2⟩ : ∃ N : Nat, (2 * (p.length : Int)) = (N : Int) ∧ N = 2 * p.length := ⟨2 * p.length, by omega, rfl⟩
      clear hm hout rP rQ hrd hgd hE hF hP hPS hCu
      by_cases h4 : 4 ≤ st p
      · have hst := hk.2 h4
        have hEP : Hid (encP p = vp N ++ vp (p.getD 0 0)) := Lib.hid (by unfold encP; rw [if_pos h4, hN2])
        rw [hst] at ST h4
        generalize p.getD 0 0 = x0 at *
        generalize p1.flatMap encP = out at *
        have hk4 : decide ((4 : Int) ≤ (p.length : Int)) = true := decide_eq_true (by omega)
        have hNb : N ≤ 131072 := by omega
        clear hst hk hpw hN2
        go_wp2_with fail
        refine ST.out.mono ?_
        rintro e w2 ⟨rfl, n2⟩
        have own2 := hown.out.later n2
        have P2 := Lib.hid (rput_any (c := co) N own2.reads (by omega) (by omega))
        clear ST
        go_wp2_with fail
        with_reducible refine P2.out.mono ?_
        rintro e w3 ⟨A3, m3, c3, rfl, o3, b3⟩
        have hz2 := n2.size
        have hz3 := b3.size
        have hcp3 : w3.cell? ap = some (.int .u64 (x0 : Int)) := (Below.cell b3 (p := ap) (by omega)).trans ((Below.cell n2 (p := ap) (by omega)).trans hcp)
        have hm3 := o3.len
        rw [nums_length, List.length_append] at hm3
        replace hm3 := Nat.le_of_eq hm3
        have hv := vp_len10 (n := N) (by omega)
        have P3 := Lib.hid (rput_any (c := c3) x0 o3.reads (by omega) (by omega))
        clear P2
        go_wp2_with fail
        with_reducible refine P3.out.mono ?_
        rintro e w4 ⟨A4, m4, c4, rfl, o4, b4⟩
        clear P3
        have hz4 := b4.size
        have hm4 := o4.len
        rw [nums_length] at hm4
        have hb4 : Below w5.heap.size w5 w4 := hb.trans ((Below.mono n2 (by omega)).trans ((Below.mono b3 (by omega)).trans (Below.mono b4 (by omega))))
        rw [List.append_assoc, ← hEP.out, ← HP.out] at o4 hm4
        rw [← HP.out] at hob2
        subst hm4
        go_wp2
        go_roundw
        case rel => exact ⟨AS, A4, m - p.length, c' - p.length, c4, p1 ++ [p], p3, rfl, by simp, by simp, hPS2, hm2, by omega, by omega, hob2, Lib.hid (RQ.out.keep fun q hq => (hb4.cell hq).trans (hb.cell hq).symm), Lib.hid (o4.base_le (by omega)), hb4⟩
        case measure => simp [intOf]; omega
      · have hw64 := wid_le p hpw
        have HW := Lib.hid hpw
        have hEP : Hid (encP p = vp (N + 1) ++ (wid p :: low (pk (wid p) p) ((wid p * p.length + 7) / 8))) := Lib.hid (by unfold encP; rw [if_neg h4, hN2])
        have hNb : N ≤ 131072 := by omega
        have hst : 4 ≤ p.length → ¬ (st p = p.length) := fun a b => h4 (by omega)
        clear hN2 hpw hk hcp hg0
        generalize p1.flatMap encP = out at *
        by_cases h5 : 4 ≤ p.length
        · have hk4 : decide ((4 : Int) ≤ (p.length : Int)) = true := decide_eq_true (by omega)
          have hs := hst h5
          generalize st p = sp at *
          have hne : ((sp : Int) == (p.length : Int)) = false := beq_eq_false_iff_ne.2 (by omega)
          go_wp2_with fail
          refine ST.out.mono ?_
          rintro e w2 ⟨rfl, n2⟩
          clear ST
          have own2 := hown.out.later n2
          have hz2 := (n2).size
          have rP2 := (RP.out.keep fun q hq => Below.cell n2 (p := q) (by omega)).more (Nat.le_trans hz hz2)
          have WI := Lib.hid (rwidth_any (c := c') rP2 HW.out (by omega))
          have PK := Lib.hid (rpack_any (c := c') (wid p : Int) rP2 HW.out (by omega) (by omega) (by omega))
          rw [packO_some p (wid p) hw64 hp65 (Nat.le_refl _)] at PK
          have P2 := Lib.hid (rput_any (c := co) (N + 1) own2.reads (by omega) (by omega))
          have hlow : (low (pk (wid p) p) ((wid p * p.length + 7) / 8)).length ≤ 600000 := by
            rw [low_len]
            have := Nat.mul_le_mul hw64 hp65
            omega
          generalize low (pk (wid p) p) ((wid p * p.length + 7) / 8) = lo at *
          generalize wid p = q at *
          have hwq : IntKind.u8.wrap (q : Int) = (q : Int) := by rw [IntKind.wrap_u8]; omega
          have hwr : IntKind.u64.wrap ((N : Int) + 1) = ((N + 1 : Nat) : Int) := by rw [IntKind.wrap_u64]; omega
          go_wp2_with fail
          with_reducible refine WI.out.mono ?_
          rintro e w3 ⟨rfl, rfl⟩
          go_wp2_with fail
          with_reducible refine PK.out.mono ?_
          rintro e w3 ⟨A3, m3, c3, rfl, o3, b3⟩
          obtain rfl : m3 = lo.length := by have := o3.len; rwa [nums_length] at this
          clear WI PK P2
          have own3 := own2.later b3
          have hz3 := b3.size
          have P3 := Lib.hid (rput_any (c := co) (N + 1) own3.reads (by omega) (by omega))
          go_wp2_with fail
          rw [show ((N : Int) + 1) = ((N + 1 : Nat) : Int) from rfl]
          with_reducible refine P3.out.mono ?_
          rintro e w4 ⟨A4, m4, c4, rfl, o4, b4⟩
          clear P3
          obtain rfl : m4 = (out ++ vp (N + 1)).length := by have := o4.len; rwa [nums_length] at this
          rw [List.length_append] at o4
          have hz4 := b4.size
          have hv := vp_len10 (n := N + 1) (by omega)
          have hb4 : Below w5.heap.size w5 w4 := hb.trans ((Below.mono n2 (by omega)).trans ((Below.mono b3 (by omega)).trans (Below.mono b4 (by omega))))
          have lo4 := o3.later b4
          have AP := own_apart2 o4 o3
          go_wp2_with (first
            | (refine wpList_pushN elB rfl (.tmp 64) (.tmp 67) rfl (W := w5) (B := w5.heap.size) o4 rfl rfl q (by simp) hb4 (by omega) hz4 (by omega) (by simp only [maxLen]; omega) ?_
               intro A6 c6 w6 _ _ o6 g6 b6 s6 _
               have lo6 := (lo4.kept g6 AP).reads)
            | (refine wpList_pushesN elB rfl (.tmp 69) (.tmp 70) rfl (W := w5) (B := w5.heap.size) o6 lo6 rfl rfl b6 (by omega) (by omega) (by omega) (by simp only [maxLen]; omega) ?_
               intro A7 c7 w7 _ _ o7 g7 b7 _))
          have hfin : (out ++ vp (N + 1) ++ [q]) ++ lo = (p1 ++ [p]).flatMap encP := by rw [HP.out, hEP.out]; simp
          rw [hfin] at o7
          rw [← HP.out] at hob2
          have hl7 := o7.len
          rw [nums_length] at hl7
          rw [hl7] at o7
          go_roundw
          case rel => exact ⟨AS, A7, m - p.length, c' - p.length, c7, p1 ++ [p], p3, rfl, by rw [← hl7], by simp, hPS2, hm2, by omega, by omega, hob2, Lib.hid (RQ.out.keep fun x hx => (b7.cell hx).trans (hb.cell hx).symm), Lib.hid (o7.base_le (by omega)), b7⟩
          case measure => simp [intOf]; omega
        · have hk4 : decide ((4 : Int) ≤ (p.length : Int)) = false := decide_eq_false (by omega)
          clear ST hst
          have own2 := hown.out.later (New.refl wr)
          have hz2 := (New.refl wr).size
          have rP2 := (RP.out.keep fun q hq => Below.cell (New.refl wr) (p := q) (by omega)).more (Nat.le_trans hz hz2)
          have WI := Lib.hid (rwidth_any (c := c') rP2 HW.out (by omega))
          have PK := Lib.hid (rpack_any (c := c') (wid p : Int) rP2 HW.out (by omega) (by omega) (by omega))
          rw [packO_some p (wid p) hw64 hp65 (Nat.le_refl _)] at PK
          have P2 := Lib.hid (rput_any (c := co) (N + 1) own2.reads (by omega) (by omega))
          have hlow : (low (pk (wid p) p) ((wid p * p.length + 7) / 8)).length ≤ 600000 := by
            rw [low_len]
            have := Nat.mul_le_mul hw64 hp65
            omega
          generalize low (pk (wid p) p) ((wid p * p.length + 7) / 8) = lo at *
          generalize wid p = q at *
          have hwq : IntKind.u8.wrap (q : Int) = (q : Int) := by rw [IntKind.wrap_u8]; omega
          have hwr : IntKind.u64.wrap ((N : Int) + 1) = ((N + 1 : Nat) : Int) := by rw [IntKind.wrap_u64]; omega
          go_wp2_with fail
          with_reducible refine WI.out.mono ?_
          rintro e w3 ⟨rfl, rfl⟩
          go_wp2_with fail
          with_reducible refine PK.out.mono ?_
          rintro e w3 ⟨A3, m3, c3, rfl, o3, b3⟩
          obtain rfl : m3 = lo.length := by have := o3.len; rwa [nums_length] at this
          clear WI PK P2
          have own3 := own2.later b3
          have hz3 := b3.size
          have P3 := Lib.hid (rput_any (c := co) (N + 1) own3.reads (by omega) (by omega))
          go_wp2_with fail
          rw [show ((N : Int) + 1) = ((N + 1 : Nat) : Int) from rfl]
          with_reducible refine P3.out.mono ?_
          rintro e w4 ⟨A4, m4, c4, rfl, o4, b4⟩
          clear P3
          obtain rfl : m4 = (out ++ vp (N + 1)).length := by have := o4.len; rwa [nums_length] at this
          rw [List.length_append] at o4
          have hz4 := b4.size
          have hv := vp_len10 (n := N + 1) (by omega)
          have hb4 : Below w5.heap.size w5 w4 := hb.trans ((Below.mono (New.refl wr) (by omega)).trans ((Below.mono b3 (by omega)).trans (Below.mono b4 (by omega))))
          have lo4 := o3.later b4
          have AP := own_apart2 o4 o3
          go_wp2_with (first
            | (refine wpList_pushN elB rfl (.tmp 64) (.tmp 67) rfl (W := w5) (B := w5.heap.size) o4 rfl rfl q (by simp) hb4 (by omega) hz4 (by omega) (by simp only [maxLen]; omega) ?_
               intro A6 c6 w6 _ _ o6 g6 b6 s6 _
               have lo6 := (lo4.kept g6 AP).reads)
            | (refine wpList_pushesN elB rfl (.tmp 69) (.tmp 70) rfl (W := w5) (B := w5.heap.size) o6 lo6 rfl rfl b6 (by omega) (by omega) (by omega) (by simp only [maxLen]; omega) ?_
               intro A7 c7 w7 _ _ o7 g7 b7 _))
          have hfin : (out ++ vp (N + 1) ++ [q]) ++ lo = (p1 ++ [p]).flatMap encP := by rw [HP.out, hEP.out]; simp
          rw [hfin] at o7
          rw [← HP.out] at hob2
          have hl7 := o7.len
          rw [nums_length] at hl7
          rw [hl7] at o7
          go_roundw
          case rel => exact ⟨AS, A7, m - p.length, c' - p.length, c7, p1 ++ [p], p3, rfl, by rw [← hl7], by simp, hPS2, hm2, by omega, by omega, hob2, Lib.hid (RQ.out.keep fun x hx => (b7.cell hx).trans (hb.cell hx).symm), Lib.hid (o7.base_le (by omega)), b7⟩
          case measure => simp [intOf]; omega

end Go.Proofs.Ytlelepopdjoedaa
