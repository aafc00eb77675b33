/- Contract of the answer's Get. -/
import Derived.Test.YtpbfohgmhjadpabSchG
import Derived.Test.YtpbfohgmhjadpabColsR

namespace Go.Hm
theorem colS_none : (colS none).2 = none := rfl
theorem colsS_none : ∀ n, (colsS n none).2 = none
  | 0 => rfl
  | n + 1 => by rw [colsS]; simp only; rw [colS_none]; exact colsS_none n
theorem colsS_more (k : Nat) (S : St) (h : (colsS k S).2 = none) : ∀ m, (colsS (k + m) S).2 = none := by
  intro m
  induction m with
  | zero => exact h
  | succ m ih =>
    rw [← Nat.add_assoc, (colsS_snoc (k + m) S).2, ih, colS_none]

end Go.Hm

namespace Go.Proofs.Ytpbfohgmhjadpab
open Go.RowKit Go.Hm

def RColsPost (l : List ColS) (B g : Nat) (S : St) (w : World) (e : Ending) (w' : World) : Prop := ∃ A n c, e = .returned (.slice A n c) ∧ n ≤ c ∧ w'.ownsRow w.heap.size 42 3 (.slice A n c) n (recs colV l) ∧ RCurS w' B g S ∧ w.grownBy w' (some g)
theorem row_kept_cur {w w' : World} {base g : Nat} {e : TypeId} {sz n : Nat} {v : Value} {xs : List Value} (h : w.ownsRow base e sz v n xs) (hg : w.grownBy w' (some g)) (hlt : g < base) : w'.ownsRow base e sz v n xs :=
  World.ownsRow.kept h hg (.inr (fun e => by have := (World.ownsRow.lt h _ e).1; omega))

theorem grown_below2 {w w1 w2 : World} {row : Option Nat} (h : w.grownBy w1 row) (k : Below w.heap.size w1 w2) : w.grownBy w2 row :=
  ⟨k.os.trans h.os, k.tape.trans h.tape, k.output.trans h.output, Nat.le_trans h.size k.size, fun i hi hne => (k.block i hi).trans (h.block i hi hne)⟩
theorem rcur_push {w w' : World} {B base g : Nat} {S : St} {e : TypeId} {sz n : Nat} {v : Value} {xs : List Value} (h : RCurS w B g S) (o : w.ownsRow base e sz v n xs) (hg : w.grownBy w' v.ownBlock) (hlt : g < base) : RCurS w' B g S := by
  cases hv : v.ownBlock with
  | none =>
    rw [hv] at hg
    exact h.below ((Turns.of_none (T := []) hg).new (by simp))
  | some g' =>
    have h1 := World.ownsRow.lt o g' hv
    have h2 := h.ge
    rw [hv] at hg
    exact h.keep hg (by omega) (by omega)

set_option maxHeartbeats 1000000 in
set_option maxRecDepth 100000 in
theorem rsget_any {w : World} {B g : Nat} {S : St} (h : RCurS w B g S) : Calls Try.prog 14 #[.pointer (some ⟨g, 0, none⟩)] w (RColsPost (getC S).1 B g (getC S).2 w) := by
  have hok := h.ok
  have hg := h.lt
  have hBg := h.ge
  have P1 := Lib.hid (rlenS_any (m := 64) h (by omega) (by omega))
  have hl := lenS_le (m := 64) S (by omega) hok
  have ok1 := lenS_ok (m := 64) hok
  generalize hR : getC S = R at *
  unfold getC at hR
  generalize lenS 64 S = R1 at *
  obtain ⟨n, S1⟩ := R1
  simp only at hl ok1 hR P1
  have HR := Lib.hid hR
  clear hR h hok
  go_enter Try.func14, Try.ntmps14
  go_wp2_with fail
  refine P1.out.mono ?_
  rintro e w1 ⟨rfl, C1, G1⟩
  clear P1
  go_wp2
  go_loopw [4, 5] (fun v i wr => ∃ (k : Nat) (A : Option Addr) (c : Nat), i = .int .i64 (k : Int) ∧ k ≤ n ∧ v = .slice A k c ∧ RCurS wr B g (colsS k S1).2 ∧ wr.ownsRow w.heap.size 42 3 (.slice A k c) k (recs colV (colsS k S1).1) ∧ w.grownBy wr (some g)) (fun _ i _ => n - (intOf i).toNat)
  case atStart => exact ⟨0, none, 0, rfl, by omega, rfl, C1, row_nil, G1⟩
  case round =>
    obtain ⟨k, A3, c3, rfl, hk, rfl, C3, o3, G3⟩ := hrel
    have x1 := C3.is
    have hfinish : ∀ (L : List ColS) (S5 : St), colsS k S1 = (L, S5) → (S5 = none ∨ k = n) → R = (if S5 = none ∨ ¬ colsCk L = 0 then ([], none) else (L, S5)) := fun L S5 he hs => by
      rw [← HR.out]
      rcases hs with rfl | rfl
      · have h1 := colsS_more k S1 (by rw [he]) (n - k)
        rw [show k + (n - k) = n by omega] at h1
        rw [if_pos (.inl h1), if_pos (.inl rfl)]
      · rw [he]
    have hlen := colsS_len k S1
    have hfin := colsS_fine k ok1
    obtain ⟨q1, q2⟩ := colsS_snoc k S1
    have okk := colsS_ok k ok1
    generalize hck : colsS k S1 = R5 at *
    obtain ⟨L, S5⟩ := R5
    simp only at C3 x1 hlen hfin q1 q2 okk o3
    by_cases hgo : k < n ∧ ¬ S5 = none
    · obtain ⟨hlt, hs5⟩ := hgo
      obtain ⟨l5, rfl⟩ : ∃ l5, S5 = some l5 := by
        cases S5 with
        | none => exact absurd rfl hs5
        | some l5 => exact ⟨l5, rfl⟩
      have HQ1 := Lib.hid q1
      have HQ2 := Lib.hid q2
      clear q1 q2 hfinish hck hs5 hfin
      have P1 := Lib.hid (rlenS_any (m := 100) C3 (by omega) (by omega))
      have hl1 := lenS_le (m := 100) (some l5) (by omega) okk
      have ok1 := lenS_ok (m := 100) okk
      generalize hS : colS (some l5) = R4 at *
      unfold colS at hS
      generalize lenS 100 (some l5) = Q1 at *
      obtain ⟨n1, S1'⟩ := Q1
      simp only at hl1 ok1 hS P1
      have HS := Lib.hid hS
      have z0 : w.heap.size ≤ wr.heap.size := G3.size
      have O3 := Lib.hid o3
      clear hS C3 okk o3
      go_wp2_with fail
      refine P1.out.mono ?_
      rintro e w4 ⟨rfl, C4, G4⟩
      have O4 := Lib.hid (row_kept_cur O3.out G4 hg)
      have G04 := G3.trans G4
      have P2 := Lib.hid (rtakeS_any (n := (n1 : Int)) C4 (by omega) (by omega))
      obtain ⟨ok2, l2⟩ := takeS_ok (n := (n1 : Int)) ok1
      replace HS := HS.out
      generalize takeS (n1 : Int) S1' = Q2 at *
      obtain ⟨s2, S2⟩ := Q2
      simp only at ok2 l2 HS P2
      replace HS := Lib.hid HS
      clear P1 C4 G4 x1 O3
      go_wp2_with fail
      refine P2.out.mono ?_
      rintro e w5 ⟨A2, n2, c2, rfl, e2, k2, C5, G5⟩
      have O5 := Lib.hid (row_kept_cur O4.out G5 hg)
      have G05 := G04.trans G5
      have X2 := run_strB (c := c2) k2.reads
      have P3 := Lib.hid (rbyteS_any C5)
      have ok3 := byteS_ok ok2
      have lt3 := byteS_lt ok2
      replace HS := HS.out
      generalize byteS S2 = Q3 at *
      obtain ⟨t3, S3⟩ := Q3
      simp only at ok3 lt3 HS P3
      replace HS := Lib.hid HS
      clear P2 C5 G5 G04 O4 k2 e2
      have e3 : IntKind.i64.wrap (t3 : Int) = (t3 : Int) := IntWalk.i64_in _ (by omega)
      go_wp2_with fail
      refine P3.out.mono ?_
      rintro e w6 ⟨rfl, C6, G6⟩
      have O6 := Lib.hid (row_kept_cur O5.out G6 hg)
      have G06 := G05.trans G6
      have P4 := Lib.hid (rbyteS_any C6)
      have lt4 := byteS_lt ok3
      replace HS := HS.out
      generalize byteS S3 = Q4 at *
      obtain ⟨u4, S4⟩ := Q4
      simp only at lt4 HS P4
      replace HS := Lib.hid HS
      clear P3 C6 G6 G05 O5 X2
      go_wp2_with fail
      refine P4.out.mono ?_
      rintro e w7 ⟨rfl, C7, G7⟩
      have O7 := Lib.hid (row_kept_cur O6.out G7 hg)
      have G07 := G06.trans G7
      clear P4 G7 G06 O6
      by_cases hu : 1 < u4
      · have P5 := Lib.hid (rfailS C7)
        go_wp2_with fail
        refine P5.out.mono ?_
        rintro e w8 ⟨rfl, C8, G8⟩
        have o8 := row_kept_cur O7.out G8 hg
        have G08 := G07.trans G8
        have z8 := G08.size
        have N8 := Lib.hid G08
        clear P5 C7 G8 O7 G07
        have eb : ((u4 : Int) == 1) = decide (u4 = 1) := by rw [Bool.eq_iff_iff]; simp; omega
        go_wp2_with (refine wpList_pushR elC rfl (.tmp 38) (.tmp 44) rfl (W := w8) (B := w.heap.size) (base := w.heap.size) (n := k) o8 rfl rfl (Below.refl _ _) (Nat.le_refl _) z8 rfl (by simp [Value.oneCell']) (by omega) (by simp only [maxLen]; omega) ?_
                     intro A9 c9 w9 _ _ o9 g9 b9 z9 _
                     have C9 := rcur_push C8 o8 g9 hg
                     have G9 := grown_below2 G08 b9)
        go_roundw
        case rel =>
          have hs := HS.out
          rw [if_pos hu] at hs
          subst hs
          refine ⟨k + 1, A9, c9, by go_num, by omega, rfl, by rw [HQ2.out]; exact C9, ?_, G9⟩
          rw [HQ1.out, recs_append]
          exact o9
        case measure => simp [intOf]; omega
      · have o7 := O7.out
        have z7 := G07.size
        have eb : ((u4 : Int) == 1) = decide (u4 = 1) := by rw [Bool.eq_iff_iff]; simp; omega
        go_wp2_with (refine wpList_pushR elC rfl (.tmp 38) (.tmp 44) rfl (W := w7) (B := w.heap.size) (base := w.heap.size) (n := k) o7 rfl rfl (Below.refl _ _) (Nat.le_refl _) z7 rfl (by simp [Value.oneCell']) (by omega) (by simp only [maxLen]; omega) ?_
                     intro A9 c9 w9 _ _ o9 g9 b9 z9 _
                     have C9 := rcur_push C7 o7 g9 hg
                     have G9 := grown_below2 G07 b9)
        go_roundw
        case rel =>
          have hs := HS.out
          rw [if_neg hu] at hs
          subst hs
          refine ⟨k + 1, A9, c9, by go_num, by omega, rfl, by rw [HQ2.out]; exact C9, ?_, G9⟩
          rw [HQ1.out, recs_append]
          exact o9
        case measure => simp [intOf]; omega
    · have hs : S5 = none ∨ k = n := by
        by_cases h1 : S5 = none
        · exact .inl h1
        · exact .inr (by have : ¬ k < n := fun hh => hgo ⟨hh, h1⟩; omega)
      have hRR := hfinish L S5 rfl hs
      clear hfinish hgo q1 q2 hck
      subst hlen
      have r3 := Reads.of_own o3
      have P6 := Lib.hid (rcols_any (c := c3) r3 (fun x hx => ⟨(hfin x hx).1, by have := (hfin x hx).2; omega⟩) (by omega))
      have o3' := Lib.hid o3
      have x1' : ∀ W, New wr W → W.cell? ⟨g, 1, none⟩ = some (.bool S5.isNone) := fun W hW => (C3.below hW).is
      have X1 := Lib.hid x1'
      clear x1'
      have hc : (S5 = none) ∨ (S5.isNone = false ∧ L.length = n) := by
        cases S5 with
        | none => exact .inl rfl
        | some l => exact .inr ⟨rfl, by rcases hs with hs | hs; cases hs; exact hs⟩
      rcases hc with rfl | ⟨hc, hkn⟩
      · rw [if_pos (.inl rfl)] at hRR
        subst hRR
        simp only [Option.isNone_none] at x1 X1
        clear hs
        have hgo : L.length < n ∨ L.length = n := by omega
        clear HR
        rcases hgo with hgo | rfl
        all_goals
          go_wp2_with fail
          refine P6.out.mono ?_
          rintro e w6 ⟨rfl, b6⟩
          have x6 := X1.out w6 b6
          have P7 := Lib.hid (rfailS (C3.below b6))
          go_wp2_with fail
          refine P7.out.mono ?_
          rintro e w7 ⟨rfl, C7, G7⟩
          go_wp2
          go_ret
          exact ⟨none, 0, 0, rfl, by omega, row_nil, C7, (grown_below G3 b6).trans G7⟩
      · rw [hc] at x1 X1
        clear HR
        subst hkn
        by_cases hck : colsCk L = 0
        · rw [if_neg (by simp [hck]; cases S5; cases hc; simp)] at hRR
          subst hRR
          rw [hck] at P6
          go_wp2_with fail
          refine P6.out.mono ?_
          rintro e w6 ⟨rfl, b6⟩
          have x6 := X1.out w6 b6
          have hle : L.length ≤ c3 := by
            obtain ⟨A', c', hcv, hcv1, _⟩ := row_slice o3'.out
            injection hcv with _ _ e3
            omega
          go_wp2
          go_ret
          exact ⟨_, _, _, rfl, by omega, row_later o3'.out b6, C3.below b6, grown_below G3 b6⟩
        · rw [if_pos (.inr hck)] at hRR
          subst hRR
          generalize colsCk L = ck at *
          have e1 : (ck != 0) = true := by simpa using hck
          clear hck
          go_wp2_with fail
          refine P6.out.mono ?_
          rintro e w6 ⟨rfl, b6⟩
          have x6 := X1.out w6 b6
          have P7 := Lib.hid (rfailS (C3.below b6))
          go_wp2_with fail
          refine P7.out.mono ?_
          rintro e w7 ⟨rfl, C7, G7⟩
          go_wp2
          go_ret
          exact ⟨none, 0, 0, rfl, by omega, row_nil, C7, (grown_below G3 b6).trans G7⟩

end Go.Proofs.Ytpbfohgmhjadpab
