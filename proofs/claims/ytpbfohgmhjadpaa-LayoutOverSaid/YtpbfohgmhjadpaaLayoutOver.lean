/- LayoutOver returns true whatever comes in, and leaves all that was there as it was. -/
import Derived.Test.YtpbfohgmhjadpaaLaw18

namespace Go.Hm
/-- Spans that begin at 0 stand one behind the other. -/
theorem cut_adj {t s : Int} : (∀ i, i + 1 < (cutS 0 t s).length → ((cutS 0 t s).getD i (0, 0)).2 = ((cutS 0 t s).getD (i + 1) (0, 0)).1) ∧ (∀ i, i < (cutS 0 t s).length → (i = 0 → ((cutS 0 t s).getD i (0, 0)).1 = 0) ∧ (i + 1 = (cutS 0 t s).length → ((cutS 0 t s).getD i (0, 0)).2 = t)) := by
  by_cases hg : (0 : Int) < 0 ∨ t ≤ 0 ∨ 65536 < t ∨ s < 1
  · rw [cutS_none hg]
    exact ⟨fun i h => by simp at h, fun i h => by simp at h⟩
  · obtain ⟨t, rfl⟩ := Int.eq_ofNat_of_zero_le (show 0 ≤ t by omega)
    obtain ⟨s, rfl⟩ := Int.eq_ofNat_of_zero_le (show 0 ≤ s by omega)
    have e := cutS_nat (f := 0) (t := t) (s := s) (by omega) (by omega) (by omega)
    simp only [Int.natCast_zero] at e
    rw [e]
    have hs : 0 < s := by omega
    have L := spanN_lt (f := 0) (t := t) hs
    refine ⟨fun i h => ?_, fun i h => ⟨fun h0 => ?_, fun h1 => ?_⟩⟩
    · rw [spansN_len] at h
      rw [spansN_at (by omega), spansN_at h]
      have := (L (i + 1)).1 h
      unfold spanAt
      simp only
      omega
    · rw [spansN_len] at h
      rw [spansN_at h]
      unfold spanAt
      subst h0
      simp
    · rw [spansN_len] at h h1
      rw [spansN_at h]
      have : ¬ 0 + (i + 1) * s < t := fun hh => by have := (L (i + 1)).2 hh; omega
      unfold spanAt
      simp only
      omega

end Go.Hm

namespace Go.Proofs.Ytpbfohgmhjadpaa
open Go.RowKit Go.Hm

set_option maxHeartbeats 2000000 in
set_option maxRecDepth 100000 in
theorem layoutOver_walk {w : World} {t s x y : Int} (h2 : t ≤ 9223372036854775807) (h3 : s ≤ 9223372036854775807) :
    Calls Try.prog 5 #[.int .i64 t, .int .i64 s, .int .i64 x, .int .i64 y] w (SmallPost w) := by
  have HF := Lib.hid (fun W => few18_any 0 t s W)
  have HC := Lib.hid (fun W => cut_any 0 t s (by omega) h2 h3 W)
  have hu := cutS_up 0 t s
  have hl := cutS_len 0 t s
  have ha := cut_adj (t := t) (s := s)
  generalize cutS 0 t s = l at *
  have HU := Lib.hid hu
  have HA := Lib.hid ha
  clear hu h2 h3 ha
  go_enter Try.func5, Try.ntmps5
  go_wp2_with fail
  refine (small18_any w).mono ?_
  rintro e w1 ⟨rfl, b1⟩
  go_wp2_with fail
  refine (HF.out w1).mono ?_
  rintro e w2 ⟨bb, rfl, rfl⟩
  cases bb
  · go_wp2
    go_ret
    exact ⟨rfl, b1⟩
  · go_wp2_with fail
    refine (HC.out w1).mono ?_
    rintro e w2 ⟨A2, n2, c2, rfl, k2, b2⟩
    have r2 := Reads.of_own k2
    obtain rfl := r2.lenP
    have b02 := New.trans b1 b2
    have P4 := Lib.hid (over_any (c := c2) (f := x) (t := y) r2 HU.out (by omega))
    clear k2 b2 b1
    go_wp2_with fail
    refine P4.out.mono ?_
    rintro e w3 ⟨a, b, rfl, o1, b3⟩
    have r3 := Reads.later r2 b3
    have b03 := New.trans b02 b3
    have O1 := Lib.hid o1
    obtain ⟨o2, o3, o4, o5⟩ := o1
    clear o5
    have t1 : decide ((a : Int) < 0) = false := by simp
    have t2 : decide (b < a) = false := by simp; omega
    have t3 : decide (l.length < b) = false := by simp; omega
    clear P4 b3 b02 r2
    go_wp2
    clear t1 t2 t3
    go_loopw [14] (fun i wr => ∃ k q : Nat, i = .int .i64 (k : Int) ∧ k ≤ l.length ∧ wr = w3.drewN q) (fun i _ => l.length - (intOf i).toNat)
    case atStart => exact ⟨0, 0, rfl, by omega, rfl⟩
    case round =>
      obtain ⟨k, q, rfl, hk, rfl⟩ := hrel
      by_cases hlt : k < l.length
      · obtain ⟨ad, rfl, hb, c1, c3⟩ := (r3.drewN q).pair2 hlt
        have HH := O1.out.2.2.2 k hlt
        unfold hasS at HH
        generalize (l.getD k (0, 0)).1 = y1 at *
        generalize (l.getD k (0, 0)).2 = y2 at *
        have hiz : (k : Int) < (l.length : Int) := by omega
        have hc : (a ≤ k ∧ k < b ∧ y1 < y ∧ x < y2 ∧ x < y) ∨ (¬ (a ≤ k ∧ k < b) ∧ ¬ (y1 < y ∧ x < y2 ∧ x < y)) := by
          by_cases h : a ≤ k ∧ k < b
          · exact .inl ⟨h.1, h.2, HH.1 h⟩
          · exact .inr ⟨h, fun hh => h (HH.2 hh)⟩
        clear HH
        rcases hc with ⟨j1, j2, j3, j4, j5⟩ | ⟨j1, j2⟩
        ·
          try (have e1 : decide (y1 < y) = true := by simp; omega)
          try (have e1 : decide (y1 < y) = false := by simp; omega)
          try (have e2 : decide (x < y2) = true := by simp; omega)
          try (have e2 : decide (x < y2) = false := by simp; omega)
          try (have e3 : decide (x < y) = true := by simp; omega)
          try (have e3 : decide (x < y) = false := by simp; omega)
          try (have e4 : decide (a ≤ k) = true := by simp; omega)
          try (have e4 : decide (a ≤ k) = false := by simp; omega)
          try (have e5 : decide (k < b) = true := by simp; omega)
          try (have e5 : decide (k < b) = false := by simp; omega)
          go_wp2
          go_roundw
          case rel => exact ⟨k + 1, q, by go_num, by omega, rfl⟩
          case measure => simp [intOf]; omega
        · have j1 : k < a ∨ (a ≤ k ∧ b ≤ k) := by omega
          have j2 : y ≤ y1 ∨ (y1 < y ∧ y2 ≤ x) ∨ (y1 < y ∧ x < y2 ∧ y ≤ x) := by omega
          rcases j1 with j1 | ⟨j1, j3⟩ <;> rcases j2 with j2 | ⟨j2, j4⟩ | ⟨j2, j4, j5⟩
          all_goals
            try (have e1 : decide (y1 < y) = true := by simp; omega)
            try (have e1 : decide (y1 < y) = false := by simp; omega)
            try (have e2 : decide (x < y2) = true := by simp; omega)
            try (have e2 : decide (x < y2) = false := by simp; omega)
            try (have e3 : decide (x < y) = true := by simp; omega)
            try (have e3 : decide (x < y) = false := by simp; omega)
            try (have e4 : decide (a ≤ k) = true := by simp; omega)
            try (have e4 : decide (a ≤ k) = false := by simp; omega)
            try (have e5 : decide (k < b) = true := by simp; omega)
            try (have e5 : decide (k < b) = false := by simp; omega)
            go_wp2
            go_roundw
            case rel => exact ⟨k + 1, q, by go_num, by omega, rfl⟩
            case measure => simp [intOf]; omega
      · obtain rfl : k = l.length := by omega
        clear hk hlt
        by_cases hab : a < b
        · obtain ⟨ad, rfl, hb, c1, c3⟩ := (r3.drewN q).pair2 (i := a) (by omega)
          obtain ⟨ad', e', hb', c1', c3'⟩ := (r3.drewN q).pair2 (i := b - 1) (by omega)
          injection e' with e'
          subst e'
          have f1 : x < (l.getD a (0, 0)).1 → (l.getD a (0, 0)).1 = 0 := by
            intro hh
            by_cases h0 : a = 0
            · exact (HA.out.2 a (by omega)).1 h0
            · exfalso
              have h1 := HA.out.1 (a - 1) (by omega)
              rw [show a - 1 + 1 = a by omega] at h1
              have h2 := (O1.out.2.2.2 a (by omega)).1 ⟨by omega, hab⟩
              have h3 := HU.out.2 (a - 1) (by omega)
              unfold hasS at h2
              have := (O1.out.2.2.2 (a - 1) (by omega)).2 ⟨by omega, by omega, h2.2.2⟩
              omega
          have f2 : (l.getD (b - 1) (0, 0)).2 < y → (l.getD (b - 1) (0, 0)).2 = t := by
            intro hh
            by_cases h0 : b = l.length
            · exact (HA.out.2 (b - 1) (by omega)).2 (by omega)
            · exfalso
              have h1 := HA.out.1 (b - 1) (by omega)
              rw [show b - 1 + 1 = b by omega] at h1
              have h2 := (O1.out.2.2.2 (b - 1) (by omega)).1 ⟨by omega, by omega⟩
              have h3 := HU.out.2 b (by omega)
              unfold hasS at h2
              have := (O1.out.2.2.2 b (by omega)).2 ⟨by omega, by omega, h2.2.2⟩
              omega
          generalize (l.getD a (0, 0)).1 = ya at *
          generalize (l.getD (b - 1) (0, 0)).2 = yb at *
          generalize (l.getD a (0, 0)).2 = ya' at *
          generalize (l.getD (b - 1) (0, 0)).1 = yb' at *
          have i1 : (a : Int) < (l.length : Int) := by omega
          obtain ⟨B, hB⟩ : ∃ B, B = b - 1 := ⟨_, rfl⟩
          have i2 : IntKind.i64.wrap ((b : Int) - 1) = (B : Int) := by rw [IntWalk.i64_in _ (by omega)]; omega
          have i3 : (B : Int) < (l.length : Int) := by omega
          rw [← hB] at c1' c3'
          have f1 : ya ≤ x ∨ (x < ya ∧ ya = 0) := by omega
          have f2 : y ≤ yb ∨ (yb < y ∧ yb = t) := by omega
          clear hB O1 HA HU
          rcases f1 with f1 | ⟨f1, rfl⟩ <;> rcases f2 with f2 | ⟨f2, rfl⟩
          all_goals
            have e0 : decide (a < b) = true := by simp; omega
            try (have e1 : decide (x < ya) = true := by simp; omega)
            try (have e1 : decide (x < ya) = false := by simp; omega)
            try (have e1 : decide (x < (0 : Int)) = true := by simp; omega)
            try (have e2 : decide (yb < y) = true := by simp; omega)
            try (have e2 : decide (yb < y) = false := by simp; omega)
            try (have e2 : decide (t < y) = true := by simp; omega)
            go_wp2
            go_ret
            exact ⟨by simp, New.trans b03 (new_drewN _ _)⟩
        · obtain ⟨rfl, rfl⟩ : a = 0 ∧ b = 0 := by omega
          go_wp2
          go_ret
          exact ⟨by simp, New.trans b03 (new_drewN _ _)⟩

set_option maxRecDepth 100000 in
open Go.WideShapes Go.ChangeShapes in
theorem layoutOver_contract {H : Type} {enc : TypeId × Value → H} (W : World) (base : Nat) (args : Array Value) (ds : List (DataW H)) (ps : List MemPlace)
    (hval : ∀ (j : Nat) t v, Try.f5.params[j]? = some t → args[j]? = some v → Value.okWide Try.prog W .any base t v)
    (hA : DataW.TrodAll enc Try.prog W 0 (fun _ => true) true Try.f5.params.toList args.toList ds ps) (hlt : ∀ p ∈ ps, p.block < W.heap.size)
    (hsz : (DataW.weightsEach Try.prog Try.f5.params.toList ds).all (· ≤ reachBytes) = true) :
    Calls Try.prog 5 args W fun e W' => e = .returned (.bool true) ∧ Below W.heap.size W W' := by
  rw [Try.params5] at hA hval hsz
  obtain ⟨v0, v1, v2, v3, d0, d1, d2, d3, p0, p1, p2, p3, rfl, rfl, rfl, h0, h1, h2, h3⟩ := trodAll_four hA
  obtain ⟨a, rfl, wa, wa'⟩ := open_i64 (hval 0 _ _ rfl rfl) h0
  obtain ⟨b, rfl, wb, wb'⟩ := open_i64 (hval 1 _ _ rfl rfl) h1
  obtain ⟨c, rfl, wc, wc'⟩ := open_i64 (hval 2 _ _ rfl rfl) h2
  obtain ⟨d, rfl, wd, wd'⟩ := open_i64 (hval 3 _ _ rfl rfl) h3
  exact layoutOver_walk wa' wb'

end Go.Proofs.Ytpbfohgmhjadpaa
