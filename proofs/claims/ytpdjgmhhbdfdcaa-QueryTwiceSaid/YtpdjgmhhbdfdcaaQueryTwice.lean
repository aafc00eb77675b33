/- QueryTwice returns true whatever comes in, and leaves all that was there as it was. -/
import Derived.Test.YtpdjgmhhbdfdcaaLaw24

namespace Go.Proofs.Ytpdjgmhhbdfdcaa
open Go.RowKit Go.Hm

theorem twice_ok (L : List Int) : (encQ L 0 0).isSome = decide (okCols L) := by
  unfold encQ qmay
  by_cases h : okCols L
  · simp [h]
  · simp [h]

set_option maxHeartbeats 2000000 in
set_option maxRecDepth 100000 in
theorem queryTwice_walk {w : World} {A : Option Addr} {n c : Nat} {L : List Int} (h : Reads w w.heap.size 1 A n (ints .i64 L)) (hn : n ≤ 100) (hL : ∀ x ∈ L, -9223372036854775808 ≤ x ∧ x ≤ 9223372036854775807) :
    Calls Try.prog 7 #[.slice A n c] w (SmallPost w) := by
  obtain rfl := h.lenI
  have HL := Lib.hid hL
  clear hL
  have HK := Lib.hid (twice_ok L)
  generalize (encQ L 0 0).isSome = B at HK
  go_enter Try.func7, Try.ntmps7
  go_wp2_with fail
  refine (small24_any w).mono ?_
  rintro e w1 ⟨rfl, b1⟩
  have r1 := Reads.later h b1
  have P1 := Lib.hid (qenc_any (c := c) (f := 0) (t := 0) r1 (by omega) HL.out)
  go_wp2_with fail
  refine P1.out.mono ?_
  intro e w2 hh
  obtain ⟨A2, n2, c2, rfl, k2, b2⟩ := hh.u
  have hB : (encQ L 0 0).isSome = B := by rw [HK.out]; exact twice_ok L
  rw [hB]
  have r2 := Reads.later r1 b2
  have b02 := New.trans b1 b2
  clear hh P1 b1 b2 k2 r1 h hB
  go_wp2
  go_loopw [6, 7] (fun v i wr => ∃ (k : Nat) (q : Bool), k ≤ L.length ∧ i = .int .i64 (k : Int) ∧ v = .bool q ∧ Hid (q = decide (okCols (L.take k))) ∧ New w2 wr) (fun _ i _ => L.length - (intOf i).toNat)
  case atStart => exact ⟨0, true, by omega, rfl, rfl, Lib.hid (by simp [okCols]), Below.refl _ _⟩
  case round =>
    obtain ⟨k, q, hk, rfl, rfl, HQ, hb⟩ := hrel
    by_cases hlt : k < L.length
    · obtain ⟨ad, hA, hbk, hcell⟩ := (r2.below hb).int hlt
      subst hA
      have T := take_snoc L k 0 hlt
      have ON := okCols_snoc (L.take k) (L.getD k 0)
      rw [← T] at ON
      have HY := Lib.hid (show L.getD k 0 = L.getD k 0 from rfl)
      clear T
      generalize hy : L.getD k 0 = y at *
      have HON := Lib.hid ON
      have HYY := Lib.hid hy
      clear ON HY hy
      have c0 : q = false ∨ (q = true ∧ ¬ 0 ≤ y) ∨ (q = true ∧ 0 ≤ y ∧ ¬ y < 64) ∨ (q = true ∧ 0 ≤ y ∧ y < 64) := by
        cases q
        · exact .inl rfl
        · by_cases h1 : 0 ≤ y
          · by_cases h2 : y < 64
            · exact .inr (.inr (.inr ⟨rfl, h1, h2⟩))
            · exact .inr (.inr (.inl ⟨rfl, h1, h2⟩))
          · exact .inr (.inl ⟨rfl, h1⟩)
      rcases c0 with rfl | ⟨rfl, h1⟩ | ⟨rfl, h1, h2⟩ | ⟨rfl, h1, h2⟩
      all_goals
        try (have d1 : decide (0 ≤ y) = true := by simpa using h1)
        try (have d1 : decide (0 ≤ y) = false := by simpa using h1)
        try (have d2 : decide (y < 64) = true := by simpa using h2)
        try (have d2 : decide (y < 64) = false := by simpa using h2)
        first
          | (have HI := Lib.hid (show true = decide (okCols (L.take k) ∧ (0 ≤ y ∧ y < 64) ∧ y ∉ L.take 0) by
               rw [eq_comm, decide_eq_true_eq]
               exact ⟨of_decide_eq_true HQ.out.symm, ⟨h1, h2⟩, by simp⟩))
          | (have HI := Lib.hid (show false = decide (okCols (L.take k) ∧ (0 ≤ y ∧ y < 64) ∧ y ∉ L.take 0) by
               rw [eq_comm, decide_eq_false_iff_not]
               rintro ⟨a, b, _⟩
               first
                 | omega
                 | (have hq := HQ.out
                    rw [decide_eq_true a] at hq
                    cases hq)))
        go_wp2
        obtain ⟨wo, rfl⟩ : ∃ wo : World, wo = wr := ⟨_, rfl⟩
        go_loopw [6, 8] (fun v i wr => ∃ (j : Nat) (q : Bool), j ≤ k ∧ i = .int .i64 (j : Int) ∧ v = .bool q ∧ Hid (q = decide (okCols (L.take k) ∧ (0 ≤ y ∧ y < 64) ∧ y ∉ L.take j)) ∧ New w2 wr) (fun _ i _ => k - (intOf i).toNat)
        case atStart => exact ⟨0, _, by omega, rfl, rfl, HI, hb⟩
        case round =>
          obtain ⟨j, q, hj, rfl, rfl, HJ, hb⟩ := hrel
          by_cases hlj : j < k
          · obtain ⟨ad1, e1', _, hc1⟩ := (r2.below hb).int (i := j) (by omega)
            injection e1' with e1'
            subst e1'
            obtain ⟨ad2, e2', _, hc2⟩ := (r2.below hb).int hlt
            injection e2' with e2'
            subst e2'
            rw [HYY.out] at hc2
            have T := Lib.hid (take_snoc L j 0 (by omega))
            have g1 : (0 : Int) ≤ (j : Int) := by omega
            have g2 : (j : Int) < (L.length : Int) := by omega
            have g3 : (0 : Int) ≤ (k : Int) := by omega
            have g4 : (k : Int) < (L.length : Int) := by omega
            have hx : q = false ∨ (q = true ∧ L.getD j 0 = y) ∨ (q = true ∧ ¬ L.getD j 0 = y) := by
              cases q
              · exact .inl rfl
              · by_cases he : L.getD j 0 = y
                · exact .inr (.inl ⟨rfl, he⟩)
                · exact .inr (.inr ⟨rfl, he⟩)
            rcases hx with rfl | ⟨rfl, he⟩ | ⟨rfl, he⟩
            · have HN := Lib.hid (show false = decide (okCols (L.take k) ∧ (0 ≤ y ∧ y < 64) ∧ y ∉ L.take (j + 1)) by
                rw [eq_comm, decide_eq_false_iff_not]
                rintro ⟨a, b, c⟩
                have hq := HJ.out
                rw [decide_eq_true ⟨a, b, fun hm => c (by rw [T.out]; exact List.mem_append_left _ hm)⟩] at hq
                cases hq)
              generalize L.getD j 0 = x at hc1
              go_wp2
              go_quiet (fail)
              go_wp2
              go_roundw
              case rel => exact ⟨j + 1, _, by omega, by go_num, rfl, HN, New.trans hb (new_drewN _ _)⟩
              case measure => simp [intOf]; omega
            · have HN := Lib.hid (show false = decide (okCols (L.take k) ∧ (0 ≤ y ∧ y < 64) ∧ y ∉ L.take (j + 1)) by
                rw [eq_comm, decide_eq_false_iff_not]
                rintro ⟨a, b, c⟩
                exact c (by rw [T.out, he]; simp))
              rw [he] at hc1
              have e3 : (y == y) = true := by simp
              clear he
              go_wp2
              go_quiet (fail)
              go_wp2
              go_roundw
              case rel => exact ⟨j + 1, _, by omega, by go_num, rfl, HN, New.trans hb (new_drewN _ _)⟩
              case measure => simp [intOf]; omega
            · have HN := Lib.hid (show true = decide (okCols (L.take k) ∧ (0 ≤ y ∧ y < 64) ∧ y ∉ L.take (j + 1)) by
                rw [eq_comm, decide_eq_true_eq]
                have hq := of_decide_eq_true HJ.out.symm
                refine ⟨hq.1, hq.2.1, fun hm => ?_⟩
                rw [T.out, List.mem_append, List.mem_singleton] at hm
                rcases hm with hm | hm
                · exact hq.2.2 hm
                · exact he hm.symm)
              have e3 : (y == L.getD j 0) = false := by rw [beq_eq_false_iff_ne]; exact fun hh => he hh.symm
              have He := Lib.hid he
              clear he
              generalize L.getD j 0 = x at hc1 e3
              go_wp2
              go_quiet (fail)
              go_wp2
              go_roundw
              case rel => exact ⟨j + 1, _, by omega, by go_num, rfl, Lib.hid (by rw [bne, e3]; exact HN.out), New.trans hb (new_drewN _ _)⟩
              case measure => simp [intOf]; omega
          · obtain rfl : j = k := by omega
            have HN := Lib.hid (show q = decide (okCols (L.take (j + 1))) by
              rw [HJ.out]
              exact decide_eq_decide.2 HON.out.symm)
            go_wp2
            go_roundw
            case rel => exact ⟨j + 1, _, by omega, by go_num, rfl, HN, hb⟩
            case measure => simp [intOf]; omega
    · obtain rfl : k = L.length := by omega
      have hq := HQ.out
      rw [List.take_length, ← HK.out] at hq
      subst hq
      clear HQ HK
      cases q
      all_goals
        go_wp2
        go_ret
        exact ⟨rfl, New.trans b02 hb⟩

set_option maxHeartbeats 400000 in
theorem queryTwice_big {w : World} {A : Option Addr} {n c : Nat} (hn : n ≤ 9223372036854775807) (hb : 100 < n) :
    Calls Try.prog 7 #[.slice A n c] w (SmallPost w) := by
  go_enter Try.func7, Try.ntmps7
  go_wp2_with (go_at_call 9; refine (small24_any w).mono ?_; rintro e w1 ⟨rfl, b1⟩)
  go_ret
  exact ⟨rfl, b1⟩

set_option maxRecDepth 100000 in
open Go.WideShapes Go.ChangeShapes in
theorem queryTwice_contract {H : Type} {enc : TypeId × Value → H} (W : World) (base : Nat) (args : Array Value) (ds : List (DataW H)) (ps : List MemPlace)
    (hval : ∀ (j : Nat) t v, Try.f7.params[j]? = some t → args[j]? = some v → Value.okWide Try.prog W .any base t v)
    (hA : DataW.TrodAll enc Try.prog W 0 (fun _ => true) true Try.f7.params.toList args.toList ds ps) (hlt : ∀ p ∈ ps, p.block < W.heap.size)
    (hsz : (DataW.weightsEach Try.prog Try.f7.params.toList ds).all (· ≤ reachBytes) = true) :
    Calls Try.prog 7 args W fun e W' => e = .returned (.bool true) ∧ Below W.heap.size W W' := by
  rw [Try.params7] at hA hval hsz
  obtain ⟨v0, d0, rfl, rfl, h0⟩ := trodAll_one hA
  obtain ⟨A_b, c_b, b, rfl, hc_b, hm_b, hr_b, hl_b⟩ := open_I (hval 0 _ _ rfl rfl) h0 hlt (sized_at hsz (j := 0) rfl rfl)
  by_cases hb : 100 < b.length
  · exact queryTwice_big (by omega) hb
  · exact queryTwice_walk hr_b (by omega) hl_b

end Go.Proofs.Ytpdjgmhhbdfdcaa
