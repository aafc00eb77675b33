/- StatNulls returns true whatever comes in, and leaves all that was there as it was. -/
import Derived.Test.YthdkbfffjlkbpaaBun6

namespace Go.Hm
open Go Go.RowKit
theorem recs_more {L : List CellS} {k : Nat} {c : CellS} : recs cellV (L ++ List.replicate (k + 1) c) = recs cellV (L ++ List.replicate k c) ++ cellV c := by
  rw [List.replicate_succ', ← List.append_assoc, recs_append]
  congr 1
theorem nullsL_rep (n : Nat) (c : CellS) : nullsL (List.replicate n c) = if c.1 then n else 0 := by
  unfold nullsL
  cases hc : c.1 <;> simp [hc]
def rowS (n m : Nat) (c : CellS) : StatS := if m = 0 then ((n : Int), false, cell0, cell0) else ((n : Int), true, c, c)
theorem isStat_row (t : Int) (n m : Nat) {o c : CellS} (ho : o.1 = true) (hc : c.1 = false) : IsStat t (List.replicate n o ++ List.replicate m c) (rowS n m c) := by
  have hn : nullsL (List.replicate n o ++ List.replicate m c) = n := by rw [nullsL_append, nullsL_rep, nullsL_rep, if_pos ho, if_neg (by simp [hc])]; omega
  have hmem : ∀ d ∈ List.replicate n o ++ List.replicate m c, d.1 = false → d = c := fun d hd e => by
    rcases List.mem_append.1 hd with hd | hd
    · rw [(List.mem_replicate.1 hd).2, ho] at e; cases e
    · exact (List.mem_replicate.1 hd).2
  have h0 := cmpD_self t c
  unfold rowS
  by_cases hm : m = 0
  · rw [if_pos hm]
    subst hm
    refine ⟨by rw [hn], ?_, fun _ => ⟨rfl, rfl⟩, fun h => by simp at h, fun h => by simp at h⟩
    constructor
    · intro h; simp at h
    · rintro ⟨d, hd, e⟩
      simp at hd
      rw [hd.2, ho] at e
      cases e
  · rw [if_neg hm]
    have hcm : c ∈ List.replicate n o ++ List.replicate m c := List.mem_append_right _ (List.mem_replicate.2 ⟨hm, rfl⟩)
    refine ⟨by rw [hn], ⟨fun _ => ⟨c, hcm, hc⟩, fun _ => rfl⟩, fun h => by simp at h, fun _ => ⟨⟨hcm, hc⟩, fun d hd e => ?_⟩, fun _ => ⟨⟨hcm, hc⟩, fun d hd e => ?_⟩⟩
    · rw [hmem d hd e]; show cmpD t c c ≤ 0; omega
    · rw [hmem d hd e]; show cmpD t c c ≤ 0; omega

end Go.Hm

namespace Go.Proofs.Ythdkbfffjlkbpaa
open Go.RowKit Go.Hm
theorem elC : ElT Try.prog 22 29 (.agg #[.bool false, .int .i64 0, .string ⟨#[]⟩, .int .i64 0, .int .i64 0]) 5 48 := ⟨by kernel_rfl, by kernel_rfl, rfl, by omega⟩
set_option maxHeartbeats 1000000 in
set_option maxRecDepth 100000 in
theorem neqS_self (s : StatS) (w : World) : (binOp .neq 31 (statA s) (statA s)).run Try.prog w = .ok (.bool false) w := by
  obtain ⟨n, b, ⟨p1, p2, p3, p4, p5⟩, ⟨q1, q2, q3, q4, q5⟩⟩ := s
  show (binOp .neq 31 (.agg #[.int .i64 n, .bool b, .bool p1, .int .i64 p2, .string (bstr p3), .int .i64 p4, .int .i64 p5, .bool q1, .int .i64 q2, .string (bstr q3), .int .i64 q4, .int .i64 q5]) (.agg #[.int .i64 n, .bool b, .bool p1, .int .i64 p2, .string (bstr p3), .int .i64 p4, .int .i64 p5, .bool q1, .int .i64 q2, .string (bstr q3), .int .i64 q4, .int .i64 q5])).run Try.prog w = _
  go_simp
set_option maxHeartbeats 4000000 in
set_option maxRecDepth 100000 in
theorem statNulls_walk {w : World} {t n m : Int} {c : CellS} (hf : CellFine c) :
    Calls Try.prog 8 #[.int .i64 t, .int .i64 n, .int .i64 m, .agg (cellV c).toArray] w (SmallPost w) := by
  have CW := fun (W : World) => cells_any (t := t) (c := 1) (L := [c]) (Reads.litR W 29 (cellV c).toArray 1 5 (recs cellV [c]) (by simp [recs]) (by simp [recs, cellV])) (fun y hy => by rw [List.mem_singleton.1 hy]; exact hf.1.1) (by omega)
  have HC := fun (e : cellsB t [c] = true) => (cellsB_iff.1 e).1 c (by simp)
  generalize hq : cellsB t [c] = q at *
  obtain ⟨y0, y1, y2, y3, y4⟩ := c
  have zs := bstr_size y2
  have CW : Hid (∀ W : World, Calls Try.prog 11 #[.int .i64 t, .slice (some ⟨W.heap.size, 0, none⟩) 1 1] (W.alloc (.cells #[.bool y0, .int .i64 y1, .string (bstr y2), .int .i64 y3, .int .i64 y4] 29)) (NewPost (.bool q) (W.alloc (.cells #[.bool y0, .int .i64 y1, .string (bstr y2), .int .i64 y3, .int .i64 y4] 29)))) := Lib.hid CW
  show Calls Try.prog 8 #[.int .i64 t, .int .i64 n, .int .i64 m, .agg #[.bool y0, .int .i64 y1, .string (bstr y2), .int .i64 y3, .int .i64 y4]] w (SmallPost w)
  have B0 := Blk.new w 29 #[.bool y0, .int .i64 y1, .string (bstr y2), .int .i64 y3, .int .i64 y4]
  have al : New w (w.alloc (.cells #[.bool y0, .int .i64 y1, .string (bstr y2), .int .i64 y3, .int .i64 y4] 29)) := (Below.refl _ _).alloc (Nat.le_refl _) _
  have HHC := Lib.hid HC
  have HF := Lib.hid hf
  clear HC hq hf
  go_enter Try.func8, Try.ntmps8
  go_wp2_with fail
  refine (small15_any _).mono ?_
  rintro e w1 ⟨rfl, b1⟩
  have b01 := New.trans al b1
  have B1 := B0.below b1 B0.lt
  clear B0 al b1
  obtain ⟨x0, x1, x2, x3, x4⟩ := cells5 B1
  by_cases h1 : n < 0
  · go_wp2_with fail
    go_ret
    exact ⟨rfl, b01⟩
  by_cases h2 : 100 < n
  · go_wp2_with fail
    go_ret
    exact ⟨rfl, b01⟩
  by_cases h3 : m < 0
  · go_wp2_with fail
    go_ret
    exact ⟨rfl, b01⟩
  by_cases h4 : 100 < m
  · go_wp2_with fail
    go_ret
    exact ⟨rfl, b01⟩
  by_cases h5 : 300 < y2.length
  · have d5 : decide (300 < (y2.length : Int)) = true := by simp; omega
    go_wp2_with fail
    go_ret
    exact ⟨rfl, b01⟩
  have d5 : decide (300 < (y2.length : Int)) = false := by simp; omega
  go_wp2_with fail
  refine (CW.out _).mono ?_
  rintro e w2 ⟨rfl, b2⟩
  have b12 : New w1 w2 := New.trans ((Below.refl _ _).alloc (Nat.le_refl _) _) b2
  have b02 := New.trans b01 b12
  have B2 := B1.below b12 B1.lt
  clear b2 B1 b01 b12 x0 x1 x2 x3 x4 d5 CW
  obtain ⟨x0, x1, x2, x3, x4⟩ := cells5 B2
  cases q with
  | false =>
    go_wp2_with fail
    go_ret
    exact ⟨rfl, b02⟩
  | true =>
    cases y0 with
    | true =>
      go_wp2_with fail
      go_ret
      exact ⟨rfl, b02⟩
    | false =>
      have hrc := HHC.out (by trivial)
      obtain ⟨n, rfl⟩ := Int.eq_ofNat_of_zero_le (show 0 ≤ n by omega)
      obtain ⟨m, rfl⟩ := Int.eq_ofNat_of_zero_le (show 0 ≤ m by omega)
      have hn : n ≤ 100 := by omega
      have hm : m ≤ 100 := by omega
      have hny : near (false, y1, y2, y3, y4) := right_near hrc
      have HRC := Lib.hid hrc
      have HNY := Lib.hid hny
      have HB := Lib.hid B2
      have Hb := Lib.hid b02
      clear h1 h2 h3 h4 hrc hny HHC B2 b02
      go_wp2_with fail
      clear x0 x1 x2 x3 x4
      go_loopw [10, 11] (fun v i wr => ∃ (k cc : Nat) (AA : Option Addr), k ≤ n ∧ i = .int .i64 (k : Int) ∧ v = .slice AA k cc ∧ wr.ownsRow w2.heap.size 29 5 (.slice AA k cc) k (recs cellV (List.replicate k cO ++ List.replicate 0 (false, y1, y2, y3, y4))) ∧ New w2 wr) (fun _ i _ => n - (intOf i).toNat)
      case atStart => exact ⟨0, 0, none, Nat.zero_le _, rfl, rfl, by simpa [recs] using row_nil, New.refl _⟩
      case round =>
        obtain ⟨k, cc, AA, hk, rfl, rfl, o, b⟩ := hrel
        have hz := b.size
        by_cases hlt : k < n
        · have hlt' : (k : Int) < (n : Int) := by omega
          go_wp2_with (refine wpList_pushR elC rfl (.tmp 52) (.tmp 54) rfl (W := w2) (B := w2.heap.size) (base := w2.heap.size) (n := k) o rfl rfl b (Nat.le_refl _) hz rfl (by simp [Value.oneCell']) (by omega) (by simp only [maxLen]; omega) ?_
                       intro A5 c5 w5 _ _ o5 _ b5 _ _)
          go_roundw
          case rel => exact ⟨k + 1, c5, A5, by omega, by go_num, rfl, by
              have e : recs cellV (List.replicate (k + 1) cO ++ List.replicate 0 (false, y1, y2, y3, y4)) = recs cellV (List.replicate k cO ++ List.replicate 0 (false, y1, y2, y3, y4)) ++ cellV cO := by
                simp only [List.replicate_zero, List.append_nil]
                have := recs_more (L := []) (k := k) (c := cO)
                simpa using this
              rw [e]; exact o5, b5⟩
          case measure => simp [intOf]; omega
        · obtain rfl : k = n := by omega
          have O1 := of_any (t := t) (c := cc) (Reads.of_own o) (fun y hy => by
            simp at hy
            rw [hy.2]; exact nearO) (by omega)
          go_wp2_with fail
          refine O1.mono ?_
          rintro e w4 ⟨s, rfl, hs, b4⟩
          obtain rfl := hs.uniq (fun y hy => by
            simp at hy
            rw [hy.2]; simp [cO, rightB]) (fun y hy => by
            simp at hy
            rw [hy.2]; simp [cO]) (isStat_row t k 0 (o := cO) (c := (false, y1, y2, y3, y4)) rfl rfl)
          have NE : ∀ W, (binOp .neq 31 (.agg #[.int .i64 (k : Int), .bool false, .bool false, .int .i64 0, .string ⟨#[]⟩, .int .i64 0, .int .i64 0, .bool false, .int .i64 0, .string ⟨#[]⟩, .int .i64 0, .int .i64 0]) (.agg #[.int .i64 (k : Int), .bool false, .bool false, .int .i64 0, .string ⟨#[]⟩, .int .i64 0, .int .i64 0, .bool false, .int .i64 0, .string ⟨#[]⟩, .int .i64 0, .int .i64 0])).run Try.prog W = .ok (.bool false) W := fun W => neqS_self (rowS k 0 (false, y1, y2, y3, y4)) W
          rw [show statA (rowS k 0 (false, y1, y2, y3, y4)) = .agg #[.int .i64 (k : Int), .bool false, .bool false, .int .i64 0, .string ⟨#[]⟩, .int .i64 0, .int .i64 0, .bool false, .int .i64 0, .string ⟨#[]⟩, .int .i64 0, .int .i64 0] from rfl]
          have o4 := row_later o b4
          have b24 := New.trans b b4
          clear hs O1 o b b4 hz
          go_wp2_with fail
          go_loopw [10, 12] (fun v i wr => ∃ (j cc : Nat) (AA : Option Addr), j ≤ m ∧ i = .int .i64 (j : Int) ∧ v = .slice AA (k + j) cc ∧ wr.ownsRow w2.heap.size 29 5 (.slice AA (k + j) cc) (k + j) (recs cellV (List.replicate k cO ++ List.replicate j (false, y1, y2, y3, y4))) ∧ New w2 wr) (fun _ i _ => m - (intOf i).toNat)
          case atStart => exact ⟨0, cc, AA, Nat.zero_le _, rfl, rfl, o4, b24⟩
          case round =>
            obtain ⟨j, cc2, AA2, hj, rfl, rfl, o, b⟩ := hrel
            have hz := b.size
            clear o4 b24 NE
            by_cases hlt2 : j < m
            · have hlt' : (j : Int) < (m : Int) := by omega
              obtain ⟨x0, x1, x2, x3, x4⟩ := cells5 (HB.out.below b HB.out.lt)
              go_wp2_with (refine wpList_pushR elC rfl (.tmp 67) (.tmp 69) rfl (W := w2) (B := w2.heap.size) (base := w2.heap.size) (n := k + j) o rfl rfl b (Nat.le_refl _) hz rfl (by simp [Value.oneCell']) (by omega) (by simp only [maxLen]; omega) ?_
                           intro A5 c5 w5 _ _ o5 _ b5 _ _)
              go_roundw
              case rel => exact ⟨j + 1, c5, A5, by omega, by go_num, rfl, by rw [recs_more]; exact o5, b5⟩
              case measure => simp [intOf]; omega
            · obtain rfl : j = m := by omega
              have O1 := of_any (t := t) (c := cc2) (Reads.of_own o) (fun y hy => by
                rcases List.mem_append.1 hy with hy | hy
                · rw [(List.mem_replicate.1 hy).2]; exact nearO
                · rw [(List.mem_replicate.1 hy).2]; exact HNY.out) (by omega)
              go_wp2_with fail
              refine O1.mono ?_
              rintro e w6 ⟨s, rfl, hs, b6⟩
              obtain rfl := hs.uniq (fun y hy => by
                rcases List.mem_append.1 hy with hy | hy
                · rw [(List.mem_replicate.1 hy).2]; simp [cO, rightB]
                · rw [(List.mem_replicate.1 hy).2]; exact HRC.out) (fun y hy => by
                rcases List.mem_append.1 hy with hy | hy
                · rw [(List.mem_replicate.1 hy).2]; simp [cO]
                · rw [(List.mem_replicate.1 hy).2]; exact HF.out.1.2) (isStat_row t k j (o := cO) (c := (false, y1, y2, y3, y4)) rfl rfl)
              have b06 := New.trans Hb.out (New.trans b b6)
              have B6 := HB.out.below (New.trans b b6) HB.out.lt
              clear hs O1 o b b6 hz
              by_cases hj0 : j = 0
              · subst hj0
                rw [show statA (rowS k 0 (false, y1, y2, y3, y4)) = .agg #[.int .i64 (k : Int), .bool false, .bool false, .int .i64 0, .string ⟨#[]⟩, .int .i64 0, .int .i64 0, .bool false, .int .i64 0, .string ⟨#[]⟩, .int .i64 0, .int .i64 0] from rfl]
                have al : New w6 (w6.alloc (.cells #[.int .i64 (k : Int), .bool false, .bool false, .int .i64 0, .string ⟨#[]⟩, .int .i64 0, .int .i64 0, .bool false, .int .i64 0, .string ⟨#[]⟩, .int .i64 0, .int .i64 0] 31)) := (Below.refl _ _).alloc (Nat.le_refl _) _
                go_wp2
                go_ret
                exact ⟨rfl, New.trans b06 al⟩
              · rw [show rowS k j (false, y1, y2, y3, y4) = ((k : Int), true, (false, y1, y2, y3, y4), (false, y1, y2, y3, y4)) by unfold rowS; rw [if_neg hj0]]
                rw [show statA ((k : Int), true, (false, y1, y2, y3, y4), (false, y1, y2, y3, y4)) = .agg #[.int .i64 (k : Int), .bool true, .bool false, .int .i64 y1, .string (bstr y2), .int .i64 y3, .int .i64 y4, .bool false, .int .i64 y1, .string (bstr y2), .int .i64 y3, .int .i64 y4] from rfl]
                have al : New w6 (w6.alloc (.cells #[.int .i64 (k : Int), .bool true, .bool false, .int .i64 y1, .string (bstr y2), .int .i64 y3, .int .i64 y4, .bool false, .int .i64 y1, .string (bstr y2), .int .i64 y3, .int .i64 y4] 31)) := (Below.refl _ _).alloc (Nat.le_refl _) _
                obtain ⟨x0, x1, x2, x3, x4⟩ := cells5 (B6.alloc (.cells #[.int .i64 (k : Int), .bool true, .bool false, .int .i64 y1, .string (bstr y2), .int .i64 y3, .int .i64 y4, .bool false, .int .i64 y1, .string (bstr y2), .int .i64 y3, .int .i64 y4] 31))
                have d1 : decide ((0 : Int) < (j : Int)) = true := by simp; omega
                have d2 : ((j : Int) == 0) = false := beq_eq_false_iff_ne.2 (by omega)
                go_wp2
                go_ret
                exact ⟨rfl, New.trans b06 al⟩

set_option maxRecDepth 100000 in
open Go.WideShapes Go.ChangeShapes in
theorem statNulls_contract {H : Type} {enc : TypeId × Value → H} (W : World) (base : Nat) (args : Array Value) (ds : List (DataW H)) (ps : List MemPlace)
    (hval : ∀ (j : Nat) t v, Try.f8.params[j]? = some t → args[j]? = some v → Value.okWide Try.prog W .any base t v)
    (hA : DataW.TrodAll enc Try.prog W 0 (fun _ => true) true Try.f8.params.toList args.toList ds ps) (hlt : ∀ p ∈ ps, p.block < W.heap.size)
    (hsz : (DataW.weightsEach Try.prog Try.f8.params.toList ds).all (· ≤ reachBytes) = true) :
    Calls Try.prog 8 args W fun e W' => e = .returned (.bool true) ∧ Below W.heap.size W W' := by
  rw [Try.params8] at hA hval hsz
  obtain ⟨v0, v1, v2, v3, d0, d1, d2, d3, p0, p1, p2, p3, rfl, rfl, rfl, h0, h1, h2, h3⟩ := trodAll_four hA
  obtain ⟨t, rfl, wt, wt'⟩ := open_i64 (hval 0 _ _ rfl rfl) h0
  obtain ⟨n, rfl, wn, wn'⟩ := open_i64 (hval 1 _ _ rfl rfl) h1
  obtain ⟨m, rfl, wm, wm'⟩ := open_i64 (hval 2 _ _ rfl rfl) h2
  -- c: v3 d3 p3 h3, hval 3
  obtain ⟨c, rfl, hf⟩ := open_C (hval 3 _ _ rfl rfl) h3 (fun p hp => hlt p (by simp [hp])) (sized_at hsz (j := 3) rfl rfl)
  exact statNulls_walk hf

end Go.Proofs.Ythdkbfffjlkbpaa
