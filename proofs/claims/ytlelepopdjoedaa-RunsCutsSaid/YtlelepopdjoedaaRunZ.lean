/- The contract of hypostyleref10.Decode (under way). -/
import Derived.Test.YtlelepopdjoedaaRunG
import Derived.Test.YtlelepopdjoedaaRunV
import Derived.Test.YtlelepopdjoedaaRunW

namespace Go.Proofs.Ytlelepopdjoedaa
open Go.RowKit Go.Hm
/-- How many bytes a cursor has left, read off the world. -/
theorem rcurLeft_eq {w : World} {B g : Nat} {S : St} (h : RCurS w B g S) : curLeft w g = (S.getD []).length := by
  obtain ⟨A, c, hB, -⟩ := h
  have := hB.cell 0
  simp at this
  unfold curLeft
  rw [this]
theorem goS {b : List Nat} {n c : Nat} {out r : List Nat} (hn : n ≤ 65536) (h : Mid b n out (some (c :: r))) : (∀ y S2, rpS (n - out.length) (some (c :: r)) = (y, S2) → Mid b n (out ++ y) S2) ∧ (∀ l, Whose b n l → (rpS (n - out.length) (some (c :: r))).2 ≠ none) := by
  have key : ∀ l, Whose b n l → ∃ p1 p p3, pcs l = p1 ++ p :: p3 ∧ out = p1.flatten ∧ rpS (n - out.length) (some (c :: r)) = (p, some (p3.flatMap encP)) := by
    intro l hl
    obtain ⟨p1, p, p3, e1, e2, hk, hw, hle, e⟩ := mid_step h l hl
    exact ⟨p1, p, p3, e1, e2, by rw [e]; exact rpS_app hk hw (by omega) hle (by omega) _⟩
  refine ⟨fun y S2 e => mid_next fun l hl => ?_, fun l hl => ?_⟩
  · obtain ⟨p1, p, p3, e1, e2, e3⟩ := key l hl
    rw [e3] at e
    injection e with e4 e5
    exact ⟨p1, p, p3, e1, by rw [e2, e4], e5.symm⟩
  · obtain ⟨p1, p, p3, e1, e2, e3⟩ := key l hl
    rw [e3]
    simp
theorem takeO_max {b k : Nat} {S : St} (hk : k ≤ 65536) : takeS (nby (b : Int) (k : Int)) S = takeS (max 0 (nby (b : Int) (k : Int))) S ∨ ∀ x, unpackO x (b : Int) (k : Int) = none := by
  by_cases h : b ≤ 64
  · left
    have e := nby_nat b k h hk
    have e2 : max 0 (nby (b : Int) (k : Int)) = nby (b : Int) (k : Int) := Int.max_eq_right (by omega)
    rw [e2]
  · exact .inr fun x => by unfold unpackO; rw [if_neg (by omega)]
theorem rdecode_far {w : World} {A : Option Addr} {c m : Nat} {b : List Nat} {n : Int} (hn : n < 0 ∨ 65536 < n) : Calls Try.prog 16 #[.slice A m c, .int .i64 n] w (DecPost b n w) := by
  have hI : Hid (IsDec b n none) := Lib.hid (isDec_none fun l h1 h2 _ _ => by omega)
  by_cases h0 : n < 0
  · go_enter Try.func16, Try.ntmps16
    go_wp2
    go_ret2
    exact ⟨none, hI.out, rfl, Below.refl _ _⟩
  · have h1 : 65536 < n := by omega
    go_enter Try.func16, Try.ntmps16
    go_wp2
    go_ret2
    exact ⟨none, hI.out, rfl, Below.refl _ _⟩
set_option maxHeartbeats 1000000 in
set_option maxRecDepth 100000 in
theorem rdecode_any {w : World} {A : Option Addr} {c : Nat} {b : List Nat} {n : Nat} (h : Reads w w.heap.size 1 A b.length (nums .u8 b)) (hc : b.length ≤ c) (hcm : c ≤ maxLen) (h8 : ∀ x ∈ b, x < 256) (hn : n ≤ 65536) :
    Calls Try.prog 16 #[.slice A b.length c, .int .i64 (n : Int)] w (DecPost b (n : Int) w) := by
  have RC := RCurS.new h hc hcm h8
  have HM := Lib.hid (mid_start b n)
  have HR := Lib.hid h
  have H8 := Lib.hid h8
  have hb0 : Below w.heap.size w (w.alloc (.cells #[.slice A b.length c, .bool false] 49)) := (Below.refl _ w).alloc (Nat.le_refl _) _
  clear h h8
  go_enter Try.func16, Try.ntmps16
  go_wp2
  go_loopw [7] (fun v wr => ∃ (Ao : Option Addr) (co : Nat) (out : List Nat) (S : St), v = .slice Ao out.length co ∧ Go.Hm.Own wr w.heap.size 34 (.slice Ao out.length co) (nums .u64 out) ∧ RCurS wr w.heap.size w.heap.size S ∧ Below w.heap.size w wr ∧ out.length ≤ n ∧ Hid (∀ x ∈ out, x ≤ 18446744073709551615) ∧ Hid (Mid b n out S)) (fun _ wr => curLeft wr w.heap.size)
  case atStart => exact ⟨none, 0, [], some b, rfl, Own.nil_, RC, hb0, Nat.zero_le _, Lib.hid (by simp), HM⟩
  case round =>
    obtain ⟨Ao, co, out, S, rfl, hown, hs, hbl, hol, hw, hmid⟩ := hrel
    have hok := hs.ok
    have hml := rcurLeft_eq hs
    have EN := Lib.hid (rendS_any hs)
    match S, hs, hok, hml, EN, hmid with
    | some [], hs, hok, hml, EN, hmid =>
      have he := mid_end hmid.out (by simp)
      have hNo : Hid ((out.length : Int) = (n : Int) → encL out = b → False) → Hid (IsDec b (n : Int) none) := fun hh => Lib.hid (isDec_none fun l h1 h2 h3 h4 => by
        have e := (he l ⟨by omega, h2, h3, h4⟩).1
        subst e
        exact hh.out h1 h4)
      clear he hmid hs hml
      have RE := Lib.hid (rencode_any (c := co) hown.reads hown.cap.1 hw.out (by omega))
      go_wp2_with fail
      refine EN.out.mono ?_
      rintro e w2 ⟨rfl, rfl⟩
      go_wp2_with fail
      refine RE.out.mono ?_
      rintro e w5 ⟨A5, n5, c5, rfl, o5, b5⟩
      clear EN RE
      have hbl5 : Below w.heap.size w w5 := hbl.trans (Below.mono b5 hbl.size)
      have BB := Lib.hid (bstr_beq (encL_byte hw.out) H8.out)
      have q1 := run_strB (c := c5) o5.reads
      have q2 := run_strB (c := c) ((HR.out.below hbl5).more hbl5.size)
      have hown5 := hown.later b5
      have HB := Lib.hid hbl5
      by_cases hno : out.length = n
      · subst hno
        by_cases heq : encL out = b
        · have hI : Hid (IsDec b (out.length : Int) (some out)) := Lib.hid (isDec_some hn hw.out heq)
          have hq : ((bstr (encL out)).toList == (bstr b).toList) = true := by rw [BB.out]; exact decide_eq_true heq
          clear hNo heq BB hbl5 o5 b5 hown hbl
          go_wp2
          go_ret2
          exact ⟨some out, hI.out, _, _, _, rfl, hown5, HB.out⟩
        · have hI := hNo (Lib.hid fun _ e => heq e)
          have hq : ((bstr (encL out)).toList == (bstr b).toList) = false := by rw [BB.out]; exact decide_eq_false heq
          clear hNo heq BB hbl5 o5 b5 hown hbl
          go_wp2
          go_ret2
          exact ⟨none, hI.out, rfl, HB.out⟩
      · have hI := hNo (Lib.hid fun e _ => hno (by omega))
        have hno2 : ¬ ((out.length : Int) = (n : Int)) := by omega
        clear hNo BB hbl5 o5 b5 hown hbl
        go_wp2
        go_ret2
        exact ⟨none, hI.out, rfl, HB.out⟩
    | some (x :: r), hs, hok, hml, EN, hmid =>
      have LN := Lib.hid (rlenS_any (m := 2 * ((n : Int) - (out.length : Int)) + 1) hs (by omega) (by omega))
      have hgood : Hid (∀ l, Whose b n l → (lenS (2 * ((n : Int) - (out.length : Int)) + 1) (some (x :: r))).2 ≠ none ∧ 2 ≤ (lenS (2 * ((n : Int) - (out.length : Int)) + 1) (some (x :: r))).1 ∧ (lenS (2 * ((n : Int) - (out.length : Int)) + 1) (some (x :: r))).1 / 2 ≤ n - out.length) := Lib.hid fun l hl => by
        obtain ⟨p1, p, p3, -, -, hk, -, hle, e⟩ := mid_step hmid.out l hl
        have hp := hk.1
        rw [e]
        unfold encP
        split
        · rw [List.append_assoc, lenS_app _ _ (by omega) (by omega)]
          exact ⟨by simp, by dsimp only; omega, by dsimp only; omega⟩
        · rw [List.append_assoc, lenS_app _ _ (by omega) (by omega)]
          exact ⟨by simp, by dsimp only; omega, by dsimp only; omega⟩
      have hgoS := Lib.hid (goS hn hmid.out)
      have eE : endS (some (x :: r)) = false := rfl
      rw [eE] at EN
      clear eE
      have hle := lenS_le (m := 2 * ((n : Int) - (out.length : Int)) + 1) (some (x :: r)) (by omega) hok
      have hlk := lenS_ok (m := 2 * ((n : Int) - (out.length : Int)) + 1) hok
      have hll := lenS_less (m := 2 * ((n : Int) - (out.length : Int)) + 1) hok
      simp only [Option.getD_some, List.length_cons] at hml
      obtain ⟨X, hX⟩ : ∃ X, X = rpS (n - out.length) (some (x :: r)) := ⟨_, rfl⟩
      rw [← hX] at hgoS
      have hXl := Lib.hid (show X.1.length ≤ n - out.length by rw [hX]; exact rpS_len _ _ hok)
      have hXw := Lib.hid (show ∀ z ∈ X.1, z ≤ 18446744073709551615 by rw [hX]; exact rpS_words hok)
      unfold rpS at hX
      rw [show 2 * ((n - out.length : Nat) : Int) + 1 = 2 * ((n : Int) - (out.length : Int)) + 1 by omega] at hX
      dsimp only at hX
      generalize lenS (2 * ((n : Int) - (out.length : Int)) + 1) (some (x :: r)) = H at *
      obtain ⟨a, S1⟩ := H
      dsimp only at *
      have D1 : (a : Int).tdiv 2 = ((a / 2 : Nat) : Int) := by rw [Int.tdiv_eq_ediv_of_nonneg (by omega)]; rfl
      have D2 : (a : Int).tmod 2 = ((a % 2 : Nat) : Int) := by rw [Int.tmod_eq_emod_of_nonneg (by omega)]; rfl
      have ha : a ≤ 131073 := by omega
      have hkb : a / 2 ≤ n := by omega
      have hk2 : 2 * (a / 2) ≤ a := by omega
      have ho : a % 2 < 2 := Nat.mod_lt _ (by omega)
      generalize a / 2 = k at *
      generalize a % 2 = o at *
      have HX := Lib.hid hX
      have HS := Lib.hid hs
      have hz := hbl.size
      clear hX hs hmid hok
      go_wp2_with fail
      refine EN.out.mono ?_
      rintro e w2 ⟨rfl, rfl⟩
      go_wp2_with fail
      refine LN.out.mono ?_
      rintro e w3 ⟨rfl, s3, g3⟩
      obtain ⟨cs, hB⟩ := HS.out.blk
      have hown3 := hown.keepT g3 hB (by decide)
      have hbl3 : Below w.heap.size w w3 := hbl.grown g3 hz (fun k e => by injection e with e; omega)
      have hbad := s3.is
      have hz3 := hbl3.size
      clear EN LN hB HS hown hbl g3
      cases S1 with
      | none =>
        have hI : Hid (IsDec b (n : Int) none) := Lib.hid (isDec_none fun l h1 h2 h3 h4 => (hgood.out l ⟨by omega, h2, h3, h4⟩).1 rfl)
        have HB := Lib.hid hbl3
        clear hgood hgoS HX s3 hown3 hbl3
        simp only [Option.isNone_none] at hbad
        go_wp2
        go_ret2
        exact ⟨none, hI.out, rfl, HB.out⟩
      | some S1 =>
      simp only [Option.isNone_some] at hbad
      by_cases h2 : (a : Int) < 2
      · have hI : Hid (IsDec b (n : Int) none) := Lib.hid (isDec_none fun l h1 h2 h3 h4 => by have := (hgood.out l ⟨by omega, h2, h3, h4⟩).2.1; omega)
        have HB := Lib.hid hbl3
        clear hgood hgoS HX s3 hown3 hbl3
        go_wp2
        go_ret2
        exact ⟨none, hI.out, rfl, HB.out⟩
      by_cases hk3 : (n : Int) - (out.length : Int) < (k : Int)
      · have hI : Hid (IsDec b (n : Int) none) := Lib.hid (isDec_none fun l h1 h2 h3 h4 => by have := (hgood.out l ⟨by omega, h2, h3, h4⟩).2.2; omega)
        have HB := Lib.hid hbl3
        clear hgood hgoS HX s3 hown3 hbl3
        clear hle hll ha hk2 ho D2
        go_wp2
        go_ret2
        exact ⟨none, hI.out, rfl, HB.out⟩
      clear hgood
      have S3 := Lib.hid s3
      by_cases h1 : o = 1
      · subst h1
        have hX := HX.out
        rw [if_pos rfl] at hX
        clear HX
        have hbb := byteS_lt hlk
        have hbo := byteS_ok hlk
        have hbs := byteS_less (some S1)
        have C2 := Lib.hid (rbyteS_any s3)
        generalize byteS (some S1) = Bq at *
        obtain ⟨y, S2⟩ := Bq
        dsimp only at *
        have hX2 : X = match unpackO (takeS (max 0 (nby (y : Int) (k : Int))) S2).1 (y : Int) (k : Int) with
            | some l => (l, (takeS (max 0 (nby (y : Int) (k : Int))) S2).2)
            | none => ([], none) := by
          rcases takeO_max (b := y) (k := k) (S := S2) (by omega) with e | e
          · rw [← e]; exact hX
          · rw [e] at hX ⊢; exact hX
        have HX := Lib.hid hX2
        clear hX hX2 s3
        go_wp2_with fail
        refine C2.out.mono ?_
        rintro e w4 ⟨rfl, s4, g4⟩
        obtain ⟨cs, hB⟩ := S3.out.blk
        have hown4 := hown3.keepT g4 hB (by decide)
        have hbl4 : Below w.heap.size w w4 := hbl3.grown g4 hz3 (fun k e => by injection e with e; omega)
        have hz4 := hbl4.size
        clear C2 S3 hB hown3 hbl3 g4
        have hyw : IntKind.i64.wrap (y : Int) = (y : Int) := IntWalk.i64_in _ (by omega)
        have hnb := nby_bd y k
        go_wp2_with fail
        refine (rbytes_any (y : Int) (k : Int) w4 (by omega) (by omega) (by omega) (by omega)).mono ?_
        rintro e w5 ⟨rfl, rfl⟩
        have hmx : 0 ≤ max 0 (nby (y : Int) (k : Int)) ∧ max 0 (nby (y : Int) (k : Int)) ≤ 524289 := by omega
        go_wp2_with fail
        refine (rtakeS_any (n := max 0 (nby (y : Int) (k : Int))) s4 (by omega) (by omega)).mono ?_
        rintro e w6 ⟨A6, n6, c6, rfl, e6, o6, s6, g6⟩
        have h8 := (takeS_ok (n := max 0 (nby (y : Int) (k : Int))) s4.ok).2
        have htl := takeS_less (n := max 0 (nby (y : Int) (k : Int))) S2
        have hX := HX.out
        clear HX
        generalize takeS (max 0 (nby (y : Int) (k : Int))) S2 = Tq at *
        obtain ⟨x6, S4⟩ := Tq
        dsimp only at *
        subst e6
        have HX := Lib.hid hX
        clear hX
        obtain ⟨cs, hB⟩ := s4.blk
        have hown6 := hown4.keepT g6 hB (by decide)
        have hbl6 : Below w.heap.size w w6 := hbl4.grown g6 hz4 (fun k e => by injection e with e; omega)
        have hz6 := hbl6.size
        have hxl : x6.length ≤ 9223372036854775807 := by have := o6.cap; simp only [maxLen] at this; omega
        have C7 := Lib.hid (runpack_any (c := c6) (y : Int) (k : Int) o6.reads h8 hxl (by omega) (by omega) (by omega) (by omega))
        have hlft : (S4.getD []).length ≤ r.length := by simp only [Option.getD_some] at hll hbs; omega
        have HLF := Lib.hid hlft
        clear hlft hll hbs htl hB s4 g6 hown4 hbl4 hz4 h8
        go_wp2_with fail
        refine C7.out.mono ?_
        intro e w7 h7
        have hX := HX.out
        clear HX C7
        generalize unpackO x6 (y : Int) (k : Int) = o7 at *
        cases o7 with
        | none =>
          obtain ⟨rfl, b7⟩ := h7
          have hI : Hid (IsDec b (n : Int) none) := Lib.hid (isDec_none fun l h1 h2 h3 h4 => hgoS.out.2 l ⟨by omega, h2, h3, h4⟩ (by rw [hX]))
          have HB := Lib.hid (hbl6.trans (Below.mono b7 hz6))
          clear hX hgoS hXl hXw hown6 hbl6 s6 o6
          go_wp2
          go_ret2
          exact ⟨none, hI.out, rfl, HB.out⟩
        | some l =>
          obtain ⟨A7, n7, c7, rfl, o7, b7⟩ := h7
          dsimp only at hX
          have hbl7 : Below w.heap.size w w7 := hbl6.trans (Below.mono b7 hz6)
          have hown7 := hown6.later b7
          have s7 := s6.below b7
          have hz7 := hbl7.size
          have hXl2 := hXl.out
          have hXw2 := hXw.out
          have hgo2 := Lib.hid (hgoS.out.1 _ _ hX)
          rw [hX] at hXl2 hXw2
          dsimp only at hXl2 hXw2
          have hXw3 := Lib.hid hXw2
          have l7 := o7.len
          rw [nums_length] at l7
          have L7 := Lib.hid l7
          have hn7 : n7 ≤ n := by omega
          clear hX hgoS hXl hXw hXw2 hown6 hbl6 s6 o6
          clear l7
          go_wp2_with (refine wpList_pushesN elW rfl (.tmp 89) (.tmp 90) rfl (W := w) (B := w.heap.size) hown7 (o7.reads.more (by omega)) rfl rfl hbl7 (Nat.le_refl _) hz7 (by omega) (by simp only [maxLen]; omega) ?_
                       intro A8 c8 w8 _ _ o8 g8 b8 _)
          have s8 := s7.push hown7 (Nat.le_refl _) g8 (by decide)
          go_roundw
          case rel => exact ⟨A8, c8, out ++ l, S4, by have := L7.out; simp [this], by have := L7.out; simpa [this] using o8, s8, b8, by have := L7.out; rw [List.length_append]; omega, Lib.hid (fun z hz => by rcases List.mem_append.1 hz with hz | hz; exact hw.out z hz; exact hXw3.out z hz), hgo2⟩
          case measure => have := HLF.out; rw [rcurLeft_eq s8]; omega
      · obtain rfl : o = 0 := by omega
        have hX := HX.out
        rw [if_neg (by omega)] at hX
        clear HX
        have hgl := getS_lt hlk
        have hgs := getS_less hlk
        have C2 := Lib.hid (rgetS_any s3)
        generalize getS (some S1) = Bq at *
        obtain ⟨y, S2⟩ := Bq
        dsimp only at *
        have HX := Lib.hid hX
        clear hX s3
        go_wp2_with fail
        refine C2.out.mono ?_
        rintro e w4 ⟨rfl, s4, g4⟩
        obtain ⟨cs, hB⟩ := S3.out.blk
        have hown4 := hown3.keepT g4 hB (by decide)
        have hbl4 : Below w.heap.size w w4 := hbl3.grown g4 hz3 (fun k e => by injection e with e; omega)
        clear C2 S3 hB hown3 hbl3 g4 hbad
        have hk1 : (k : Int) ≤ 65536 := by omega
        have HR2 := Lib.hid hown4
        have HS2 := Lib.hid s4
        have HB2 := Lib.hid hbl4
        clear hown4 s4 hbl4
        go_wp2_with fail
        go_loopw [7, 10] (fun v i wr => ∃ (Ai : Option Addr) (ci j : Nat), j ≤ k ∧ i = .int .i64 (j : Int) ∧ v = .slice Ai (out.length + j) ci ∧ Go.Hm.Own wr w.heap.size 34 (.slice Ai (out.length + j) ci) (nums .u64 (out ++ List.replicate j y)) ∧ RCurS wr w.heap.size w.heap.size S2 ∧ Below w.heap.size w wr) (fun _ i _ => k - (intOf i).toNat)
        case atStart => exact ⟨Ao, co, 0, Nat.zero_le _, rfl, rfl, by simpa using HR2.out, HS2.out, HB2.out⟩
        case round =>
          obtain ⟨Ai, ci, j, hj, rfl, rfl, hown, hs, hbl⟩ := hrel
          clear HR2 HS2 HB2
          by_cases hlt : j < k
          · have hlt' : (j : Int) < (k : Int) := by omega
            have hz := hbl.size
            go_wp2_with (refine wpList_pushN elW rfl (.tmp 65) (.tmp 67) rfl (W := w) (B := w.heap.size) hown rfl rfl y rfl hbl (Nat.le_refl _) hz (by omega) (by simp only [maxLen]; omega) ?_
                         intro A5 c5 w5 _ _ o5 g5 b5 _ _)
            go_roundw
            case rel => exact ⟨A5, c5, j + 1, by omega, by go_num, rfl, by rw [List.replicate_succ', ← List.append_assoc]; exact o5, hs.push hown (Nat.le_refl _) g5 (by decide), b5⟩
            case measure => simp [intOf]; omega
          · obtain rfl : j = k := by omega
            have hlt' : ¬ ((j : Int) < (j : Int)) := by omega
            have hgo2 := Lib.hid (hgoS.out.1 _ _ HX.out)
            clear hgoS hlt hlt'
            have hkn : (j : Int) ≤ (n : Int) := by omega
            have HF : Hid (out.length + j ≤ n ∧ (S2.getD []).length ≤ r.length) := Lib.hid ⟨by omega, by simp only [Option.getD_some] at hll hgs; omega⟩
            clear hle hll hk2 ho D2 h2 hk3 ha
            go_wp2
            go_roundw
            case rel => exact ⟨Ai, ci, out ++ List.replicate j y, S2, by simp, by simpa using hown, hs, hbl, by have := HF.out.1; simp; omega, Lib.hid (fun z hz => by rcases List.mem_append.1 hz with hz | hz; exact hw.out z hz; have := (List.mem_replicate.1 hz).2; omega), hgo2⟩
            case measure => have := HF.out.2; rw [rcurLeft_eq hs]; omega
    | none, hs, hok, hml, EN, hmid =>
      have hI : Hid (IsDec b (n : Int) none) := Lib.hid (isDec_none fun l h1 h2 h3 h4 => by
        obtain ⟨_, _, _, _, e⟩ := hmid.out l ⟨by omega, h2, h3, h4⟩
        cases e)
      have LN := Lib.hid (rlenS_any (m := 2 * ((n : Int) - (out.length : Int)) + 1) hs (by omega) (by omega))
      rw [lenS_none] at LN
      clear hmid hs hml
      go_wp2_with fail
      refine EN.out.mono ?_
      rintro e w2 ⟨rfl, rfl⟩
      go_wp2_with fail
      refine LN.out.mono ?_
      rintro e w3 ⟨rfl, s3, g3⟩
      have hbl3 : Below w.heap.size w w3 := hbl.grown g3 hbl.size (fun k e => by injection e with e; omega)
      have hbad := s3.is
      have HB := Lib.hid hbl3
      clear EN LN s3 g3 hbl hown hbl3
      go_wp2
      go_ret2
      exact ⟨none, hI.out, rfl, HB.out⟩

end Go.Proofs.Ytlelepopdjoedaa
