/- The contract of runs.Decode: the walk. -/
import Derived.Test.YtlelepopdjoedaaRunD

namespace Go.Proofs.Ytlelepopdjoedaa
open Go.RowKit Go.Hm
/-- How many bytes a cursor has left, read off the world. -/
def curLeft (w : World) (g : Nat) : Nat := match w.cell? ⟨g, 0, none⟩ with
  | some (.slice _ n _) => n
  | _ => 0
theorem curLeft_eq {w : World} {g : Nat} {S : St} (h : CurS w g S) : curLeft w g = (S.getD []).length := by
  obtain ⟨A, c, hB, -⟩ := h
  have := hB.cell 0
  simp at this
  unfold curLeft
  rw [this]
def DecPost (b : List Nat) (n : Int) (w : World) (e : Ending) (w' : World) : Prop := ∃ o, IsDec b n o ∧ OptW o w e w'
theorem isDec_none {b : List Nat} {n : Int} (h : ∀ l : List Nat, (l.length : Int) = n → l.length ≤ 65536 → (∀ x ∈ l, x ≤ 18446744073709551615) → encL l = b → False) : IsDec b n none :=
  fun l => ⟨fun e => (by cases e), fun ⟨h1, h2, h3, h4⟩ => (h l h1 h2 h3 h4).elim⟩
theorem isDec_some {b l : List Nat} (h1 : l.length ≤ 65536) (h2 : ∀ x ∈ l, x ≤ 18446744073709551615) (h3 : encL l = b) : IsDec b (l.length : Int) (some l) :=
  fun m => ⟨fun e => by injection e with e; subst e; exact ⟨rfl, h1, h2, h3⟩, fun ⟨_, k2, k3, k4⟩ => by rw [encL_inj h1 k2 h2 k3 (h3.trans k4.symm)]⟩
theorem decode_far {w : World} {A : Option Addr} {c m : Nat} {b : List Nat} {n : Int} (hn : n < 0 ∨ 65536 < n) : Calls Try.prog 15 #[.slice A m c, .int .i64 n] w (DecPost b n w) := by
  have hI : Hid (IsDec b n none) := Lib.hid (isDec_none fun l h1 h2 _ _ => by omega)
  by_cases h0 : n < 0
  · go_enter Try.func15, Try.ntmps15
    go_wp2
    go_ret2
    exact ⟨none, hI.out, rfl, Below.refl _ _⟩
  · have h1 : 65536 < n := by omega
    go_enter Try.func15, Try.ntmps15
    go_wp2
    go_ret2
    exact ⟨none, hI.out, rfl, Below.refl _ _⟩
set_option maxHeartbeats 2000000 in
theorem decode_any {w : World} {A : Option Addr} {c : Nat} {b : List Nat} {n : Nat} (h : Reads w w.heap.size 1 A b.length (nums .u8 b)) (h8 : ∀ x ∈ b, x < 256) (hb : b.length ≤ 140737488355200) (hn : n ≤ 65536) :
    Calls Try.prog 15 #[.slice A b.length c, .int .i64 (n : Int)] w (DecPost b (n : Int) w) := by
  have OV := Lib.hid (over_any (c := c) h (by omega) h8)
  obtain ⟨D, hD⟩ : ∃ D, D = decS n b.length [] (some b) := ⟨_, rfl⟩
  have HD := Lib.hid hD
  have HE : Hid (∀ l : List Nat, (l.length : Int) = (n : Int) → (∀ x ∈ l, x ≤ 18446744073709551615) → encL l = b → D = (l, some [])) := Lib.hid fun l h1 h2 h3 => by
    rw [hD, ← h3]
    exact decS_enc h2 hn (by omega) (Nat.le_refl _)
  clear hD
  have H8 := Lib.hid h8
  have HR := Lib.hid h
  clear h h8
  go_enter Try.func15, Try.ntmps15
  go_wp2_with fail
  refine OV.out.mono ?_
  rintro e w1 ⟨g, rfl, hg, hcur, b1⟩
  have s1 := CurS.of hcur
  clear hcur OV
  go_wp2_with fail
  go_loopw [7] (fun v wr => ∃ (Ao : Option Addr) (co k : Nat) (out : List Nat) (S : St), v = .slice Ao out.length co ∧ Go.Hm.Own wr w.heap.size 34 (.slice Ao out.length co) (nums .u64 out) ∧ CurS wr g S ∧ Below w.heap.size w wr ∧ out.length ≤ n ∧ Hid (∀ x ∈ out, x ≤ 18446744073709551615) ∧ (S.getD []).length ≤ k ∧ Hid (decS n k out S = D)) (fun _ wr => curLeft wr g)
  case atStart => exact ⟨none, 0, b.length, [], some b, rfl, Own.nil_, s1, b1, Nat.zero_le _, Lib.hid (by simp), Nat.le_refl _, Lib.hid HD.out.symm⟩
  case round =>
    obtain ⟨Ao, co, k, out, S, rfl, hown, hs, hbl, hol, hw, hk, hdec⟩ := hrel
    have hok := hs.ok
    have hml := curLeft_eq hs
    have BD := Lib.hid (badS hs)
    have LF := Lib.hid (leftS hs)
    match S, hs, hok, hk, hdec, hml, BD, LF with
    | some (x :: r), hs, hok, hk, hdec, hml, BD, LF =>
      simp only [Option.getD_some, List.length_cons] at hk hml
      obtain ⟨k, rfl⟩ : ∃ j, k = j + 1 := ⟨k - 1, by omega⟩
      have RP := Lib.hid (readPiece_any (most := n - out.length) hs (by omega))
      have hrl := rpS_len (n - out.length) _ hok
      have hrw := rpS_words (most := n - out.length) hok
      have hls := rpS_less (most := n - out.length) hok
      have hd := hdec.out
      rw [decS] at hd
      have hD' := Lib.hid hd
      clear hd hdec
      generalize rpS (n - out.length) (some (x :: r)) = R at *
      obtain ⟨y, S2⟩ := R
      dsimp only at *
      have hsub : (n : Int) - (out.length : Int) = ((n - out.length : Nat) : Int) := by omega
      have HS := Lib.hid hs
      clear hs hok
      go_wp2_with fail
      refine BD.out.mono ?_
      rintro e w2 ⟨rfl, rfl⟩
      go_wp2_with fail
      refine LF.out.mono ?_
      rintro e w2 ⟨rfl, rfl⟩
      clear BD LF
      go_wp2_with fail
      refine RP.out.mono ?_
      rintro e w3 ⟨A3, n3, c3, rfl, e3, o3, s3, g3⟩
      subst e3
      clear RP
      obtain ⟨cs, hB⟩ := HS.out.blk
      have hown3 := hown.keepT g3 hB (by decide)
      have hbl3 : Below w.heap.size w w3 := hbl.grown g3 hbl.size (fun k e => by injection e with e; omega)
      have hz3 := hbl3.size
      have G3 := Lib.hid g3
      have S3 := Lib.hid s3
      clear g3 s3 hB HS hown hbl
      go_wp2_with (first
        | (refine wpList_pushesN elW rfl (.tmp 26) (.tmp 32) rfl (W := w) (B := w.heap.size) hown3 o3.reads rfl rfl hbl3 (Nat.le_refl _) hz3 (by omega) (by simp only [maxLen]; omega) ?_
           intro A4 c4 w4 _ _ o4 g4 b4 _))
      have s4 := S3.out.push hown3 g4 (by decide) (by decide)
      go_roundw
      case rel => exact ⟨A4, c4, k, out ++ y, S2, by simp, by simpa using o4, s4, b4, by rw [List.length_append]; omega, Lib.hid (fun z hz => by rcases List.mem_append.1 hz with hz | hz; exact hw.out z hz; exact hrw z hz), by omega, hD'⟩
      case measure => rw [curLeft_eq s4]; omega
    | some [], hs, hok, hk, hdec, hml, BD, LF =>
      have hd := hdec.out
      rw [decS_end (by simp)] at hd
      have HNo : Hid ((out.length : Int) = (n : Int) → encL out = b → False) → Hid (IsDec b (n : Int) none) := fun hh => Lib.hid (isDec_none fun l h1 _ h3 h4 => by
        have e := HE.out l h1 h3 h4
        rw [← hd] at e
        injection e with e1 _
        subst e1
        exact hh.out h1 h4)
      clear hd hdec HE HD hs
      by_cases hno : out.length = n
      · subst hno
        have EN := Lib.hid (encode_any (c := co) hown.reads hown.cap.1 hw.out hn)
        go_wp2_with fail
        refine BD.out.mono ?_
        rintro e w2 ⟨rfl, rfl⟩
        go_wp2_with fail
        refine LF.out.mono ?_
        rintro e w2 ⟨rfl, rfl⟩
        go_wp2_with fail
        refine BD.out.mono ?_
        rintro e w2 ⟨rfl, rfl⟩
        go_wp2_with fail
        refine EN.out.mono ?_
        rintro e w5 ⟨A5, n5, c5, rfl, o5, b5⟩
        clear BD LF EN
        have hbl5 : Below w.heap.size w w5 := hbl.trans (Below.mono b5 hbl.size)
        have EQ := Lib.hid (equalR_any (c := c5) (e := c) o5.reads ((HR.out.below hbl5).more hbl5.size) (encL_byte hw.out) H8.out)
        have hown5 := hown.later b5
        by_cases heq : encL out = b
        · have dq : decide (encL out = b) = true := decide_eq_true heq
          rw [dq] at EQ
          go_wp2_with fail
          refine EQ.out.mono ?_
          rintro e w6 ⟨rfl, rfl⟩
          go_wp2
          go_ret2
          exact ⟨some out, isDec_some hn hw.out heq, _, _, _, rfl, hown5, hbl5⟩
        · have dq : decide (encL out = b) = false := decide_eq_false heq
          rw [dq] at EQ
          have hI := HNo (Lib.hid fun _ e => heq e)
          go_wp2_with fail
          refine EQ.out.mono ?_
          rintro e w6 ⟨rfl, rfl⟩
          go_wp2
          go_ret2
          exact ⟨none, hI.out, rfl, hbl5⟩
      · have hI := HNo (Lib.hid fun e _ => hno (by omega))
        go_wp2_with fail
        refine BD.out.mono ?_
        rintro e w2 ⟨rfl, rfl⟩
        go_wp2_with fail
        refine LF.out.mono ?_
        rintro e w2 ⟨rfl, rfl⟩
        go_wp2_with fail
        refine BD.out.mono ?_
        rintro e w2 ⟨rfl, rfl⟩
        go_wp2
        go_ret2
        exact ⟨none, hI.out, rfl, hbl⟩
    | none, hs, hok, hk, hdec, hml, BD, LF =>
      have hd := hdec.out
      rw [decS_end (by simp)] at hd
      have hI : Hid (IsDec b (n : Int) none) := Lib.hid (isDec_none fun l h1 _ h3 h4 => by
        have e := HE.out l h1 h3 h4
        rw [← hd] at e
        injection e with _ e2
        cases e2)
      clear hd hdec HE HD hs
      go_wp2_with fail
      refine BD.out.mono ?_
      rintro e w2 ⟨rfl, rfl⟩
      go_wp2_with fail
      refine BD.out.mono ?_
      rintro e w2 ⟨rfl, rfl⟩
      go_wp2
      go_ret2
      exact ⟨none, hI.out, rfl, hbl⟩

end Go.Proofs.Ytlelepopdjoedaa
