/- Runs and rests as bytes, and back: plain lists. -/
import Derived.Test.YtlelepopdjoedaaRunM
import Derived.Test.YtlelepopdjoedaaPackO
import Derived.Test.YtlelepopdjoedaaCurM

namespace Go.Proofs.Ytlelepopdjoedaa
open Go.RowKit Go.Hm
/-- A piece's bytes. -/
def encP (p : List Nat) : List Nat :=
  if 4 ≤ st p then vp (2 * p.length) ++ vp (p.getD 0 0) else vp (2 * p.length + 1) ++ (wid p :: low (pk (wid p) p) ((wid p * p.length + 7) / 8))
def encL (l : List Nat) : List Nat := (pcs l).flatMap encP
/-- A piece that is read. -/
def rpS (most : Nat) (S : St) : List Nat × St :=
  let h := lenS (2 * (most : Int) + 1) S
  if h.1 % 2 = 1 then
    let b := byteS h.2
    let x := takeS (nby (b.1 : Int) ((h.1 / 2 : Nat) : Int)) b.2
    match unpackO x.1 (b.1 : Int) ((h.1 / 2 : Nat) : Int) with
    | some l => (l, x.2)
    | none => ([], none)
  else
    let g := getS h.2
    (List.replicate (h.1 / 2) g.1, g.2)
theorem wordsOf {l : List Nat} (h : ∀ x ∈ l, x ≤ 18446744073709551615) {p : List Nat} (hp : p ∈ pcs l) : (∀ x ∈ p, x ≤ 18446744073709551615) ∧ p.length ≤ l.length := by
  have hf := pcs_flat l
  refine ⟨fun x hx => h x (by rw [← hf]; exact List.mem_flatten.2 ⟨p, hp, hx⟩), ?_⟩
  rw [← hf]
  obtain ⟨a, b, e⟩ := List.append_of_mem hp
  rw [e, List.flatten_append, List.flatten_cons, List.length_append, List.length_append]
  omega
/-- What was laid is read. -/
theorem rpS_app {p : List Nat} (hk : PieceOk p) (hw : ∀ x ∈ p, x ≤ 18446744073709551615) (hl : p.length ≤ 65536) {most : Nat} (hm : p.length ≤ most) (hmm : most ≤ 65536) (r : List Nat) : rpS most (some (encP p ++ r)) = (p, some r) := by
  unfold encP
  by_cases h4 : 4 ≤ st p
  · rw [if_pos h4, List.append_assoc]
    have hx : p.getD 0 0 ≤ 18446744073709551615 := by
      have h0 := hk.1
      rw [List.getD_eq_getElem?_getD, List.getElem?_eq_getElem h0]
      exact hw _ (List.getElem_mem h0)
    have e := run_rep (hk.2 h4)
    unfold rpS
    rw [lenS_app (2 * p.length) _ (by omega) (by omega)]
    dsimp only
    rw [if_neg (by omega), getS_app _ _ (by omega)]
    dsimp only
    rw [show 2 * p.length / 2 = p.length by omega, ← e]
  · rw [if_neg h4, List.append_assoc]
    have hw64 := wid_le p hw
    unfold rpS
    rw [lenS_app (2 * p.length + 1) _ (by omega) (by omega)]
    dsimp only
    rw [if_pos (by omega), show (2 * p.length + 1) / 2 = p.length by omega]
    rw [List.cons_append]
    simp only [byteS]
    rw [nby_nat (wid p) p.length hw64 hl]
    have hlen : (low (pk (wid p) p) ((wid p * p.length + 7) / 8)).length = (wid p * p.length + 7) / 8 := low_len _ _
    have ht := takeS_app (low (pk (wid p) p) ((wid p * p.length + 7) / 8)) r
    rw [hlen] at ht
    rw [ht]
    dsimp only
    rw [unpack_pack p (wid p) hw64 hl (Nat.le_refl _) hw]
theorem rpS_none (most : Nat) : rpS most none = ([], none) := by
  unfold rpS
  rw [lenS_none]
  rfl
/-- What is read has at most most numbers. -/
theorem rpS_len (most : Nat) (S : St) (hS : S.ok) : (rpS most S).1.length ≤ most := by
  have h1 := lenS_le (m := 2 * (most : Int) + 1) S (by omega) hS
  unfold rpS
  dsimp only
  split
  · split
    · rename_i l hl
      unfold unpackO at hl
      split at hl
      · injection hl with hl
        subst hl
        rw [unpk_len]
        omega
      · cases hl
    · simp
  · simp
    omega
theorem encP_pos (p : List Nat) : 0 < (encP p).length := by
  unfold encP
  split
  · have := vp_pos (2 * p.length)
    rw [List.length_append]
    omega
  · have := vp_pos (2 * p.length + 1)
    rw [List.length_append]
    omega
/-- Numbers that are read till nothing is left, most of them at most. -/
def decS (n : Nat) : Nat → List Nat → St → List Nat × St
  | 0, out, S => (out, S)
  | k + 1, out, S => match S with
    | some (b :: r) => decS n k (out ++ (rpS (n - out.length) (some (b :: r))).1) (rpS (n - out.length) (some (b :: r))).2
    | S => (out, S)
theorem decS_pieces (n : Nat) (hn : n ≤ 65536) : ∀ (ps : List (List Nat)) (k : Nat) (out : List Nat), ps.length ≤ k → (∀ p ∈ ps, PieceOk p ∧ ∀ x ∈ p, x ≤ 18446744073709551615) → out.length + ps.flatten.length ≤ n → decS n k out (some (ps.flatMap encP)) = (out ++ ps.flatten, some [])
  | [], k, out, _, _, _ => by cases k <;> simp [decS]
  | p :: ps, 0, out, h, _, _ => by simp at h
  | p :: ps, k + 1, out, h, hp, hl => by
    rw [List.flatten_cons, List.length_append] at hl
    obtain ⟨hk, hw⟩ := hp p (by simp)
    have hr := rpS_app hk hw (by omega) (most := n - out.length) (by omega) (by omega) (ps.flatMap encP)
    rw [List.flatMap_cons]
    cases hq : encP p ++ ps.flatMap encP with
    | nil =>
      have := encP_pos p
      have := congrArg List.length hq
      rw [List.length_append, List.length_nil] at this
      omega
    | cons b r =>
      rw [hq] at hr
      rw [decS, hr]
      dsimp only
      rw [decS_pieces n hn ps k (out ++ p) (by simpa using h) (fun q hq => hp q (by simp [hq])) (by rw [List.length_append]; omega), List.flatten_cons, List.append_assoc]
/-- Numbers' bytes are read as they were. -/
theorem decS_enc {l : List Nat} (hw : ∀ x ∈ l, x ≤ 18446744073709551615) {n k : Nat} (hn : n ≤ 65536) (hln : l.length ≤ n) (hk : (encL l).length ≤ k) : decS n k [] (some (encL l)) = (l, some []) := by
  have hps : (pcs l).length ≤ k := by
    refine Nat.le_trans ?_ hk
    unfold encL
    clear hk
    induction pcs l with
    | nil => simp
    | cons p ps ih =>
      have := encP_pos p
      rw [List.flatMap_cons, List.length_append, List.length_cons]
      omega
  have := decS_pieces n hn (pcs l) k [] hps (fun p hp => ⟨pcs_ok l p hp, (wordsOf hw hp).1⟩) (by rw [pcs_flat]; simpa using hln)
  rw [pcs_flat, List.nil_append] at this
  exact this
/-- Bytes as numbers: those whose bytes they are. -/
def IsDec (b : List Nat) (n : Int) (o : Option (List Nat)) : Prop :=
  ∀ l, o = some l ↔ ((l.length : Int) = n ∧ l.length ≤ 65536 ∧ (∀ x ∈ l, x ≤ 18446744073709551615) ∧ encL l = b)
theorem encL_inj {l m : List Nat} (hl : l.length ≤ 65536) (hm : m.length ≤ 65536) (hw : ∀ x ∈ l, x ≤ 18446744073709551615) (kw : ∀ x ∈ m, x ≤ 18446744073709551615) (h : encL l = encL m) : l = m := by
  have a := decS_enc hw (n := 65536) (k := (encL l).length) (Nat.le_refl _) hl (Nat.le_refl _)
  have b := decS_enc kw (n := 65536) (k := (encL l).length) (Nat.le_refl _) hm (by rw [h]; exact Nat.le_refl _)
  rw [← h, a] at b
  injection b

end Go.Proofs.Ytlelepopdjoedaa
