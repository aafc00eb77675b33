/- What layer 10's laws share. -/
import Derived.Test.YtlelepopdjoedaaSmallR
import Derived.Test.YtlelepopdjoedaaRunZ
import Derived.Test.YtlelepopdjoedaaOpen
import Derived.Test.YtlelepopdjoedaaTrod

namespace Go.Proofs.Ytlelepopdjoedaa
open Go.RowKit Go.Hm
theorem rdecode_all {w : World} {A : Option Addr} {k c : Nat} {b : List Nat} {n : Int} (h : Reads w w.heap.size 1 A k (nums .u8 b)) (hc : k ≤ c) (hcm : c ≤ maxLen) (h8 : ∀ x ∈ b, x < 256) :
    Calls Try.prog 16 #[.slice A k c, .int .i64 n] w (DecPost b n w) := by
  obtain rfl : k = b.length := h.len
  by_cases hn : n < 0 ∨ 65536 < n
  · exact rdecode_far hn
  · obtain ⟨m, rfl⟩ := Int.eq_ofNat_of_zero_le (show 0 ≤ n by omega)
    exact rdecode_any h hc hcm h8 (by omega)
theorem enc_all {w : World} {A : Option Addr} {n c : Nat} {L : List Nat} (h : Reads w w.heap.size 1 A n (nums .u64 L)) (hc : n ≤ c) (hL : ∀ x ∈ L, x ≤ 18446744073709551615) (hn : n ≤ 65536) :
    Calls Try.prog 11 #[.slice A n c] w (OptB (some (encL L)) w) := by
  obtain rfl : n = L.length := h.len
  exact encode_any h hc hL hn
theorem renc_all {w : World} {A : Option Addr} {n c : Nat} {L : List Nat} (h : Reads w w.heap.size 1 A n (nums .u64 L)) (hc : n ≤ c) (hL : ∀ x ∈ L, x ≤ 18446744073709551615) (hn : n ≤ 65536) :
    Calls Try.prog 12 #[.slice A n c] w (OptB (some (encL L)) w) := by
  obtain rfl : n = L.length := h.len
  exact rencode_any h hc hL hn
theorem isDec_uniq {b : List Nat} {n : Int} {o p : Option (List Nat)} (h : IsDec b n o) (k : IsDec b n p) : o = p := by
  cases o with
  | none =>
    cases p with
    | none => rfl
    | some l => exact (h l).2 ((k l).1 rfl)
  | some l => exact ((k l).2 ((h l).1 rfl)).symm
theorem IsDec.few {b : List Nat} {n : Int} {o : Option (List Nat)} (h : IsDec b n o) : (o.getD []).length ≤ 65536 := by
  cases o with
  | none => simp
  | some l => exact ((h l).1 rfl).2.1
theorem DecPost.u {b : List Nat} {n : Int} {w w' : World} {e : Ending} (h : DecPost b n w e w') : ∃ o A m c, IsDec b n o ∧ e = .returned (.tuple #[.slice A m c, .bool o.isSome]) ∧ m ≤ 65536 ∧ Go.Hm.Own w' w.heap.size 34 (.slice A m c) (nums .u64 (o.getD [])) ∧ New w w' := by
  obtain ⟨o, hI, h⟩ := h
  obtain ⟨A, m, c, e, k, b⟩ := OptW.u h
  have l := k.len
  rw [nums_length] at l
  exact ⟨o, A, m, c, hI, e, by have := hI.few; omega, k, b⟩
theorem flatMap_encP_len : ∀ ps : List (List Nat), (∀ p ∈ ps, 0 < p.length ∧ (encP p).length ≤ 600000) → (ps.flatMap encP).length ≤ ps.flatten.length * 600000
  | [], _ => by simp
  | p :: ps, h => by
    have := flatMap_encP_len ps fun q hq => h q (by simp [hq])
    have := h p (by simp)
    rw [List.flatMap_cons, List.flatten_cons, List.length_append, List.length_append]
    omega
theorem encL_len {l : List Nat} (hw : ∀ x ∈ l, x ≤ 18446744073709551615) (hl : l.length ≤ 65536) : (encL l).length ≤ l.length * 600000 := by
  have := flatMap_encP_len (pcs l) fun p hp => ⟨(pcs_ok l p hp).1, encP_len (wordsOf hw hp).1 (Nat.le_trans (wordsOf hw hp).2 hl)⟩
  rwa [pcs_flat] at this

end Go.Proofs.Ytlelepopdjoedaa
