/- Texts merged, for a claim has at most 60 files: PackM, PackB, UnpackM, Unpack, PackO, By, Lays, CurN, Var, PlnM, PlnA, PlnB, Apart, StaP, Cols, ColsOk, UpT, Sch, FooM, Open, Rec, OpenCl, FooA, FooB, OpenSt, OpenCo. -/
import Derived.BigQuiet
import Derived.Deep.QuietTactic
import Derived.Lib.BitFns
import Derived.Outline
import Derived.StillTailTactics
import Derived.Test.YthmjbdpkdomofaaBun1
import Derived.Test.YthmjbdpkdomofaaBun2
/- Numbers packed into bytes, as plain lists. No program is named here. -/

namespace Go.Hm

/-- Numbers of w bits, one behind the other, as one number. -/
def pk (w : Nat) : List Nat → Nat
  | [] => 0
  | x :: l => x + 2 ^ w * pk w l
theorem pk_snoc (w : Nat) (l : List Nat) (x : Nat) : pk w (l ++ [x]) = pk w l + 2 ^ (w * l.length) * x := by
  induction l with
  | nil => simp [pk]
  | cons a l ih =>
    simp only [List.cons_append, pk, ih, List.length_cons]
    rw [Nat.mul_add, Nat.mul_succ, Nat.pow_add]
    simp only [Nat.mul_comm, Nat.mul_left_comm, Nat.add_assoc]
theorem pk_lt (w : Nat) (l : List Nat) (h : ∀ x ∈ l, x < 2 ^ w) : pk w l < 2 ^ (w * l.length) := by
  induction l with
  | nil => simp [pk]
  | cons a l ih =>
    have h1 := ih fun x hx => h x (by simp [hx])
    have h2 := h a (by simp)
    simp only [pk, List.length_cons]
    rw [Nat.mul_succ, Nat.pow_add, Nat.mul_comm (2 ^ (w * l.length))]
    have : 2 ^ w * (pk w l + 1) ≤ 2 ^ w * 2 ^ (w * l.length) := Nat.mul_le_mul_left _ h1
    rw [Nat.mul_add] at this
    omega
/-- The numbers of w bits that a number is made of. -/
def unpk (w : Nat) : Nat → Nat → List Nat
  | 0, _ => []
  | n + 1, B => unpk w n B ++ [B / 2 ^ (w * n) % 2 ^ w]
theorem unpk_len (w n B : Nat) : (unpk w n B).length = n := by induction n <;> simp_all [unpk]
theorem unpk_lt (w n B : Nat) : ∀ x ∈ unpk w n B, x < 2 ^ w := by
  induction n with
  | zero => intro x hx; simp [unpk] at hx
  | succ n ih =>
    intro x hx
    simp only [unpk, List.mem_append, List.mem_singleton] at hx
    rcases hx with hx | hx
    · exact ih x hx
    · subst hx; exact Nat.mod_lt _ (Nat.two_pow_pos w)
theorem unpk_getD (w n B i : Nat) (h : i < n) : (unpk w n B).getD i 0 = B / 2 ^ (w * i) % 2 ^ w := by
  induction n with
  | zero => omega
  | succ n ih =>
    rw [unpk, List.getD_eq_getElem?_getD]
    by_cases hi : i < n
    · rw [List.getElem?_append_left (by rw [unpk_len]; exact hi), ← List.getD_eq_getElem?_getD, ih hi]
    · obtain rfl : i = n := by omega
      rw [List.getElem?_append_right (by rw [unpk_len]; exact Nat.le_refl _), unpk_len]
      simp
theorem pk_unpk (w n B : Nat) : pk w (unpk w n B) = B % 2 ^ (w * n) := by
  induction n with
  | zero => simp [unpk, pk, Nat.mod_one]
  | succ n ih => rw [unpk, pk_snoc, ih, unpk_len, Nat.mul_succ, Nat.pow_add, Nat.mod_mul]
theorem unpk_pk (w : Nat) (l : List Nat) (h : ∀ x ∈ l, x < 2 ^ w) (B : Nat) (hB : B % 2 ^ (w * l.length) = pk w l) : unpk w l.length B = l := by
  have key : ∀ (m : List Nat), (∀ x ∈ m, x < 2 ^ w) → ∀ i, i < m.length → pk w m / 2 ^ (w * i) % 2 ^ w = m.getD i 0 := by
    intro m
    induction m with
    | nil => intro _ i hi; simp at hi
    | cons a m ih =>
      intro hm i hi
      have ha := hm a (by simp)
      cases i with
      | zero => simp [pk, Nat.add_mul_mod_self_left, Nat.mod_eq_of_lt ha]
      | succ i =>
        rw [pk, Nat.mul_succ, Nat.add_comm (w * i), Nat.pow_add, ← Nat.div_div_eq_div_mul, Nat.add_mul_div_left _ _ (Nat.two_pow_pos w), Nat.div_eq_of_lt ha, Nat.zero_add, ih (fun x hx => hm x (by simp [hx])) i (by simpa using hi)]
        simp
  refine List.ext_getElem (unpk_len _ _ _) fun i h1 h2 => ?_
  have e1 : (unpk w l.length B).getD i 0 = (unpk w l.length B)[i] := by rw [List.getD_eq_getElem?_getD, List.getElem?_eq_getElem h1]; rfl
  have e2 : l.getD i 0 = l[i] := by rw [List.getD_eq_getElem?_getD, List.getElem?_eq_getElem h2]; rfl
  rw [← e1, ← e2, unpk_getD w l.length B i h2, ← key l h i h2, ← hB]
  have hs : w * l.length = w * i + (w + w * (l.length - i - 1)) := by
    have e : l.length = i + (1 + (l.length - i - 1)) := by omega
    conv => lhs; rw [e]
    rw [Nat.mul_add, Nat.mul_add, Nat.mul_one]
  rw [hs, Nat.pow_add, Nat.mod_mul_right_div_self, Nat.pow_add, Nat.mod_mul_right_mod]

/-- A list that is as long and has the same numbers. -/
theorem low_getD (X s i : Nat) (h : i < s) : (low X s).getD i 0 = X / 256 ^ i % 256 := by
  induction s with
  | zero => omega
  | succ s ih =>
    rw [low, List.getD_eq_getElem?_getD]
    by_cases hi : i < s
    · rw [List.getElem?_append_left (by rw [low_len]; exact hi), ← List.getD_eq_getElem?_getD, ih hi]
    · obtain rfl : i = s := by omega
      rw [List.getElem?_append_right (by rw [low_len]; exact Nat.le_refl _), low_len]
      simp
theorem low_num (b : List Nat) (h : ∀ x ∈ b, x < 256) : low (num b) b.length = b := by
  have key : ∀ (m : List Nat), (∀ x ∈ m, x < 256) → ∀ i, i < m.length → num m / 256 ^ i % 256 = m.getD i 0 := by
    intro m
    induction m with
    | nil => intro _ i hi; simp at hi
    | cons a m ih =>
      intro hm i hi
      have ha := hm a (by simp)
      cases i with
      | zero => simp [num]; omega
      | succ i =>
        rw [num, Nat.pow_succ, Nat.mul_comm (256 ^ i), ← Nat.div_div_eq_div_mul, show (a + 256 * num m) / 256 = num m by omega, ih (fun x hx => hm x (by simp [hx])) i (by simpa using hi)]
        simp
  refine List.ext_getElem (low_len _ _) fun i h1 h2 => ?_
  have e1 : (low (num b) b.length).getD i 0 = (low (num b) b.length)[i] := by rw [List.getD_eq_getElem?_getD, List.getElem?_eq_getElem h1]; rfl
  have e2 : b.getD i 0 = b[i] := by rw [List.getD_eq_getElem?_getD, List.getElem?_eq_getElem h2]; rfl
  rw [← e1, ← e2, low_getD _ _ _ h2, key b h i h2]
theorem num_byte (b : List Nat) (h : ∀ x ∈ b, x < 256) (i : Nat) (hi : i < b.length) : b.getD i 0 = num b / 256 ^ i % 256 := by
  have := low_getD (num b) b.length i hi
  rwa [low_num b h] at this
theorem low_zero (s : Nat) : low 0 s = List.replicate s 0 := by
  induction s with
  | zero => rfl
  | succ s ih => rw [low, ih, List.replicate_succ']; simp
theorem p256 (k : Nat) : (256 : Nat) ^ k = 2 ^ (8 * k) := by rw [show (256 : Nat) = 2 ^ 8 from rfl, ← Nat.pow_mul]

/-- One more bit, above all that there are. -/
theorem low_set (X s a c : Nat) (ha : a < 8 * s) (hX : X < 2 ^ a) (hc : c ≤ 1) :
    (low X s).set (a / 8) ((low X s).getD (a / 8) 0 + c * 2 ^ (a % 8)) = low (X + c * 2 ^ a) s ∧ (low X s).getD (a / 8) 0 < 2 ^ (a % 8) ∧ (low X s).getD (a / 8) 0 + c * 2 ^ (a % 8) < 256 := by
  have hq : a / 8 < s := by omega
  have ea : 2 ^ a = 256 ^ (a / 8) * 2 ^ (a % 8) := by rw [p256, ← Nat.pow_add]; congr 1; omega
  have hr : 2 ^ (a % 8) ≤ 2 ^ 7 := Nat.pow_le_pow_right (by omega) (by omega)
  have h0 : X / 256 ^ (a / 8) < 2 ^ (a % 8) := by
    apply Nat.div_lt_of_lt_mul
    rw [← ea]; exact hX
  have hb : (low X s).getD (a / 8) 0 = X / 256 ^ (a / 8) := by
    rw [low_getD _ _ _ hq]; exact Nat.mod_eq_of_lt (by omega)
  have hcc : c * 2 ^ (a % 8) ≤ 2 ^ (a % 8) := by
    calc c * 2 ^ (a % 8) ≤ 1 * 2 ^ (a % 8) := Nat.mul_le_mul_right _ hc
      _ = _ := Nat.one_mul _
  have hlt : X / 256 ^ (a / 8) + c * 2 ^ (a % 8) < 256 := by omega
  refine ⟨?_, by rw [hb]; exact h0, by rw [hb]; exact hlt⟩
  refine List.ext_getElem (by simp [low_len]) fun i h1 h2 => ?_
  have h2' : i < s := by rwa [low_len] at h2
  have h1' : i < (low X s).length := by rwa [low_len]
  have e2 : (low (X + c * 2 ^ a) s)[i] = (X + c * 2 ^ a) / 256 ^ i % 256 := by
    rw [← low_getD _ _ _ h2', List.getD_eq_getElem?_getD, List.getElem?_eq_getElem h2]; rfl
  have e1 : (low X s)[i]'h1' = X / 256 ^ i % 256 := by
    rw [← low_getD _ _ _ h2', List.getD_eq_getElem?_getD, List.getElem?_eq_getElem h1']; rfl
  rw [e2, List.getElem_set]
  by_cases hi : a / 8 = i
  · subst hi
    rw [if_pos rfl, hb, ea, show c * (256 ^ (a / 8) * 2 ^ (a % 8)) = 256 ^ (a / 8) * (c * 2 ^ (a % 8)) from Nat.mul_left_comm _ _ _, Nat.add_mul_div_left _ _ (Nat.pow_pos (by omega)), Nat.mod_eq_of_lt hlt]
  · rw [if_neg hi, e1]
    rcases Nat.lt_or_gt_of_ne hi with hlt' | hgt
    · have hp : 2 ^ (a + 1) ≤ 256 ^ i := by rw [p256]; exact Nat.pow_le_pow_right (by omega) (by omega)
      have hca : c * 2 ^ a ≤ 2 ^ a := by
        calc c * 2 ^ a ≤ 1 * 2 ^ a := Nat.mul_le_mul_right _ hc
          _ = _ := Nat.one_mul _
      rw [Nat.pow_succ] at hp
      rw [Nat.div_eq_of_lt (by omega), Nat.div_eq_of_lt (by omega)]
    · have es : 2 ^ a = 256 ^ i * (256 * 2 ^ (a - 8 * (i + 1))) := by
        rw [p256, show (256 : Nat) = 2 ^ 8 from rfl, ← Nat.pow_add, ← Nat.pow_add]; congr 1; omega
      rw [es, show c * (256 ^ i * (256 * 2 ^ (a - 8 * (i + 1)))) = 256 ^ i * (256 * (c * 2 ^ (a - 8 * (i + 1)))) by simp only [Nat.mul_left_comm], Nat.add_mul_div_left _ _ (Nat.pow_pos (by omega)), Nat.add_mul_mod_self_left]
theorem mod_succ_pow (y j : Nat) : y % 2 ^ (j + 1) = y % 2 ^ j + 2 ^ j * (y / 2 ^ j % 2) := by rw [Nat.pow_succ, Nat.mod_mul]
theorem part_lt {X m : Nat} (y j : Nat) (hX : X < 2 ^ m) : X + y % 2 ^ j * 2 ^ m < 2 ^ (m + j) := by
  have h1 : y % 2 ^ j < 2 ^ j := Nat.mod_lt _ (Nat.two_pow_pos _)
  have h2 : (y % 2 ^ j + 1) * 2 ^ m ≤ 2 ^ j * 2 ^ m := Nat.mul_le_mul_right _ h1
  rw [Nat.add_mul, Nat.one_mul] at h2
  rw [Nat.pow_add, Nat.mul_comm (2 ^ m)]
  omega
theorem pack_step {X m : Nat} (s y j a q r t : Nat) (hX : X < 2 ^ m) (ha : a = m + j) (hs : a < 8 * s) (hq : q = a / 8 ∧ r = a % 8) (ht : t = y / 2 ^ j % 2) :
    (low (X + y % 2 ^ j * 2 ^ m) s).getD q 0 < 2 ^ r ∧ (low (X + y % 2 ^ j * 2 ^ m) s).set q ((low (X + y % 2 ^ j * 2 ^ m) s).getD q 0 + t * 2 ^ r) = low (X + y % 2 ^ (j + 1) * 2 ^ m) s := by
  obtain ⟨rfl, rfl⟩ := hq
  have h := low_set (X + y % 2 ^ j * 2 ^ m) s a t hs (by rw [ha]; exact part_lt y j hX) (by omega)
  refine ⟨h.2.1, h.1.trans ?_⟩
  congr 1
  rw [mod_succ_pow, Nat.add_mul, ht, ha, Nat.pow_add, Nat.add_assoc]
  congr 2
  rw [Nat.mul_comm (2 ^ m), ← Nat.mul_assoc, Nat.mul_comm (y / 2 ^ j % 2)]

end Go.Hm
/- Packing: the package bitpack and its answer. -/

namespace Go.Proofs.Ythmjbdpkdomofaa
open Go.RowKit Go.Hm

/-- What is packed. -/
def packO (L : List Nat) (x : Int) : Option (List Nat) :=
  if 0 ≤ x ∧ x ≤ 64 ∧ L.length ≤ 65536 ∧ (wid L : Int) ≤ x then some (low (pk x.toNat L) ((x.toNat * L.length + 7) / 8)) else none
/-- What is unpacked. -/
def unpackO (b : List Nat) (x n : Int) : Option (List Nat) :=
  if 0 ≤ x ∧ x ≤ 64 ∧ 0 ≤ n ∧ n ≤ 65536 ∧ b.length = (x.toNat * n.toNat + 7) / 8 ∧ num b < 2 ^ (x.toNat * n.toNat) then some (unpk x.toNat n.toNat (num b)) else none


end Go.Proofs.Ythmjbdpkdomofaa
/- Numbers taken out of bytes, as plain lists. No program is named here. -/

namespace Go.Hm
/-- p numbers, k bits of the next one, and nothing yet of the others. -/
def ul (w p k B n : Nat) : List Nat := unpk w p B ++ (B / 2 ^ (w * p) % 2 ^ k) :: List.replicate (n - p - 1) 0
theorem ul_zero (w p B n : Nat) (h : p < n) : unpk w p B ++ List.replicate (n - p) 0 = ul w p 0 B n := by
  rw [ul, show n - p = (n - p - 1) + 1 by omega, List.replicate_succ, Nat.pow_zero, Nat.mod_one]
  rfl
theorem ul_all (w p B n : Nat) : ul w p w B n = unpk w (p + 1) B ++ List.replicate (n - (p + 1)) 0 := by
  rw [ul, unpk, List.append_assoc, show n - p - 1 = n - (p + 1) by omega]
  rfl
theorem ul_len (w p k B n : Nat) (h : p < n) : (ul w p k B n).length = n := by
  rw [ul, List.length_append, unpk_len, List.length_cons, List.length_replicate]; omega
theorem ul_getD (w p k B n : Nat) : (ul w p k B n).getD p 0 = B / 2 ^ (w * p) % 2 ^ k := by
  rw [ul, List.getD_eq_getElem?_getD, List.getElem?_append_right (by rw [unpk_len]; exact Nat.le_refl _), unpk_len]
  simp
theorem ul_step (w p k B n a t : Nat) (ha : a = w * p + k) (ht : t = B / 2 ^ a % 2) : (ul w p k B n).set p (B / 2 ^ (w * p) % 2 ^ k + t * 2 ^ k) = ul w p (k + 1) B n := by
  have e : B / 2 ^ (w * p) % 2 ^ (k + 1) = B / 2 ^ (w * p) % 2 ^ k + t * 2 ^ k := by
    rw [mod_succ_pow, Nat.div_div_eq_div_mul, ← Nat.pow_add, ← ha, ← ht, Nat.mul_comm t]
  rw [ul, ul, e, List.set_append_right _ _ (by rw [unpk_len]; exact Nat.le_refl _), unpk_len, Nat.sub_self]
  rfl
theorem bit_at (b : List Nat) (h : ∀ x ∈ b, x < 256) (a q r : Nat) (hq : q = a / 8 ∧ r = a % 8) (ha : a < 8 * b.length) : b.getD q 0 / 2 ^ r % 2 = num b / 2 ^ a % 2 := by
  obtain ⟨rfl, rfl⟩ := hq
  rw [num_byte b h _ (by omega)]
  have e : (256 : Nat) = 2 ^ (a % 8) * 2 ^ (8 - a % 8) := by rw [← Nat.pow_add, show a % 8 + (8 - a % 8) = 8 by omega]
  have e2 : 2 ^ (8 - a % 8) = 2 * 2 ^ (7 - a % 8) := by rw [← Nat.pow_succ']; congr 1; omega
  rw [show num b / 256 ^ (a / 8) % 256 = num b / 256 ^ (a / 8) % (2 ^ (a % 8) * 2 ^ (8 - a % 8)) by rw [← e], Nat.mod_mul_right_div_self, e2, Nat.mod_mul_right_mod, Nat.div_div_eq_div_mul, p256, ← Nat.pow_add]
  congr 3
  omega
/-- Whether what is left of the last byte is 0. -/
theorem num_last (b : List Nat) (h : ∀ x ∈ b, x < 256) (M r : Nat) (hl : b.length = (M + 7) / 8) (hr : r = M % 8) : num b < 2 ^ M ↔ (r = 0 ∨ b.getD (b.length - 1) 0 / 2 ^ r = 0) := by
  have hb := num_lt b h
  by_cases h0 : r = 0
  · have : M = 8 * b.length := by omega
    rw [p256, ← this] at hb
    simp [h0, hb]
  · have hl2 : b.length - 1 < b.length := by omega
    have hM : M = 8 * (b.length - 1) + r := by omega
    have e := num_byte b h _ hl2
    have hlt : num b / 256 ^ (b.length - 1) < 256 := by
      apply Nat.div_lt_of_lt_mul
      rw [← Nat.pow_succ, show (b.length - 1).succ = b.length by omega]
      exact hb
    rw [Nat.mod_eq_of_lt hlt] at e
    rw [e, hM, Nat.pow_add, ← p256]
    constructor
    · intro hh
      exact .inr (Nat.div_eq_of_lt (Nat.div_lt_of_lt_mul hh))
    · rintro (hh | hh)
      · exact absurd hh h0
      · have h1 : num b / 256 ^ (b.length - 1) < 2 ^ r := by
          rcases Nat.lt_or_ge (num b / 256 ^ (b.length - 1)) (2 ^ r) with h2 | h2
          · exact h2
          · have := Nat.div_pos h2 (Nat.two_pow_pos r)
            omega
        rw [Nat.mul_comm]
        exact (Nat.div_lt_iff_lt_mul (Nat.pow_pos (by omega))).1 h1
theorem or_bit64 (v k t : Nat) (hv : v < 2 ^ k) (ht : t ≤ 1) (hk : k < 64) : bits .or .u64 (v : Int) (IntKind.u64.wrap ((t : Int) * 2 ^ k)) = ((v + t * 2 ^ k : Nat) : Int) := by
  have h7 : 2 ^ (k + 1) ≤ 2 ^ 64 := Nat.pow_le_pow_right (by omega) (by omega)
  rw [Nat.pow_succ] at h7
  have hq : t * 2 ^ k ≤ 1 * 2 ^ k := Nat.mul_le_mul_right _ ht
  have e : IntKind.u64.wrap ((t : Int) * 2 ^ k) = ((t * 2 ^ k : Nat) : Int) := by
    have e2 : ((t * 2 ^ k : Nat) : Int) = (t : Int) * 2 ^ k := by simp
    rw [← e2, IntKind.wrap_u64]; omega
  rw [e, u64_or_nat _ _ (by omega) (by omega), Nat.or_comm, ← Nat.mul_comm (2 ^ k), ← Nat.two_pow_add_eq_or_of_lt hv, Nat.add_comm]

/-- One more bit, above all that there are. -/
theorem unpk_set (w n X a c : Nat) (hw : 0 < w) (ha : a < w * n) (hX : X < 2 ^ a) (hc : c ≤ 1) :
    (unpk w n X).set (a / w) ((unpk w n X).getD (a / w) 0 + c * 2 ^ (a % w)) = unpk w n (X + c * 2 ^ a) ∧ (unpk w n X).getD (a / w) 0 < 2 ^ (a % w) := by
  have hq : a / w < n := Nat.div_lt_of_lt_mul ha
  have hr := Nat.mod_lt a hw
  have hda := Nat.div_add_mod a w
  have ea : 2 ^ a = 2 ^ (w * (a / w)) * 2 ^ (a % w) := by rw [← Nat.pow_add, hda]
  have hrw : 2 ^ (a % w + 1) ≤ 2 ^ w := Nat.pow_le_pow_right (by omega) (by omega)
  rw [Nat.pow_succ] at hrw
  have h0 : X / 2 ^ (w * (a / w)) < 2 ^ (a % w) := by
    apply Nat.div_lt_of_lt_mul
    rw [← ea]; exact hX
  have hb : (unpk w n X).getD (a / w) 0 = X / 2 ^ (w * (a / w)) := by
    rw [unpk_getD _ _ _ _ hq]; exact Nat.mod_eq_of_lt (by omega)
  have hcc : c * 2 ^ (a % w) ≤ 1 * 2 ^ (a % w) := Nat.mul_le_mul_right _ hc
  have hlt : X / 2 ^ (w * (a / w)) + c * 2 ^ (a % w) < 2 ^ w := by omega
  refine ⟨?_, by rw [hb]; exact h0⟩
  refine List.ext_getElem (by simp [unpk_len]) fun i h1 h2 => ?_
  have h2' : i < n := by rwa [unpk_len] at h2
  have h1' : i < (unpk w n X).length := by rwa [unpk_len]
  have e2 : (unpk w n (X + c * 2 ^ a))[i] = (X + c * 2 ^ a) / 2 ^ (w * i) % 2 ^ w := by
    rw [← unpk_getD _ _ _ _ h2', List.getD_eq_getElem?_getD, List.getElem?_eq_getElem h2]; rfl
  have e1 : (unpk w n X)[i]'h1' = X / 2 ^ (w * i) % 2 ^ w := by
    rw [← unpk_getD _ _ _ _ h2', List.getD_eq_getElem?_getD, List.getElem?_eq_getElem h1']; rfl
  rw [e2, List.getElem_set]
  by_cases hi : a / w = i
  · subst hi
    rw [if_pos rfl, hb, ea, show c * (2 ^ (w * (a / w)) * 2 ^ (a % w)) = 2 ^ (w * (a / w)) * (c * 2 ^ (a % w)) from Nat.mul_left_comm _ _ _, Nat.add_mul_div_left _ _ (Nat.two_pow_pos _), Nat.mod_eq_of_lt hlt]
  · rw [if_neg hi, e1]
    rcases Nat.lt_or_gt_of_ne hi with hlt' | hgt
    · have hwi : w * (a / w + 1) ≤ w * i := Nat.mul_le_mul_left _ hlt'
      rw [Nat.mul_succ] at hwi
      have hp : 2 ^ (a + 1) ≤ 2 ^ (w * i) := Nat.pow_le_pow_right (by omega) (by omega)
      have hca : c * 2 ^ a ≤ 1 * 2 ^ a := Nat.mul_le_mul_right _ hc
      rw [Nat.pow_succ] at hp
      rw [Nat.div_eq_of_lt (by omega), Nat.div_eq_of_lt (by omega)]
    · have hwi : w * (i + 1) ≤ w * (a / w) := Nat.mul_le_mul_left _ hgt
      rw [Nat.mul_succ] at hwi
      have es : 2 ^ a = 2 ^ (w * i) * (2 ^ w * 2 ^ (a - (w * i + w))) := by
        rw [← Nat.pow_add, ← Nat.pow_add]; congr 1; omega
      rw [es, show c * (2 ^ (w * i) * (2 ^ w * 2 ^ (a - (w * i + w)))) = 2 ^ (w * i) * (2 ^ w * (c * 2 ^ (a - (w * i + w)))) by simp only [Nat.mul_left_comm], Nat.add_mul_div_left _ _ (Nat.two_pow_pos _), Nat.add_mul_mod_self_left]
theorem unpk_zero (w n : Nat) : unpk w n 0 = List.replicate n 0 := by
  induction n with
  | zero => rfl
  | succ n ih => rw [unpk, ih, List.replicate_succ']; simp
theorem and_bit8 (y r t : Nat) (hy : y < 256) (ht : t = y / 2 ^ r % 2) : bits .and .u8 ((y : Int) / 2 ^ r) 1 = (t : Int) := by
  have h1 : y / 2 ^ r ≤ y := Nat.div_le_self _ _
  have := u8_and_nat (y / 2 ^ r) 1 (by omega) (by omega)
  rw [Nat.and_one_is_mod, ← ht] at this
  rw [← this]
  congr 1

end Go.Hm
/- Unpacking: the package bitpack and its answer. -/

namespace Go.Proofs.Ythmjbdpkdomofaa
open Go.RowKit Go.Hm

theorem optW_if {c : Prop} [Decidable c] {l : List Nat} {w w' : World} {e : Ending} (h : (c → OptW (some l) w e w') ∧ (¬ c → OptW none w e w')) : OptW (if c then some l else none) w e w' := by
  split
  · exact h.1 ‹_›
  · exact h.2 ‹_›


end Go.Proofs.Ythmjbdpkdomofaa
/- What was packed is unpacked, and the other way round: plain lists. -/

namespace Go.Proofs.Ythmjbdpkdomofaa
open Go.RowKit Go.Hm
theorem packO_some (L : List Nat) (x : Nat) (hx : x ≤ 64) (hl : L.length ≤ 65536) (hw : wid L ≤ x) : packO L (x : Int) = some (low (pk x L) ((x * L.length + 7) / 8)) := by
  unfold packO
  rw [if_pos ⟨by omega, by omega, hl, by omega⟩, Int.toNat_natCast]
theorem unpack_pack (L : List Nat) (x : Nat) (hx : x ≤ 64) (hl : L.length ≤ 65536) (hw : wid L ≤ x) (hL : ∀ x ∈ L, x ≤ 18446744073709551615) : unpackO (low (pk x L) ((x * L.length + 7) / 8)) (x : Int) (L.length : Int) = some L := by
  have h2 := (wid_iff L x hx hL).1 hw
  have h1 := pk_lt x L h2
  have h3 : num (low (pk x L) ((x * L.length + 7) / 8)) = pk x L := by
    rw [num_low, p256, Nat.mod_eq_of_lt]
    exact Nat.lt_of_lt_of_le h1 (Nat.pow_le_pow_right (by omega) (by omega))
  unfold unpackO
  rw [if_pos ⟨by omega, by omega, by omega, by omega, by simp only [Int.toNat_natCast, low_len], by simp only [Int.toNat_natCast, h3]; exact h1⟩]
  simp only [Int.toNat_natCast, h3]
  rw [unpk_pk x L h2 _ (Nat.mod_eq_of_lt h1)]
theorem pack_unpack {b l : List Nat} {x n : Int} (h8 : ∀ x ∈ b, x < 256) (h : unpackO b x n = some l) : packO l x = some b ∧ (l.length : Int) = n ∧ (wid l : Int) ≤ x ∧ (∀ y ∈ l, y ≤ 18446744073709551615) ∧ l.length ≤ 65536 := by
  unfold unpackO at h
  split at h
  · rename_i hg
    obtain ⟨h1, h2, h3, h4, h5, h6⟩ := hg
    injection h with h
    obtain ⟨x, rfl⟩ := Int.eq_ofNat_of_zero_le h1
    obtain ⟨n, rfl⟩ := Int.eq_ofNat_of_zero_le h3
    simp only [Int.toNat_natCast] at h5 h6 h
    have hx : x ≤ 64 := by omega
    have hlt : ∀ y ∈ l, y < 2 ^ x := by rw [← h]; exact unpk_lt _ _ _
    have hll : l.length = n := by rw [← h, unpk_len]
    have hp : 2 ^ x ≤ 2 ^ 64 := Nat.pow_le_pow_right (by omega) hx
    have hb : ∀ y ∈ l, y ≤ 18446744073709551615 := fun y hy => by have := hlt y hy; omega
    have hw : wid l ≤ x := (wid_iff l x hx hb).2 hlt
    refine ⟨?_, by omega, by omega, hb, by omega⟩
    rw [packO_some l x hx (by omega) hw, hll, ← h5, ← h, pk_unpk, Nat.mod_eq_of_lt h6, low_num b h8]
  · cases h

end Go.Proofs.Ythmjbdpkdomofaa
/- What a call answers that lays bytes. -/

namespace Go.Proofs.Ythmjbdpkdomofaa
open Go.RowKit Go.Hm
/-- What a call answers that lays bytes: l, in memory of its own. -/
def BytesPost (l : List Nat) (w : World) (e : Ending) (w' : World) : Prop :=
  ∃ A n c, e = .returned (.slice A n c) ∧ Own w' w.heap.size 5 (.slice A n c) (nums .u8 l) ∧ Below w.heap.size w w'

end Go.Proofs.Ythmjbdpkdomofaa
/- Contracts of package cursor: laying numbers. -/

namespace Go.Proofs.Ythmjbdpkdomofaa
open Go.RowKit Go.Hm



end Go.Proofs.Ythmjbdpkdomofaa
/- Contracts of package cursor: numbers. -/

namespace Go.Proofs.Ythmjbdpkdomofaa
open Go.RowKit Go.Hm




end Go.Proofs.Ythmjbdpkdomofaa
/- The package varint: what each function answers, as numbers and lists. -/

namespace Go.Hm

theorem bitLen_or1 (n : Nat) (h0 : n ≠ 0) (h : n < 18446744073709551616) : Lib.bitLen (n ||| 1) = Lib.bitLen n := by
  have e : (n ||| 1) / 2 = n / 2 := by rw [Nat.or_div_two]; simp
  have hlt : n ||| 1 < 2 ^ 64 := Nat.or_lt_two_pow h (by omega)
  have hne : n ||| 1 ≠ 0 := by intro e0; rw [e0] at e; have := Nat.right_le_or (n := n) (m := 1); omega
  rw [Lib.bitLen_half _ hne hlt, Lib.bitLen_half n h0 h, e]
theorem vp_bits : ∀ (k n : Nat), n < 2 ^ k → n ≠ 0 → n < 18446744073709551616 → (Lib.bitLen n + 6) / 7 = (vp n).length := by
  intro k
  induction k using Nat.strongRecOn with
  | ind k ih =>
    intro n hk h0 h
    by_cases hn : n < 128
    · have h1 := Lib.bitLen_le n 7 (by omega) hn
      have h2 := Lib.bitLen_half n h0 h
      rw [vp_lt hn]
      simp only [List.length_singleton]
      omega
    · have e : Lib.bitLen n = 7 + Lib.bitLen (n / 128) := Lib.bitLen_shift 7 n (by omega) h
      have hk7 : 7 < k := by
        refine Nat.lt_of_not_le fun hle => ?_
        have := Nat.pow_le_pow_right (n := 2) (by omega) hle
        omega
      have hd : n / 128 < 2 ^ (k - 7) := by
        refine Nat.div_lt_of_lt_mul ?_
        rw [show (128 : Nat) = 2 ^ 7 from rfl, ← Nat.pow_add, show 7 + (k - 7) = k by omega]
        exact hk
      have := ih (k - 7) (by omega) (n / 128) hd (by omega) (by omega)
      rw [vp_ge hn, List.length_cons, ← this, e]
      omega
theorem vp_size (n : Nat) (h : n < 18446744073709551616) : (Lib.bitLen (n ||| 1) + 6) / 7 = (vp n).length := by
  by_cases h0 : n = 0
  · subst h0; rw [vp_lt (by omega)]; decide
  · rw [bitLen_or1 n h0 h, vp_bits 64 n h h0 h]

theorem xor0_u64 (a : Nat) (h : a < 18446744073709551616) : bits .xor .u64 (a : Int) 0 = a := by
  have := u64_xor_nat a 0 h (by omega)
  simpa using this
theorem xor1_u64 (a : Nat) (h : a < 18446744073709551616) : bits .xor .u64 (a : Int) 18446744073709551615 = ((18446744073709551615 - a : Nat) : Int) := by
  show IntKind.u64.wrap ((BitVec.ofInt 64 (a : Int) ^^^ BitVec.ofInt 64 18446744073709551615).toNat : Int) = _
  rw [show BitVec.ofInt 64 18446744073709551615 = BitVec.allOnes 64 from by decide, BitVec.xor_allOnes, BitVec.toNat_not, ofInt_u64 a h, IntKind.wrap_u64]
  omega
theorem xor0_i64 (a : Nat) (h : a < 9223372036854775808) : bits .xor .i64 (a : Int) 0 = a := by
  show IntKind.i64.wrap ((BitVec.ofInt 64 (a : Int) ^^^ BitVec.ofInt 64 0).toNat : Int) = _
  rw [show BitVec.ofInt 64 0 = 0#64 from by decide, BitVec.xor_zero, ofInt_u64 a (by omega), IntKind.wrap_i64]
  omega
theorem xor1_i64 (a : Nat) (h : a < 9223372036854775808) : bits .xor .i64 (a : Int) (-1) = -(a : Int) - 1 := by
  show IntKind.i64.wrap ((BitVec.ofInt 64 (a : Int) ^^^ BitVec.ofInt 64 (-1)).toNat : Int) = _
  rw [show BitVec.ofInt 64 (-1) = BitVec.allOnes 64 from by decide, BitVec.xor_allOnes, BitVec.toNat_not, ofInt_u64 a (by omega), IntKind.wrap_i64]
  omega

/-- The signed numbers as unsigned ones, and back. -/
def zig (x : Int) : Nat := if x < 0 then (-(2 * x) - 1).toNat else (2 * x).toNat
def zag (n : Nat) : Int := if n % 2 = 0 then ((n / 2 : Nat) : Int) else -((n / 2 : Nat) : Int) - 1
theorem zag_zig (x : Int) : zag (zig x) = x := by unfold zig zag; split <;> split <;> omega
theorem zig_zag (n : Nat) : zig (zag n) = n := by unfold zig zag; split <;> split <;> omega

end Go.Hm

namespace Go.Proofs.Ythmjbdpkdomofaa
open Go.RowKit Go.Hm

def IsSize (n : Nat) (w : World) (e : Ending) (w' : World) : Prop := e = .returned (.int .i64 ((vp n).length : Int)) ∧ w = w'


def PutRel (w : World) (l : List Nat) (N : Nat) (nv v : Value) (wr : World) : Prop := ∃ N' D A c, nv = .int .u64 ((N' : Nat) : Int) ∧ N' ≤ N ∧ D.length + (vp N').length ≤ l.length + 10 ∧ v = .slice A D.length c ∧ D ++ vp N' = l ++ vp N ∧ Own wr w.heap.size 5 (.slice A D.length c) (nums .u8 D) ∧ Below w.heap.size w wr

def ZigPost (v : Value) (w : World) (e : Ending) (w' : World) : Prop := e = .returned v ∧ w = w'

end Go.Proofs.Ythmjbdpkdomofaa
/- Values as they are, as bytes: plain lists. -/

namespace Go.Hm
open Go Go.RowKit
/-- A number's bits. -/
def u64N (n : Int) : Nat := (n % 18446744073709551616).toNat
/-- The bytes of a right cell of a type that is not 1. -/
def plE (t : Int) (c : CellS) : List Nat :=
  if t = 0 then low (u64N c.2.1) 8 else if t = 2 then vp c.2.2.1.length ++ c.2.2.1 else if t = 3 then vp (zig c.2.2.2.1) ++ vp (zig c.2.2.2.2) else []
def bitsP (l : List CellS) : List Nat := l.map fun c => u64N c.2.1
/-- May cells be laid so? -/
def plOk (t : Int) (l : List CellS) : Bool := decide (0 ≤ t ∧ t ≤ 3 ∧ l.length ≤ 65536) && l.all fun c => rightB c t false
def plB (t : Int) (l : List CellS) : List Nat := if t = 1 then low (pk 1 (bitsP l)) ((1 * l.length + 7) / 8) else l.flatMap (plE t)
def plO (t : Int) (l : List CellS) : Option (List Nat) := if plOk t l then some (plB t l) else none
theorem u64N_lt (n : Int) : u64N n < 18446744073709551616 := by unfold u64N; omega
theorem plOk_iff {t : Int} {l : List CellS} : plOk t l = true ↔ (0 ≤ t ∧ t ≤ 3 ∧ l.length ≤ 65536) ∧ ∀ c ∈ l, rightB c t false = true := by
  unfold plOk
  rw [Bool.and_eq_true, decide_eq_true_iff, List.all_eq_true]
theorem right0 {c : CellS} {t : Int} (h : rightB c t false = true) : c.1 = false := by
  unfold rightB at h
  cases e : c.1 with
  | false => rfl
  | true => rw [e] at h; simp at h
theorem right1 {c : CellS} (h : rightB c 1 false = true) : c.2.1 = 0 ∨ c.2.1 = 1 := by
  have h0 := right0 h
  unfold rightB at h
  rw [h0] at h
  simp at h
  exact h.2
theorem right2 {c : CellS} (h : rightB c 2 false = true) : c.2.2.1.length ≤ 65536 := by
  have h0 := right0 h
  unfold rightB at h
  rw [h0] at h
  simp at h
  exact h.2
theorem right3 {c : CellS} (h : rightB c 3 false = true) : (-1048576 ≤ c.2.2.2.1 ∧ c.2.2.2.1 ≤ 1048576) ∧ -1048576 ≤ c.2.2.2.2 ∧ c.2.2.2.2 ≤ 1048576 := by
  have h0 := right0 h
  unfold rightB inBox at h
  rw [h0] at h
  simp at h
  omega
theorem bitsP_wid {l : List CellS} (h : ∀ c ∈ l, rightB c 1 false = true) : wid (bitsP l) ≤ 1 := by
  have hb : ∀ x ∈ bitsP l, x < 2 := by
    intro x hx
    obtain ⟨c, hc, rfl⟩ := List.mem_map.1 hx
    rcases right1 (h c hc) with e | e <;> rw [e] <;> decide
  exact (wid_iff _ 1 (by omega) fun x hx => by have := hb x hx; omega).2 fun x hx => by simpa using hb x hx
/-- How many bytes a right cell has. -/
theorem plE_len {t : Int} {c : CellS} (h : rightB c t false = true) : (plE t c).length ≤ 20 + c.2.2.1.length := by
  unfold plE
  split
  · rw [low_len]; omega
  · split
    · rename_i h2
      subst h2
      have := right2 h
      have := vp_len10 (n := c.2.2.1.length) (by omega)
      rw [List.length_append]
      omega
    · split
      · rename_i h2
        subst h2
        have := right3 h
        have a := vp_len10 (n := zig c.2.2.2.1) (by unfold zig; split <;> omega)
        have b := vp_len10 (n := zig c.2.2.2.2) (by unfold zig; split <;> omega)
        rw [List.length_append]
        omega
      · simp

end Go.Hm
/- Contracts of package plain: what may be laid, a row of bits, how much room. -/

namespace Go.Proofs.Ythmjbdpkdomofaa
open Go.RowKit Go.Hm
theorem pack_plB {L : List CellS} (hR : ∀ c ∈ L, rightB c 1 false = true) (hn : L.length ≤ 65536) : packO (bitsP L) 1 = some (plB 1 L) := by
  refine (packO_some (bitsP L) 1 (by omega) (by unfold bitsP; rw [List.length_map]; omega) (bitsP_wid hR)).trans ?_
  unfold plB
  rw [if_pos rfl]
  unfold bitsP
  rw [List.length_map]
theorem bits_set (L : List CellS) (k : Nat) (h : k < L.length) : (bitsP (L.take k) ++ List.replicate (L.length - k) 0).set k (u64N (L.getD k (false, 0, [], 0, 0)).2.1) = bitsP (L.take (k + 1)) ++ List.replicate (L.length - (k + 1)) 0 := by
  have hl : (bitsP (L.take k)).length = k := by unfold bitsP; rw [List.length_map, List.length_take]; omega
  rw [List.set_append_right _ _ (by omega), hl, Nat.sub_self, show L.length - k = (L.length - (k + 1)) + 1 by omega, List.replicate_succ, List.set_cons_zero, take_snoc L k (false, 0, [], 0, 0) h]
  unfold bitsP
  rw [List.map_append, List.append_assoc]
  rfl
theorem u64_wrapN (n : Int) : IntKind.u64.wrap n = (u64N n : Int) := by
  rw [IntKind.wrap_u64]
  unfold u64N
  omega
theorem vp_max : (vp 18446744073709551615).length = 10 := by
  rw [vp_ge (by omega), vp_ge (by omega), vp_ge (by omega), vp_ge (by omega), vp_ge (by omega), vp_ge (by omega), vp_ge (by omega), vp_ge (by omega), vp_ge (by omega), vp_lt (by omega)]
  rfl
def RoomPost (w : World) (e : Ending) (w' : World) : Prop := ∃ r : Nat, e = .returned (.int .i64 (r : Int)) ∧ r ≤ 10000000000 ∧ New w w'

end Go.Proofs.Ythmjbdpkdomofaa
/- The contracts of plain.lay and plain.Encode. -/

namespace Go.Hm
open Go Go.RowKit
theorem right20 {c : CellS} (h : rightB c 3 false = true) : c.2.2.1 = [] := by
  have h0 := right0 h
  unfold rightB at h
  rw [h0] at h
  simp at h
  exact h.1.2
theorem rightB_t {c : CellS} {t : Int} (h : rightB c t false = true) : t = 0 ∨ t = 1 ∨ t = 2 ∨ t = 3 := by
  have h0 := right0 h
  unfold rightB at h
  rw [h0] at h
  by_cases h1 : t = 0
  · exact .inl h1
  · by_cases h2 : t = 1
    · exact .inr (.inl h2)
    · by_cases h3 : t = 2
      · exact .inr (.inr (.inl h3))
      · by_cases h4 : t = 3
        · exact .inr (.inr (.inr h4))
        · simp [h1, h2, h3, h4] at h

end Go.Hm

namespace Go.Proofs.Ythmjbdpkdomofaa
open Go.RowKit Go.Hm
def LayP (W0 : World) (B base : Nat) (l : List Nat) (e : Ending) (w' : World) : Prop := ∃ A n c, e = .returned (.slice A n c) ∧ Own w' base 5 (.slice A n c) (nums .u8 l) ∧ Below B W0 w'
theorem flat_snoc {t : Int} {L : List CellS} {k : Nat} (h : k < L.length) : (L.take (k + 1)).flatMap (plE t) = (L.take k).flatMap (plE t) ++ plE t (L.getD k (false, 0, [], 0, 0)) := by
  rw [take_snoc L k (false, 0, [], 0, 0) h, List.flatMap_append]
  simp
theorem flat_len {t : Int} : ∀ l : List CellS, (∀ c ∈ l, rightB c t false = true) → (∀ c ∈ l, c.2.2.1.length ≤ 65536) → (l.flatMap (plE t)).length ≤ l.length * 65556
  | [], _, _ => by simp
  | c :: l, h, k => by
    have a := flat_len l (fun d hd => h d (by simp [hd])) (fun d hd => k d (by simp [hd]))
    have b := plE_len (h c (by simp))
    have d := k c (by simp)
    rw [List.flatMap_cons, List.length_append, List.length_cons]
    omega
theorem right_text {c : CellS} {t : Int} (h : rightB c t false = true) : c.2.2.1.length ≤ 65536 := by
  have h0 := right0 h
  rcases rightB_t h with rfl | rfl | rfl | rfl
  · unfold rightB at h
    rw [h0] at h
    simp at h
    rw [h.1]
    simp
  · unfold rightB at h
    rw [h0] at h
    simp at h
    rw [h.1.1]
    simp
  · exact right2 h
  · rw [right20 h]
    simp
/-- Cells that are plain data. -/
def cellData (c : CellS) : Prop := (c.2.2.1.length ≤ 140737488351232 ∧ ∀ z ∈ c.2.2.1, z < 256) ∧ -9223372036854775808 ≤ c.2.1 ∧ c.2.1 ≤ 9223372036854775807

end Go.Proofs.Ythmjbdpkdomofaa
/- Rows of the call's own that lie apart. No program is named here. -/

namespace Go.Hm
open Go Go.RowKit
theorem ownApart {W1 W2 : World} {base : Nat} {e e' : TypeId} {u v : Value} {xs ys : List Value} (h2 : Own W2 W1.heap.size e u xs) (h1 : Own W1 base e' v ys) : u.ownBlock = none ∨ u.ownBlock ≠ v.ownBlock := by
  rcases hu : u.ownBlock with _ | k
  · exact .inl rfl
  · refine .inr fun e => ?_
    have a := (h2.lt k hu).1
    have b := (h1.lt k e.symm).2
    omega
theorem apartNext {W : World} {base : Nat} {e : TypeId} {u v v' : Value} {xs : List Value} (h : u.ownBlock = none ∨ u.ownBlock ≠ v.ownBlock) (d : v'.ownBlock = v.ownBlock ∨ ∃ g, v'.ownBlock = some g ∧ W.heap.size ≤ g) (k : Own W base e u xs) : u.ownBlock = none ∨ u.ownBlock ≠ v'.ownBlock := by
  rcases hu : u.ownBlock with _ | g
  · exact .inl rfl
  · right
    rcases d with d | ⟨g', d, hg⟩
    · rw [d, ← hu]
      rcases h with h | h
      · rw [hu] at h; cases h
      · exact h
    · rw [d]
      intro e
      injection e with e
      have := (k.lt g hu).2
      omega
theorem apart_sym {u v : Value} (h : u.ownBlock = none ∨ u.ownBlock ≠ v.ownBlock) : v.ownBlock = none ∨ v.ownBlock ≠ u.ownBlock := by
  rcases hv : v.ownBlock with _ | k
  · exact .inl rfl
  · refine .inr fun e => ?_
    rcases h with h | h
    · rw [h] at e; cases e
    · exact h (by rw [hv, e])

end Go.Hm
/- The contract of stat.Put. -/

namespace Go.Hm
open Go Go.RowKit
def endsL (t : Int) (s : StatS) : List Nat := plB t [s.2.2.1, s.2.2.2]
/-- Bytes, and behind them those of a stat. -/
def putS (l : List Nat) (t : Int) (s : StatS) : List Nat :=
  if rightS t s then (if s.2.1 then l ++ vp s.1.toNat ++ [1] ++ vp (endsL t s).length ++ endsL t s else l ++ vp s.1.toNat ++ [0]) else l
theorem rightS_n {t : Int} {s : StatS} (h : rightS t s = true) : (0 ≤ t ∧ t ≤ 3) ∧ 0 ≤ s.1 ∧ s.1 ≤ 65536 := by
  unfold rightS at h
  split at h
  · simp at h
  · omega
theorem rightS_has {t : Int} {s : StatS} (h : rightS t s = true) (hh : s.2.1 = true) : rightB s.2.2.1 t false = true ∧ rightB s.2.2.2 t false = true ∧ cmpD t s.2.2.1 s.2.2.2 ≤ 0 := by
  unfold rightS at h
  split at h
  · simp at h
  · simpa [hh] using h
theorem ends_ok {t : Int} {s : StatS} (h : rightS t s = true) (hh : s.2.1 = true) : plOk t [s.2.2.1, s.2.2.2] = true := by
  obtain ⟨h1, h2, -⟩ := rightS_has h hh
  have h3 := (rightS_n h).1
  rw [plOk_iff]
  refine ⟨⟨h3.1, h3.2, by simp⟩, fun c hc => ?_⟩
  simp at hc
  rcases hc with rfl | rfl
  · exact h1
  · exact h2

end Go.Hm

namespace Go.Proofs.Ythmjbdpkdomofaa
open Go.RowKit Go.Hm
theorem ends_len {t : Int} {s : StatS} (h : rightS t s = true) (hh : s.2.1 = true) : (endsL t s).length ≤ 131112 := by
  obtain ⟨h1, h2, -⟩ := rightS_has h hh
  have a := plE_len h1
  have b := plE_len h2
  have ta : s.2.2.1.2.2.1.length ≤ 65536 := right_text h1
  have tb : s.2.2.2.2.2.1.length ≤ 65536 := right_text h2
  unfold endsL plB
  split
  · rw [low_len]; simp
  · simp only [List.flatMap_cons, List.flatMap_nil, List.append_nil, List.length_append]
    omega
def statData (s : StatS) : Prop := cellData s.2.2.1 ∧ cellData s.2.2.2
theorem statData.fine {s : StatS} (h : statData s) : statFine s := ⟨h.1.1, h.2.1⟩

end Go.Proofs.Ythmjbdpkdomofaa
/- Contracts on columns: cell.Cols, and its answer. -/

namespace Go.Hm
open Go Go.RowKit
abbrev nm (l : List ColS) (i : Nat) : List Nat := (l.getD i ([], 0, false)).1
def nameBad (a : List ColS) (s : List Nat) : Prop := s.length = 0 ∨ 100 < s.length ∨ s ∈ a.map (·.1)
instance (a : List ColS) (s : List Nat) : Decidable (nameBad a s) := by unfold nameBad; exact inferInstance
/-- What is wrong with a column, behind others. -/
def colCk (a : List ColS) (s : List Nat) (t : Int) : Int := if nameBad a s then 1 else if 0 ≤ t ∧ t ≤ 3 then 0 else 3
def colsGo (a : List ColS) : List ColS → Int
  | [] => 0
  | c :: l => if colCk a c.1 c.2.1 = 0 then colsGo (a ++ [c]) l else colCk a c.1 c.2.1
/-- What is wrong with columns. -/
def colsCk (l : List ColS) : Int := if 64 < l.length then 4 else colsGo [] l
theorem colsCk_many {l : List ColS} (h : 64 < l.length) : colsCk l = 4 := by rw [colsCk, if_pos h]
theorem colsCk_few {l : List ColS} (h : ¬ 64 < l.length) : colsCk l = colsGo (l.take 0) (l.drop 0) := by rw [colsCk, if_neg h]; rfl
theorem colsGo_step (l : List ColS) (k : Nat) (h : k < l.length) : colsGo (l.take k) (l.drop k) = if colCk (l.take k) (nm l k) (l.getD k ([], 0, false)).2.1 = 0 then colsGo (l.take (k + 1)) (l.drop (k + 1)) else colCk (l.take k) (nm l k) (l.getD k ([], 0, false)).2.1 := by
  rw [drop_cons_getD l k ([], 0, false) h, colsGo, take_snoc l k ([], 0, false) h]
theorem colsGo_end (l : List ColS) : colsGo (l.take l.length) (l.drop l.length) = 0 := by rw [List.drop_length]; rfl
theorem mem_names {l : List ColS} {s : List Nat} {k : Nat} (hk : k < l.length) : s ∈ (l.take (k + 1)).map (·.1) ↔ s ∈ (l.take k).map (·.1) ∨ nm l k = s := by
  rw [take_snoc l k ([], 0, false) hk, List.map_append, List.mem_append]
  simp [eq_comm, nm]
theorem nameBad_succ {l : List ColS} {s : List Nat} {k : Nat} (hk : k < l.length) : nameBad (l.take (k + 1)) s ↔ nameBad (l.take k) s ∨ nm l k = s := by
  unfold nameBad
  rw [mem_names hk]
  constructor
  · rintro (h | h | h | h)
    · exact .inl (.inl h)
    · exact .inl (.inr (.inl h))
    · exact .inl (.inr (.inr h))
    · exact .inr h
  · rintro ((h | h | h) | h)
    · exact .inl h
    · exact .inr (.inl h)
    · exact .inr (.inr (.inl h))
    · exact .inr (.inr (.inr h))

end Go.Hm

namespace Go.Proofs.Ythmjbdpkdomofaa
open Go.RowKit Go.Hm
theorem strB (a b : List Nat) (ha : ∀ x ∈ a, x < 256) (hb : ∀ x ∈ b, x < 256) : ((bstr a).toList == (bstr b).toList) = decide (a = b) := bstr_beq ha hb

set_option maxHeartbeats 2000000 in
set_option maxRecDepth 100000 in
theorem checkCol_any {w : World} {A : Option Addr} {n c : Nat} {L : List ColS} {s : List Nat} {t : Int} {nu : Bool} (h : Reads w w.heap.size 3 A n (recs colV L)) (hL : ∀ x ∈ L, ∀ z ∈ x.1, z < 256) (hs : ∀ z ∈ s, z < 256) (hsl : s.length ≤ 140737488351232) (hn : n ≤ 4611686018427387903) :
    Calls Try.prog 57 #[.slice A n c, .agg #[.string (bstr s), .int .i64 t, .bool nu]] w (NewPost (.int .i64 (colCk L s t)) w) := by
  obtain rfl := h.lenC
  have z1 := bstr_size s
  have K1 := Lib.hid (fun (hh : nameBad L s) => show colCk L s t = 1 by rw [colCk, if_pos hh])
  have K2 := Lib.hid (fun (hh : ¬ nameBad L s) => show colCk L s t = if 0 ≤ t ∧ t ≤ 3 then 0 else 3 by rw [colCk, if_neg hh])
  generalize colCk L s t = O at *
  obtain ⟨W0, hW0⟩ : ∃ W, W = w.alloc (.cells #[.string (bstr s), .int .i64 t, .bool nu] 61) := ⟨_, rfl⟩
  have b0 : New w W0 := by rw [hW0]; exact (Below.refl _ _).alloc (Nat.le_refl _) _
  have B0 : Blk W0 w.heap.size 61 #[.string (bstr s), .int .i64 t, .bool nu] := by rw [hW0]; exact Blk.new _ _ _
  obtain ⟨x0, x1, x2⟩ := ccells B0
  rw [hW0] at x0 x1 x2
  by_cases h0 : s.length = 0
  · have O1 := Lib.hid (K1.out (.inl h0))
    have e1 : ((s.length : Int) == 0) = true := by simp [h0]
    clear h0 K1 K2 B0 h
    go_enter Try.func57, Try.ntmps57
    go_wp2
    go_ret
    exact ⟨by rw [O1.out]; rfl, by rw [← hW0]; exact b0⟩
  · have e1 : ((s.length : Int) == 0) = false := beq_eq_false_iff_ne.2 (by omega)
    by_cases h1 : 100 < s.length
    · have O1 := Lib.hid (K1.out (.inr (.inl h1)))
      have e2 : decide (100 < (s.length : Int)) = true := by simp; omega
      clear h0 K1 K2 B0 h
      go_enter Try.func57, Try.ntmps57
      go_wp2
      go_ret
      exact ⟨by rw [O1.out]; rfl, by rw [← hW0]; exact b0⟩
    · have e2 : decide (100 < (s.length : Int)) = false := by simp; omega
      have K1 := Lib.hid (fun (hh : s ∈ L.map (·.1)) => K1.out (.inr (.inr hh)))
      have K2 := Lib.hid (fun (hh : s ∉ L.map (·.1)) => K2.out (fun h' => by rcases h' with h' | h' | h'; exact h0 h'; exact h1 h'; exact hh h'))
      have r0 := Reads.later h b0
      clear h0 h1 h
      go_enter Try.func57, Try.ntmps57
      go_wp2
      rw [← hW0]
      clear x0 x1 x2 hW0
      go_loopw [19] (fun i wr => ∃ k : Nat, i = .int .i64 (k : Int) ∧ k ≤ L.length ∧ New W0 wr ∧ Hid (s ∉ (L.take k).map (·.1))) (fun i _ => L.length - (intOf i).toNat)
      case atStart => exact ⟨0, rfl, by omega, New.refl _, Lib.hid (by simp)⟩
      case round =>
        obtain ⟨k, rfl, hk, hb, H⟩ := hrel
        have B1 := B0.below hb B0.lt
        obtain ⟨x0, x1, x2⟩ := ccells B1
        by_cases hlt : k < L.length
        · obtain ⟨ad, rfl, hbk, c0, c1, c2⟩ := (Reads.later r0 hb).colT hlt
          have M := Lib.hid (mem_names (s := s) hlt)
          have hq := strB (nm L k) s (by rw [nm, List.getD_eq_getElem?_getD, List.getElem?_eq_getElem hlt]; exact hL _ (List.getElem_mem hlt)) hs
          have MM := Lib.hid (show nm L k = s → s ∈ L.map (·.1) from fun e => by
            have := (mem_names (s := s) hlt).2 (.inr e)
            exact List.mem_of_mem_take (by rwa [List.map_take] at this))
          unfold nm at *
          generalize (L.getD k ([], 0, false)).1 = s2 at *
          generalize (L.getD k ([], 0, false)).2.1 = t2 at *
          generalize (L.getD k ([], 0, false)).2.2 = n2 at *
          have X := Lib.hid (ccells (B1.alloc (.cells #[.string (bstr s2), .int .i64 t2, .bool n2] 61)))
          have Y := Lib.hid (ccells (Blk.new wr 61 #[.string (bstr s2), .int .i64 t2, .bool n2]))
          have hiz : (k : Int) < (L.length : Int) := by omega
          have b1 : New W0 (wr.alloc (.cells #[.string (bstr s2), .int .i64 t2, .bool n2] 61)) := Below.alloc hb hb.size _
          obtain ⟨q0, q1, q2⟩ := X.out
          obtain ⟨p0, p1, p2⟩ := Y.out
          by_cases he : s2 = s
          · rw [decide_eq_true he] at hq
            have O1 := Lib.hid (K1.out (MM.out he))
            clear he x0 x1 x2
            go_wp2
            go_ret
            exact ⟨by rw [O1.out]; rfl, New.trans b0 b1⟩
          · rw [decide_eq_false he] at hq
            have H2 := Lib.hid (show s ∉ (L.take (k + 1)).map (·.1) from fun hh => by
              rcases M.out.1 hh with hh | hh
              · exact H.out hh
              · exact he hh)
            clear he x0 x1 x2
            go_wp2
            go_roundw
            case rel => exact ⟨k + 1, by go_num, by omega, b1, H2⟩
            case measure => simp [intOf]; omega
        · obtain rfl : k = L.length := by omega
          have H2 := H.out
          rw [List.take_length] at H2
          have O1 := Lib.hid (K2.out H2)
          clear H H2 K1 K2
          go_wp2
          all_goals go_ret
          all_goals
            simp only [beq_iff_eq, beq_eq_false_iff_ne, ne_eq] at *
            refine ⟨?_, New.trans b0 hb⟩
            rw [O1.out]
            first
              | (rw [if_pos (by omega)]; rfl)
              | (rw [if_neg (by omega)]; rfl)

set_option maxHeartbeats 2000000 in
set_option maxRecDepth 100000 in
theorem cols_any {w : World} {A : Option Addr} {n c : Nat} {L : List ColS} (h : Reads w w.heap.size 3 A n (recs colV L)) (hL : ∀ x ∈ L, (∀ z ∈ x.1, z < 256) ∧ x.1.length ≤ 140737488351232) (hc : n ≤ c) (hn : n ≤ 4611686018427387903) :
    Calls Try.prog 51 #[.slice A n c] w (NewPost (.int .i64 (colsCk L)) w) := by
  obtain rfl := h.lenC
  by_cases hm : 64 < L.length
  · rw [colsCk_many hm]
    go_enter Try.func51, Try.ntmps51
    go_wp2
    go_ret
    exact ⟨rfl, New.refl _⟩
  · have HO := Lib.hid (colsCk_few hm)
    generalize colsCk L = O at *
    go_enter Try.func51, Try.ntmps51
    go_wp2
    go_loopw [11] (fun i wr => ∃ k : Nat, i = .int .i64 (k : Int) ∧ k ≤ L.length ∧ New w wr ∧ Hid (O = colsGo (L.take k) (L.drop k))) (fun i _ => L.length - (intOf i).toNat)
    case atStart => exact ⟨0, rfl, by omega, New.refl _, HO⟩
    case round =>
      obtain ⟨k, rfl, hk, hb, H⟩ := hrel
      by_cases hlt : k < L.length
      · have r1 := Reads.later h hb
        obtain ⟨ad, rfl, hbk, c0, c1, c2⟩ := r1.colT hlt
        have hx : (L.getD k ([], 0, false)) ∈ L := by rw [List.getD_eq_getElem?_getD, List.getElem?_eq_getElem hlt]; exact List.getElem_mem hlt
        obtain ⟨y1, y2⟩ := hL _ hx
        have r2 := r1.take (k := k) (by omega)
        rw [recs_take (f := colV) (sz := 3) (fun _ => rfl) L k (by omega)] at r2
        have S := H.out
        rw [colsGo_step L k hlt] at S
        have P := fun (W : World) (hW : New wr W) => checkCol_any (c := c) (t := (L.getD k ([], 0, false)).2.1) (nu := (L.getD k ([], 0, false)).2.2) (Reads.later r2 hW) (fun x hx => (hL x (List.mem_of_mem_take hx)).1) y1 y2 (by omega)
        have P := Lib.hid P
        generalize hck : colCk (L.take k) (L.getD k ([], 0, false)).1 (L.getD k ([], 0, false)).2.1 = ck at *
        have HS := Lib.hid S
        generalize (L.getD k ([], 0, false)).1 = s2 at *
        generalize (L.getD k ([], 0, false)).2.1 = t2 at *
        generalize (L.getD k ([], 0, false)).2.2 = n2 at *
        clear S hck H hx y1 y2 r1 r2
        have hiz : (k : Int) < (L.length : Int) := by omega
        have hiz2 : (k : Int) ≤ (c : Int) := by omega
        obtain ⟨W1, hW1⟩ : ∃ W, W = wr.alloc (.cells #[.string (bstr s2), .int .i64 t2, .bool n2] 61) := ⟨_, rfl⟩
        have b1 : New wr W1 := by rw [hW1]; exact (Below.refl _ _).alloc (Nat.le_refl _) _
        have Y : Blk W1 wr.heap.size 61 #[.string (bstr s2), .int .i64 t2, .bool n2] := by rw [hW1]; exact Blk.new _ _ _
        go_wp2_with fail
        rw [← hW1]
        clear hW1
        refine wp_region_up New [(true, 0), (true, 1), (true, 2), (true, 3), (false, 4), (true, 5)]
          New.refl New.trans (by kernel_rfl) (by kernel_rfl) (by kernel_rfl) (by kernel_rfl) ?_
        have hU := New.trans b1 (New.drew W1)
        have hV := New.refl W1.drew
        repeat (first
          | (refine up_call rfl rfl (fun K hK => ?_); go_simp
             (with_reducible refine (P.out _ hU).mono ?_)
             rintro e w9 ⟨rfl, b9⟩
             refine hK _ _ b9 ?_
             clear hK
             replace hU := New.trans hU b9
             replace hV := New.trans hV b9)
          | (refine up_quiet rfl rfl (v := ?_) (fun W hW => ?_) ?_; rotate_left; (obtain ⟨x0, x1, x2⟩ := ccells (Y.below (New.trans (New.drew W1) (New.trans hV hW)) Y.lt); go_simp <;> with_reducible rfl); simp only [Act.put, List.setIfInBounds_toArray, List.set_cons_zero, List.set_cons_succ]))
        refine up_nil ?_
        clear Y b1 P
        by_cases hz : ck = 0
        · have HS2 := Lib.hid (show O = colsGo (L.take (k + 1)) (L.drop (k + 1)) by rw [HS.out, if_pos hz])
          subst hz
          go_wp2
          go_roundw
          case rel => exact ⟨k + 1, by go_num, by omega, New.trans hb hU, HS2⟩
          case measure => simp [intOf]; omega
        · have HS2 := Lib.hid (show O = ck by rw [HS.out, if_neg hz])
          have e1 : (ck != 0) = true := by simpa using hz
          clear hz
          go_wp2
          go_ret
          exact ⟨by rw [HS2.out]; rfl, New.trans hb hU⟩
      · obtain rfl : k = L.length := by omega
        have HS2 := Lib.hid (show O = 0 by rw [H.out, colsGo_end])
        go_wp2
        go_ret
        exact ⟨by rw [HS2.out]; rfl, hb⟩

end Go.Proofs.Ythmjbdpkdomofaa
/- Which columns may be. No program is named here. -/

namespace Go.Hm
open Go Go.RowKit
/-- Which columns may be. -/
def ColsOk (l : List ColS) : Prop := l.length ≤ 64 ∧ (∀ x ∈ l, 0 < x.1.length ∧ x.1.length ≤ 100 ∧ 0 ≤ x.2.1 ∧ x.2.1 ≤ 3) ∧ (l.map (·.1)).Nodup
theorem colsGo_iff : ∀ (l a : List ColS), colsGo a l = 0 ↔ (∀ x ∈ l, 0 < x.1.length ∧ x.1.length ≤ 100 ∧ 0 ≤ x.2.1 ∧ x.2.1 ≤ 3) ∧ (l.map (·.1)).Nodup ∧ ∀ x ∈ l, x.1 ∉ a.map (·.1)
  | [], a => by simp [colsGo]
  | c :: l, a => by
    have key : colCk a c.1 c.2.1 = 0 ↔ (0 < c.1.length ∧ c.1.length ≤ 100 ∧ 0 ≤ c.2.1 ∧ c.2.1 ≤ 3) ∧ c.1 ∉ a.map (·.1) := by
      unfold colCk
      by_cases h : nameBad a c.1
      · rw [if_pos h]
        refine ⟨fun hh => by omega, fun hh => ?_⟩
        rcases h with h | h | h
        · omega
        · omega
        · exact absurd h hh.2
      · rw [if_neg h]
        by_cases h2 : 0 ≤ c.2.1 ∧ c.2.1 ≤ 3
        · rw [if_pos h2]
          refine ⟨fun _ => ⟨⟨?_, ?_, h2.1, h2.2⟩, fun hh => h (.inr (.inr hh))⟩, fun _ => rfl⟩
          · have : ¬ c.1.length = 0 := fun hh => h (.inl hh)
            omega
          · have : ¬ 100 < c.1.length := fun hh => h (.inr (.inl hh))
            omega
        · rw [if_neg h2]
          exact ⟨fun hh => by omega, fun hh => by omega⟩
    have ih := colsGo_iff l (a ++ [c])
    have e : colsGo a (c :: l) = 0 ↔ colCk a c.1 c.2.1 = 0 ∧ colsGo (a ++ [c]) l = 0 := by
      rw [colsGo]
      split
      · rename_i h; exact ⟨fun hh => ⟨h, hh⟩, fun hh => hh.2⟩
      · rename_i h; exact ⟨fun hh => absurd hh h, fun hh => absurd hh.1 h⟩
    rw [e, key, ih]
    simp only [List.forall_mem_cons, List.map_cons, List.nodup_cons, List.map_append, List.map_nil, List.mem_append, List.mem_singleton]
    constructor
    · rintro ⟨⟨h1, h2⟩, h3, h4, h5⟩
      refine ⟨⟨h1, h3⟩, ⟨fun hh => ?_, h4⟩, h2, fun x hx hh => h5 x hx (.inl hh)⟩
      obtain ⟨x, hx, hxe⟩ := List.mem_map.1 hh
      exact h5 x hx (.inr hxe)
    · rintro ⟨⟨h1, h3⟩, ⟨h4, h5⟩, h2, h6⟩
      refine ⟨⟨h1, h2⟩, h3, h5, fun x hx hh => ?_⟩
      rcases hh with hh | hh
      · exact h6 x hx hh
      · exact h4 (List.mem_map.2 ⟨x, hx, hh⟩)
theorem colsCk_iff (l : List ColS) : colsCk l = 0 ↔ ColsOk l := by
  unfold colsCk ColsOk
  split
  · exact ⟨fun hh => by omega, fun hh => by omega⟩
  · rename_i h
    rw [colsGo_iff]
    simp only [List.map_nil, List.not_mem_nil, not_false_eq_true, implies_true, and_true]
    exact ⟨fun hh => ⟨by omega, hh⟩, fun hh => hh.2⟩

end Go.Hm
/- A region that draws its order, whose last part turns what was read: what reads is carried out first, its value holding till the operation t0 comes up, which waits for it. No program is named here. -/

namespace Go.Hm
open Go.RowKit

section
variable {P : Program} {ops : Array Oper} {Q : Exit → Act → World → Prop} {md : Region.Mode} {S : World → Prop} {t0 : Nat}

/-- Whatever order: S holds behind every operation till t0 has come up. -/
def wpAnyT (P : Program) (md : Region.Mode) (ops : Array Oper) (Q : Exit → Act → World → Prop) (t0 : Nat) (S : World → Prop) : Nat → Array Bool → Act → World → Prop
  | 0, listed, a, w => Region.ready md ops listed = [] ∧ Q .normal a w
  | fuel + 1, listed, a, w => (Region.ready md ops listed = [] → Q .normal a w) ∧
    ∀ i ∈ Region.ready md ops listed, wpOp P ops Q i (fun a' w' => ((listed.setIfInBounds i true).getD t0 false = true ∨ S w') ∧ wpAnyT P md ops Q t0 S fuel (listed.setIfInBounds i true) a' w') a w
theorem wpAny_of_T : ∀ (fuel : Nat) (listed : Array Bool) (a : Act) (w : World), wpAnyT P md ops Q t0 S fuel listed a w → wpAny P md ops Q fuel listed a w
  | 0, _, _, _, h => h
  | fuel + 1, _, _, _, h => ⟨h.1, fun i hi => wpOp_mono (fun a' w' h' => wpAny_of_T fuel _ a' w' h'.2) (h.2 i hi)⟩
theorem getD_set_keep {l : Array Bool} {i t : Nat} (h : l.getD t false = true) : (l.setIfInBounds i true).getD t false = true := by
  rw [Array.getD_eq_getD_getElem?] at h ⊢
  rw [Array.getElem?_setIfInBounds]
  split
  · split
    · rfl
    · rename_i e h2; subst e; rw [Array.getElem?_eq_none (by omega)] at h; simp at h
  · exact h
theorem getD_set_other {l : Array Bool} {i t : Nat} (hne : i ≠ t) : (l.setIfInBounds i true).getD t false = l.getD t false := by
  rw [Array.getD_eq_getD_getElem?, Array.getD_eq_getD_getElem?, Array.getElem?_setIfInBounds, if_neg hne]
theorem wpAnyT_weaken {S' : World → Prop} : ∀ (fuel : Nat) (listed : Array Bool) (a : Act) (w : World), (listed.getD t0 false = true ∨ ∀ w, S w → S' w) → wpAnyT P md ops Q t0 S fuel listed a w → wpAnyT P md ops Q t0 S' fuel listed a w
  | 0, _, _, _, _, hh => hh
  | fuel + 1, listed, _, _, h, hh => ⟨hh.1, fun i hi => wpOp_mono (fun a' w' h' => ⟨by
      rcases h with h | h
      · exact .inl (getD_set_keep h)
      · exact h'.1.imp id (h w'), wpAnyT_weaken fuel _ a' w' (h.imp getD_set_keep id) h'.2⟩) (hh.2 i hi)⟩
/-- Taken first. -/
theorem wpAnyT_first {i : Nat} {oi : Oper} {v : Value} (hi : ops[i]? = some oi) (hit : i ≠ t0) (hsel : ∀ (j : Nat) (o : Oper) cs b, ops[j]? = some o → o.op ≠ .select cs b)
    (hQ : ∀ c a w, Q (.panic c) (a.put oi.dst v) w → Q (.panic c) a w) (V : World → Prop)
    (hV : (∀ w, V w) ∨ ((∀ w, S w → V w) ∧ ∃ ot, ops[t0]? = some ot ∧ ∃ e ∈ ot.after, Region.binds md e = true ∧ e.on = i)) :
    ∀ (fuel : Nat) (listed : Array Bool) (a : Act) (w : World),
      (∀ j oj, ops[j]? = some oj → j ≠ i → listed.getD j true = false → (∀ e ∈ oj.after, Region.binds md e = true → e.on ≠ i) → oi.apart ops oj = true) →
      i ∈ Region.ready md ops listed → YieldsIf P ops V oi v a → (listed.getD t0 false = true ∨ S w) → ((∀ w, V w) ∨ listed.getD t0 false = false) →
      wpAnyT P md ops Q t0 S fuel (listed.setIfInBounds i true) (a.put oi.dst v) w → wpAnyT P md ops Q t0 S (fuel + 1) listed a w := by
  have hVw : ∀ (listed : Array Bool) (w : World), (listed.getD t0 false = true ∨ S w) → ((∀ w, V w) ∨ listed.getD t0 false = false) → V w := by
    intro listed w hS ht
    rcases ht with ht | ht
    · exact ht w
    · rcases hS with hS | hS
      · rw [ht] at hS; cases hS
      · rcases hV with hV | hV
        · exact hV w
        · exact hV.1 w hS
  intro fuel
  induction fuel with
  | zero =>
    intro listed a w _ hr hy hS ht H
    refine ⟨fun h => (by rw [h] at hr; cases hr), fun j hj => ?_⟩
    by_cases hji : j = i
    · subst hji
      exact hy.wpOp hi (hVw listed w hS ht) ⟨hS.imp getD_set_keep id, H⟩
    · have := ready_mono hj hji
      rw [H.1] at this
      cases this
  | succ fuel ih =>
    intro listed a w hfree hr hy hS ht H
    refine ⟨fun h => (by rw [h] at hr; cases hr), fun j hj => ?_⟩
    by_cases hji : j = i
    · subst hji
      exact hy.wpOp hi (hVw listed w hS ht) ⟨hS.imp getD_set_keep id, H⟩
    · have h1 := H.2 j (ready_mono hj hji)
      obtain ⟨hjun, oj, hoj, hall⟩ := mem_ready.1 hj
      have hnot : ∀ e ∈ oj.after, Region.binds md e = true → e.on ≠ i := fun e he hb heq => by
        have h1 := hall e he hb
        have h0 := (mem_ready.1 hr).1
        rw [heq] at h1
        rcases Nat.lt_or_ge i listed.size with h' | h'
        · simp [h'] at h0 h1; rw [h0] at h1; cases h1
        · simp [Array.getElem?_eq_none h'] at h1
      have h2 := wpOp_putIf hoj (hfree j oj hoj hji hjun hnot) (fun cs b => hsel i oi cs b hi) (fun cs b => hsel j oj cs b hoj) hQ hy h1
      have hfree' : ∀ k ok, ops[k]? = some ok → k ≠ i → (listed.setIfInBounds j true).getD k true = false →
          (∀ e ∈ ok.after, Region.binds md e = true → e.on ≠ i) → oi.apart ops ok = true := fun k ok hk hki hun hno => by
        refine hfree k ok hk hki ?_ hno
        by_cases hjk : j = k
        · subst hjk; exact hjun
        · rw [getD_set_ne true hjk] at hun; exact hun
      have ht' : (∀ w, V w) ∨ (listed.setIfInBounds j true).getD t0 false = false := by
        rcases hV with hV | ⟨_, ot, hot, e, he, hb, heq⟩
        · exact .inl hV
        · refine ht.imp id fun ht => ?_
          have hjt : j ≠ t0 := by
            rintro rfl
            rw [hoj] at hot
            injection hot with hot
            subst hot
            exact hnot e he hb heq
          rw [getD_set_other hjt]
          exact ht
      refine wpOp_mono (fun a' w' h3 => ?_) h2
      have hS' : (listed.setIfInBounds j true).getD t0 false = true ∨ S w' := by
        refine h3.2.1.imp (fun h4 => ?_) id
        rw [Array.setIfInBounds_comm _ _ (fun e => hji e.symm), getD_set_other hit] at h4
        exact h4
      refine ⟨hS', ih (listed.setIfInBounds j true) a' w' hfree' (ready_mono hr (Ne.symm hji)) h3.1 hS' ht' ?_⟩
      rw [Array.setIfInBounds_comm _ _ hji]
      exact h3.2.2
theorem wpAnyT_take {i : Nat} {oi : Oper} {v : Value} {fuel : Nat} {listed : Array Bool} {a : Act} {w : World} (V : World → Prop) (hi : ops[i]? = some oi) (hit : i ≠ t0)
    (hs : Region.noSelect ops = true) (hf : Region.free md ops listed i = true) (hr : (Region.ready md ops listed).contains i = true)
    (hQ : ∀ c a w, Q (.panic c) (a.put oi.dst v) w → Q (.panic c) a w)
    (hV : (∀ w, V w) ∨ ((∀ w, S w → V w) ∧ ∃ ot, ops[t0]? = some ot ∧ ∃ e ∈ ot.after, Region.binds md e = true ∧ e.on = i))
    (hy : YieldsIf P ops V oi v a) (hS : listed.getD t0 false = true ∨ S w) (ht : (∀ w, V w) ∨ listed.getD t0 false = false)
    (h : wpAnyT P md ops Q t0 S fuel (listed.setIfInBounds i true) (a.put oi.dst v) w) : wpAnyT P md ops Q t0 S (fuel + 1) listed a w :=
  wpAnyT_first hi hit (Region.noSelect_spec hs) hQ V hV fuel listed a w (Region.free_spec hi hf) (by simpa using hr) hy hS ht h

/-- Whether t0 waits for i. -/
def waitsB (md : Region.Mode) (ops : Array Oper) (t0 i : Nat) : Bool := match ops[t0]? with
  | some ot => ot.after.any fun e => Region.binds md e && e.on == i
  | none => false
/-- 0: reads, and t0 waits for it; 1: yields its value in whatever world; 2: comes up alone. -/
def upOkT (ops : Array Oper) (t0 : Nat) : Array Bool → List (Nat × Nat) → Bool
  | listed, [] => (Region.ready .any ops listed).isEmpty
  | listed, (0, i) :: r => (Region.ready .any ops listed).contains i && (Region.free .any ops listed i && (waitsB .any ops t0 i && (decide (i ≠ t0) && (!listed.getD t0 false && upOkT ops t0 (listed.setIfInBounds i true) r))))
  | listed, (1, i) :: r => (Region.ready .any ops listed).contains i && (Region.free .any ops listed i && (decide (i ≠ t0) && upOkT ops t0 (listed.setIfInBounds i true) r))
  | listed, (_, i) :: r => decide (Region.ready .any ops listed = [i]) && upOkT ops t0 (listed.setIfInBounds i true) r

def wpUpT (P : Program) (ops : Array Oper) (R : World → World → Prop) (Q : Exit → Act → World → Prop) (t0 : Nat) : List (Nat × Nat) → Bool → Act → World → Prop
  | [], _, a, w => Q .normal a w
  | (0, i) :: r, d, a, w => ∃ o v, ops[i]? = some o ∧ ((Region.wanted o (yielded ops a.tmps) = true ∧ ∀ w', R w w' → (execOp a.eval o).run P w' = .ok (.value v) w') ∨ (Region.wanted o (yielded ops a.tmps) = false ∧ v = undef)) ∧ wpUpT P ops R Q t0 r d (a.put o.dst v) w
  | (1, i) :: r, d, a, w => ∃ o v, ops[i]? = some o ∧ ((Region.wanted o (yielded ops a.tmps) = true ∧ ∀ w', (execOp a.eval o).run P w' = .ok (.value v) w') ∨ (Region.wanted o (yielded ops a.tmps) = false ∧ v = undef)) ∧ wpUpT P ops R Q t0 r d (a.put o.dst v) w
  | (_, i) :: r, d, a, w => ∃ o, ops[i]? = some o ∧ if Region.wanted o (yielded ops a.tmps) then o.wp P a w (fun a' w' => (d = true ∨ i = t0 ∨ R w w') ∧ wpUpT P ops R Q t0 r (d || i == t0) a' w') (NoPanic Q) else wpUpT P ops R Q t0 r (d || i == t0) (a.put o.dst undef) w

variable {R : World → World → Prop}
theorem waitsB_spec {i : Nat} (h : waitsB md ops t0 i = true) : ∃ ot, ops[t0]? = some ot ∧ ∃ e ∈ ot.after, Region.binds md e = true ∧ e.on = i := by
  unfold waitsB at h
  split at h
  · rename_i ot hot
    rw [Array.any_eq_true] at h
    obtain ⟨j, hj, h⟩ := h
    simp only [Bool.and_eq_true, beq_iff_eq] at h
    exact ⟨ot, hot, ot.after[j], Array.getElem_mem hj, h.1, h.2⟩
  · cases h
theorem wpAnyT_of_up (hrefl : ∀ w, R w w) (htrans : ∀ {x y z}, R x y → R y z → R x z) (hs : Region.noSelect ops = true) :
    ∀ (ord : List (Nat × Nat)) (fuel : Nat) (listed : Array Bool) (d : Bool) (a : Act) (w : World), (d = true → listed.getD t0 false = true) → (∀ i ∈ ord.map (·.2), i < listed.size) → ord.length ≤ fuel → upOkT ops t0 listed ord = true → wpUpT P ops R Q t0 ord d a w → wpAnyT P .any ops (NoPanic Q) t0 (R w) fuel listed a w := by
  intro ord
  induction ord with
  | nil =>
    intro fuel listed d a w _ _ _ hok h
    have hr : Region.ready .any ops listed = [] := by simpa [upOkT] using hok
    cases fuel with
    | zero => exact ⟨hr, NoPanic.normal h⟩
    | succ fuel => exact ⟨fun _ => NoPanic.normal h, by rw [hr]; simp⟩
  | cons x r ih =>
    obtain ⟨b, i⟩ := x
    intro fuel listed d a w hd hsz hl hok h
    obtain ⟨fuel, rfl⟩ : ∃ k, fuel = k + 1 := ⟨fuel - 1, by simp at hl; omega⟩
    have hl' : r.length ≤ fuel := by simp at hl; omega
    have hsz' : ∀ k ∈ r.map (·.2), k < (listed.setIfInBounds i true).size := fun k hk => by rw [Array.size_setIfInBounds]; exact hsz k (by simp at hk ⊢; exact .inr hk)
    have hi0 : i < listed.size := hsz i (by simp)
    match b with
    | 0 =>
      obtain ⟨o, v, ho, hv, hr⟩ := h
      simp only [upOkT, Bool.and_eq_true, decide_eq_true_eq, Bool.not_eq_true'] at hok
      obtain ⟨h1, h2, h3, h4, h5, h6⟩ := hok
      exact wpAnyT_take (R w) ho h4 hs h2 h1 (fun _ _ _ hp => hp) (.inr ⟨fun _ hh => hh, waitsB_spec h3⟩) hv (.inr (hrefl w)) (.inr h5) (ih fuel _ d _ w (fun e => getD_set_keep (hd e)) hsz' hl' h6 hr)
    | 1 =>
      obtain ⟨o, v, ho, hv, hr⟩ := h
      simp only [upOkT, Bool.and_eq_true, decide_eq_true_eq] at hok
      obtain ⟨h1, h2, h3, h4⟩ := hok
      exact wpAnyT_take (fun _ => True) ho h3 hs h2 h1 (fun _ _ _ hp => hp) (.inl fun _ => trivial) (hv.imp (fun hh => ⟨hh.1, fun w' _ => hh.2 w'⟩) id) (.inr (hrefl w)) (.inl fun _ => trivial) (ih fuel _ d _ w (fun e => getD_set_keep (hd e)) hsz' hl' h4 hr)
    | b + 2 =>
      obtain ⟨o, ho, hc⟩ := h
      simp only [upOkT, Bool.and_eq_true, decide_eq_true_eq] at hok
      obtain ⟨h1, h3⟩ := hok
      refine ⟨fun h0 => (by rw [h1] at h0; cases h0), fun j hj => ?_⟩
      rw [h1] at hj
      obtain rfl : j = i := by simpa using hj
      have hd' : (d || j == t0) = true → (listed.setIfInBounds j true).getD t0 false = true := by
        intro e
        rw [Bool.or_eq_true, beq_iff_eq] at e
        rcases e with e | rfl
        · exact getD_set_keep (hd e)
        · rw [Array.getD_eq_getD_getElem?, Array.getElem?_setIfInBounds, if_pos rfl, if_pos hi0]; rfl
      unfold wpOp
      simp only [ho]
      split
      · rename_i hw
        rw [if_pos hw] at hc
        refine .inl (Oper.wp_mono (fun a' w' hh => ?_) hc)
        obtain ⟨hR, hh⟩ := hh
        have hI := ih fuel _ _ a' w' hd' hsz' hl' h3 hh
        by_cases ht : (listed.setIfInBounds j true).getD t0 false = true
        · exact ⟨.inl ht, wpAnyT_weaken fuel _ a' w' (.inl ht) hI⟩
        · have hR' : R w w' := by
            rcases hR with hR | hR | hR
            · exact absurd (getD_set_keep (hd hR)) ht
            · exact absurd (hd' (by simp [hR])) ht
            · exact hR
          exact ⟨.inr hR', wpAnyT_weaken fuel _ a' w' (.inr fun z hz => htrans hR' hz) hI⟩
      · rename_i hw
        rw [if_neg hw] at hc
        exact ⟨.inr (hrefl w), ih fuel _ _ _ w hd' hsz' hl' h3 hc⟩

theorem wp_region_upT {id : Nat} {a : Act} {w : World} (R : World → World → Prop) (t0 : Nat) (ord : List (Nat × Nat)) (hrefl : ∀ w, R w w) (htrans : ∀ {x y z}, R x y → R y z → R x z) (hm : P.follows .mixedOrders = true)
    (hs : Region.noSelect ops = true) (hl : (decide (ord.length ≤ ops.size) && ord.all fun x => decide (x.2 < ops.size)) = true) (hok : upOkT ops t0 (Array.replicate ops.size false) ord = true) (h : wpUpT P ops R Q t0 ord false a w.drew) : (Code.region id ops true).wp P Q a w := by
  simp only [Bool.and_eq_true, decide_eq_true_eq, List.all_eq_true] at hl
  refine wp_region_noPanic (wp_region_any hm (wpAny_of_T _ _ _ _ (wpAnyT_of_up hrefl htrans hs ord ops.size _ false a _ (by simp) ?_ hl.1 hok h)))
  intro i hi
  simp only [List.mem_map] at hi
  obtain ⟨x, hx, rfl⟩ := hi
  rw [Array.size_replicate]
  exact hl.2 x hx

variable {i : Nat} {r : List (Nat × Nat)} {a : Act} {w : World} {d : Bool} {v : Value}
theorem upT_nil (h : Q .normal a w) : wpUpT P ops R Q t0 [] d a w := h

section
variable {dst : Option Tmp} {op : Op} {ty : TypeId} {pos : String} {af : Array Edge} {gd : Option (Nat × Bool)}
theorem upT_quiet (ho : ops[i]? = some ⟨dst, op, ty, pos, af, gd⟩) (hw : Region.wanted ⟨dst, op, ty, pos, af, gd⟩ (yielded ops a.tmps) = true) (hv : ∀ w', R w w' → (execOp a.eval ⟨dst, op, ty, pos, af, gd⟩).run P w' = .ok (.value v) w') (h : wpUpT P ops R Q t0 r d (a.put dst v) w) : wpUpT P ops R Q t0 ((0, i) :: r) d a w :=
  ⟨_, v, ho, .inl ⟨hw, hv⟩, h⟩
theorem upT_pure (ho : ops[i]? = some ⟨dst, op, ty, pos, af, gd⟩) (hw : Region.wanted ⟨dst, op, ty, pos, af, gd⟩ (yielded ops a.tmps) = true) (hv : ∀ w', (execOp a.eval ⟨dst, op, ty, pos, af, gd⟩).run P w' = .ok (.value v) w') (h : wpUpT P ops R Q t0 r d (a.put dst v) w) : wpUpT P ops R Q t0 ((1, i) :: r) d a w :=
  ⟨_, v, ho, .inl ⟨hw, hv⟩, h⟩
theorem upT_call (ho : ops[i]? = some ⟨dst, op, ty, pos, af, gd⟩) (hw : Region.wanted ⟨dst, op, ty, pos, af, gd⟩ (yielded ops a.tmps) = true) (h : ∀ K : Act → World → Prop, (∀ a' w', (d = true ∨ i = t0 ∨ R w w') → wpUpT P ops R Q t0 r (d || i == t0) a' w' → K a' w') → Oper.wp P ⟨dst, op, ty, pos, af, gd⟩ a w K (NoPanic Q)) : wpUpT P ops R Q t0 ((2, i) :: r) d a w :=
  ⟨_, ho, by rw [if_pos hw]; exact h _ fun _ _ h1 h2 => ⟨h1, h2⟩⟩
end
end

section
variable {P : Program} {o : Oper} {a : Act} {Q : Exit → Act → World → Prop} {K : Act → World → Prop}
/-- append(s, x) behind the block that x was laid in, at the operation. -/
theorem wp_push {w : World} {t e : TypeId} {z : Value} {bytes : Nat} (E : ElT P t e z 1 bytes) (s x : Operand)
    (ho : o.op = .call { callee := .builtin .append, args := #[s, x], argTypes := #[t, t] })
    {W : World} {B base : Nat} {v u : Value} {xs : List Value} (hown : Own w base e v xs) (hs : a.eval s = v) (hx : a.eval x = .slice (some ⟨w.heap.size, 0, none⟩) 1 1)
    (hb : Below B W w) (hbB : B ≤ base) (hbase : base ≤ w.heap.size) (h1 : u.oneCell' = true)
    (hn : (xs.length + 1) * bytes ≤ 140737488355328) (hm : xs.length + 1 ≤ maxLen)
    (h : ∀ A' c' w', xs.length + 1 ≤ c' → c' ≤ maxLen → Own w' base e (.slice A' (xs.length + 1) c') (xs ++ [u]) → w.grownBy w' v.ownBlock → Below B W w' → w.heap.size < w'.heap.size → K (a.put o.dst (.slice A' (xs.length + 1) c')) w') :
    Oper.wp P o a (w.alloc (.cells #[u] e)) K Q := by
  obtain ⟨i, hi, hz0, hz1, hz2⟩ := info_parts E.hi
  obtain ⟨v', w', hr, hown', hg, _, _⟩ := run_append_own_at (P := P) (w.alloc (.cells #[u] e)) base t o.type e i z 1 bytes E.ht hi hz0 hz1 hz2 E.hz (by omega) v xs.length xs (World.ownsRow.alloc hown _) ⟨w.heap.size, 0, none⟩ 1 1 [u] rfl (cell_one_new _ _ _) (by simpa using h1) hm hn (by simp; omega)
  have hxl : (xs ++ [u]).length = xs.length + 1 := by simp
  have hown2 : Own w' base e v' (xs ++ [u]) := by unfold Own; rw [hxl]; exact hown'
  obtain ⟨A', c', rfl, hc1, hc2⟩ := hown2.slice
  rw [hxl] at hc1 hown2 hr
  have hg2 : w.grownBy w' v.ownBlock := (World.grownBy_alloc w (.cells #[u] e) v.ownBlock).trans hg
  have hsz := hg.size
  simp at hsz
  unfold Oper.wp execOp
  simp only [ho, resolve, invoke, builtin, Sem.run_bind, Sem.run_pure, Result.andThen_ok, List.map_toArray, List.map_cons, List.map_nil, hs, hx, hr]
  exact h A' c' w' hc1 hc2 hown2 hg2 (hb.grown hg2 (Nat.le_trans hbB hbase) (fun k hk => by have := (hown.lt k hk).1; omega)) (by omega)
/-- append(s, xs...) onto a row of the call's own, at the operation. -/
theorem wp_pushes {w : World} {t e : TypeId} {z : Value} {bytes : Nat} (E : ElT P t e z 1 bytes) (s x : Operand)
    (ho : o.op = .call { callee := .builtin .append, args := #[s, x], argTypes := #[t, t] })
    {W : World} {B base m c : Nat} {v : Value} {xs news : List Value} {ad : Addr} (hown : Own w base e v xs) (hr : Reads w w.heap.size 1 (some ad) m news) (hm0 : 0 < m) (hs : a.eval s = v) (hx : a.eval x = .slice (some ad) m c)
    (hb : Below B W w) (hbB : B ≤ base) (hbase : base ≤ w.heap.size) (h1 : ∀ u ∈ news, u.oneCell' = true)
    (hn : (xs.length + m) * bytes ≤ 140737488355328) (hm : xs.length + m ≤ maxLen)
    (h : ∀ A' c' w', xs.length + m ≤ c' → c' ≤ maxLen → Own w' base e (.slice A' (xs.length + m) c') (xs ++ news) → w.grownBy w' v.ownBlock → Below B W w' → K (a.put o.dst (.slice A' (xs.length + m) c')) w') :
    Oper.wp P o a w K Q := by
  obtain ⟨i, hi, hz0, hz1, hz2⟩ := info_parts E.hi
  have hl : news.length = m := by have := hr.1; omega
  have hcells : ∀ j u, news[j]? = some u → w.cell? (ad.add j) = some u := by
    intro j u hu
    obtain ⟨ad', h', _, hc⟩ := hr.2 hm0
    injection h' with h'
    subst h'
    exact hc j u hu
  obtain ⟨v', w', hr', hown', hg, _, _⟩ := run_append_own_at (P := P) w base t o.type e i z 1 bytes E.ht hi hz0 hz1 hz2 E.hz (by omega) v xs.length xs hown ad m c news (by omega) hcells h1 hm hn hbase
  have hxl : (xs ++ news).length = xs.length + m := by simp [hl]
  have hown2 : Own w' base e v' (xs ++ news) := by unfold Own; rw [hxl]; exact hown'
  obtain ⟨A', c', rfl, hc1, hc2⟩ := hown2.slice
  rw [hxl] at hc1 hown2 hr'
  unfold Oper.wp execOp
  simp only [ho, resolve, invoke, builtin, Sem.run_bind, Sem.run_pure, Result.andThen_ok, List.map_toArray, List.map_cons, List.map_nil, hs, hx, hr']
  exact h A' c' w' hc1 hc2 hown2 hg (hb.grown hg (Nat.le_trans hbB hbase) (fun k hk => by have := (hown.lt k hk).1; omega))
end

end Go.Hm
/- Columns as bytes: plain lists, and the contract of schema.Put. -/

namespace Go.Hm
open Go Go.RowKit
def boolN (b : Bool) : Nat := if b then 1 else 0
def colB (c : ColS) : List Nat := vp c.1.length ++ c.1 ++ [c.2.1.toNat, boolN c.2.2]
def catC (l : List ColS) : List Nat := l.flatMap colB
theorem catC_nil : catC [] = [] := rfl
theorem catC_snoc (l : List ColS) (c : ColS) : catC (l ++ [c]) = catC l ++ (vp c.1.length ++ c.1 ++ [c.2.1.toNat, boolN c.2.2]) := by simp [catC, colB]
theorem catC_cons (l : List ColS) (c : ColS) : catC (c :: l) = (vp c.1.length ++ c.1 ++ [c.2.1.toNat, boolN c.2.2]) ++ catC l := by simp [catC, colB]
theorem catC_len (l : List ColS) (h : ∀ x ∈ l, x.1.length ≤ 100) : (catC l).length ≤ 112 * l.length := by
  induction l with
  | nil => simp [catC]
  | cons c l ih =>
    have h1 := ih fun x hx => h x (by simp [hx])
    have h2 := h c (by simp)
    have h3 := vp_len10 (n := c.1.length) (by omega)
    rw [catC_cons]
    simp only [List.length_append, List.length_cons, List.length_nil] at *
    omega
/-- Columns' bytes behind others; none, if they may not be. -/
def putC (b : List Nat) (l : List ColS) : List Nat := if colsCk l = 0 then b ++ vp l.length ++ catC l else b

end Go.Hm

namespace Go.Proofs.Ythmjbdpkdomofaa
open Go.RowKit Go.Hm


end Go.Proofs.Ythmjbdpkdomofaa
/- Footers as records; which are right; their bytes: plain lists. -/

namespace Go.Hm
open Go Go.RowKit
/-- A page: how many bytes, how many rows, its stat. -/
abbrev PageS := Int × Int × StatS
def pageV (p : PageS) : List Value := .int .i64 p.1 :: .int .i64 p.2.1 :: statV p.2.2
/-- A group: how many rows, and of each column its pages. -/
abbrev GroupS := Int × List (List PageS)
/-- A footer. -/
structure FootS where
  cols : List ColS
  rows : Int
  groups : List GroupS
/-- May it be a page of a column? -/
def pageB (t : Int) (nu : Bool) (p : PageS) (most : Int) : Bool :=
  if p.2.1 < 1 ∨ most < p.2.1 ∨ p.1 < 1 ∨ 268435456 < p.1 then false
  else rightS t p.2.2 && (decide (p.2.2.1 ≤ p.2.1) && ((p.2.2.2.1 == decide (p.2.2.1 < p.2.1)) && (nu || decide (p.2.2.1 = 0))))
/-- How many bytes pages have, if they are right, and of so many rows. -/
def chunkS (t : Int) (nu : Bool) : List PageS → Int → Int → Int × Bool
  | [], rows, size => (size, decide (rows = 0))
  | p :: l, rows, size => if pageB t nu p rows then chunkS t nu l (rows - p.2.1) (size + p.1) else (0, false)
def sizesL (l : List PageS) : Int := (l.map (·.1)).sum
def rowsL (l : List PageS) : Int := (l.map (·.2.1)).sum
/-- A chunk is right: each page is, and their rows are so many. -/
def ChunkOk (t : Int) (nu : Bool) (l : List PageS) (rows : Int) : Prop := (∀ p ∈ l, pageB t nu p 65536 = true) ∧ rowsL l = rows
theorem sizesL_cons (p : PageS) (l : List PageS) : sizesL (p :: l) = p.1 + sizesL l := by simp [sizesL]
theorem rowsL_cons (p : PageS) (l : List PageS) : rowsL (p :: l) = p.2.1 + rowsL l := by simp [rowsL]
theorem pageB_most {t : Int} {nu : Bool} {p : PageS} {m : Int} : pageB t nu p m = true ↔ (1 ≤ p.2.1 ∧ p.2.1 ≤ m ∧ 1 ≤ p.1 ∧ p.1 ≤ 268435456) ∧ (rightS t p.2.2 && (decide (p.2.2.1 ≤ p.2.1) && ((p.2.2.2.1 == decide (p.2.2.1 < p.2.1)) && (nu || decide (p.2.2.1 = 0))))) = true := by
  unfold pageB
  split
  · rename_i h
    constructor
    · intro e; cases e
    · rintro ⟨e, _⟩; omega
  · rename_i h
    constructor
    · intro e; exact ⟨by omega, e⟩
    · exact fun e => e.2
theorem pageB_less {t : Int} {nu : Bool} {p : PageS} {m k : Int} (h : pageB t nu p m = true) (hk : p.2.1 ≤ k) : pageB t nu p k = true := by
  obtain ⟨h1, h2⟩ := pageB_most.1 h
  exact pageB_most.2 ⟨by omega, h2⟩
theorem rowsL_pos {t : Int} {nu : Bool} : ∀ {l : List PageS}, (∀ p ∈ l, pageB t nu p 65536 = true) → 0 ≤ rowsL l ∧ (l.length : Int) ≤ rowsL l ∧ 0 ≤ sizesL l ∧ sizesL l ≤ l.length * 268435456
  | [], _ => by simp [rowsL, sizesL]
  | p :: l, h => by
    have h1 := (pageB_most.1 (h p (by simp))).1
    have := rowsL_pos (l := l) fun q hq => h q (by simp [hq])
    rw [rowsL_cons, sizesL_cons, List.length_cons]
    omega
theorem chunkS_iff {t : Int} {nu : Bool} : ∀ (l : List PageS) (rows size : Int), rows ≤ 65536 → ((chunkS t nu l rows size).2 = true ↔ ChunkOk t nu l rows) ∧ (ChunkOk t nu l rows → (chunkS t nu l rows size).1 = size + sizesL l)
  | [], rows, size, _ => by
    simp [chunkS, ChunkOk, rowsL, sizesL]
    omega
  | p :: l, rows, size, hr => by
    unfold chunkS
    by_cases hp : pageB t nu p rows = true
    · rw [if_pos hp]
      have h1 := (pageB_most.1 hp).1
      have ih := chunkS_iff (t := t) (nu := nu) l (rows - p.2.1) (size + p.1) (by omega)
      have hiff : ChunkOk t nu (p :: l) rows ↔ ChunkOk t nu l (rows - p.2.1) := by
        unfold ChunkOk
        rw [rowsL_cons]
        constructor
        · rintro ⟨a, b⟩
          exact ⟨fun q hq => a q (by simp [hq]), by omega⟩
        · rintro ⟨a, b⟩
          refine ⟨fun q hq => ?_, by omega⟩
          rcases List.mem_cons.1 hq with rfl | hq
          · exact pageB_less hp (by omega)
          · exact a q hq
      refine ⟨ih.1.trans hiff.symm, fun hc => ?_⟩
      rw [ih.2 (hiff.1 hc), sizesL_cons]
      omega
    · rw [if_neg hp]
      have hno : ¬ ChunkOk t nu (p :: l) rows := by
        rintro ⟨a, b⟩
        have h1 := a p (by simp)
        have h2 := rowsL_pos (l := l) fun q hq => a q (by simp [hq])
        rw [rowsL_cons] at b
        exact hp (pageB_less h1 (by omega))
      exact ⟨⟨fun h => by simp at h, fun h => absurd h hno⟩, fun h => absurd h hno⟩
/-- All pages of a group, chunk by chunk. -/
def groupSize (g : GroupS) : Int := (g.2.map sizesL).sum
def GroupOk (cols : List ColS) (g : GroupS) : Prop :=
  1 ≤ g.1 ∧ g.2.length = cols.length ∧ ∀ i, i < cols.length → ChunkOk (cols.getD i ([], 0, false)).2.1 (cols.getD i ([], 0, false)).2.2 (g.2.getD i []) g.1
/-- A footer is right. -/
def FootOk (F : FootS) : Prop :=
  ColsOk F.cols ∧ (∀ g ∈ F.groups, GroupOk F.cols g) ∧ (F.groups.map (·.1)).sum = F.rows ∧ F.rows ≤ 65536 ∧ (F.groups.map groupSize).sum ≤ 1073741824
/-- The bytes of a page, of a chunk, of a group, of a footer. -/
def pageL (t : Int) (p : PageS) : List Nat := vp p.1.toNat ++ vp p.2.1.toNat ++ Go.Hm.putS [] t p.2.2
def chunkL (t : Int) (l : List PageS) : List Nat := vp l.length ++ l.flatMap (pageL t)
def chunksL : List ColS → List (List PageS) → List Nat
  | c :: cs, l :: ls => chunkL c.2.1 l ++ chunksL cs ls
  | _, _ => []
def groupL (cols : List ColS) (g : GroupS) : List Nat := vp g.1.toNat ++ chunksL cols g.2
def footL (F : FootS) : List Nat := putC [] F.cols ++ vp F.rows.toNat ++ vp F.groups.length ++ F.groups.flatMap (groupL F.cols)

end Go.Hm
/- Arguments opened, by the types of this program. -/
set_option maxRecDepth 100000

namespace Go.Proofs.Ythmjbdpkdomofaa
open Go.RowKit Go.Hm Go.WideShapes Go.ChangeShapes
def SmallPost (w : World) (e : Ending) (w' : World) : Prop := e = .returned (.bool true) ∧ Below w.heap.size w w'

section
variable {H : Type} {enc : TypeId × Value → H} {W : World} {base : Nat} {v : Value} {d : DataW H} {ps : List MemPlace}
theorem open_I (hval : Value.okWide Try.prog W .any base 26 v) (h : DataW.Trod enc Try.prog W 0 (fun _ => true) true 26 v d ps) (hlt : ∀ p ∈ ps, p.block < W.heap.size) (hw : ∀ n ∈ d.weights Try.prog 26, n ≤ reachBytes) :
    ∃ A c, ∃ l : List Int, v = .slice A l.length c ∧ l.length ≤ c ∧ c * 8 ≤ 140737488351232 ∧ Reads W W.heap.size 1 A l.length (ints .i64 l) ∧ ∀ x ∈ l, -9223372036854775808 ≤ x ∧ x ≤ 9223372036854775807 := by
  obtain ⟨A, c, l, h1, h2, _, h4, h5, h6⟩ := open_ints_ (k := .i64) (sz := 8) elI.ht (by kernel_rfl) (by kernel_rfl) (by kernel_rfl) hval h hlt hw
  exact ⟨A, c, l, h1, h2, by unfold reachBytes at h4; omega, h5, fun x hx => by have := h6 x hx; simp [IntKind.min, IntKind.max, IntKind.signed, IntKind.bits] at this; omega⟩
theorem open_u64 (hval : Value.okWide Try.prog W .any base 89 v) (h : DataW.Trod enc Try.prog W 0 (fun _ => true) true 89 v d ps) : ∃ x : Nat, v = .int .u64 (x : Int) ∧ x ≤ 18446744073709551615 := by
  obtain ⟨y, rfl, _, _, wy⟩ := open_int (k := .u64) (by kernel_rfl) hval h
  simp [Lit.wf, IntKind.min, IntKind.max, IntKind.signed, IntKind.bits] at wy
  obtain ⟨y, rfl⟩ := Int.eq_ofNat_of_zero_le wy.1
  exact ⟨y, rfl, by omega⟩
theorem open_u32 (hval : Value.okWide Try.prog W .any base 87 v) (h : DataW.Trod enc Try.prog W 0 (fun _ => true) true 87 v d ps) : ∃ x : Nat, v = .int .u32 (x : Int) ∧ x ≤ 4294967295 := by
  obtain ⟨y, rfl, _, _, wy⟩ := open_int (k := .u32) (by kernel_rfl) hval h
  simp [Lit.wf, IntKind.min, IntKind.max, IntKind.signed, IntKind.bits] at wy
  obtain ⟨y, rfl⟩ := Int.eq_ofNat_of_zero_le wy.1
  exact ⟨y, rfl, by omega⟩
theorem open_u8 (hval : Value.okWide Try.prog W .any base 5 v) (h : DataW.Trod enc Try.prog W 0 (fun _ => true) true 5 v d ps) : ∃ x : Nat, v = .int .u8 (x : Int) ∧ x ≤ 255 := by
  obtain ⟨y, rfl, _, _, wy⟩ := open_int (k := .u8) (by kernel_rfl) hval h
  simp [Lit.wf, IntKind.min, IntKind.max, IntKind.signed, IntKind.bits] at wy
  obtain ⟨y, rfl⟩ := Int.eq_ofNat_of_zero_le wy.1
  exact ⟨y, rfl, by omega⟩
theorem open_i64 (hval : Value.okWide Try.prog W .any base 3 v) (h : DataW.Trod enc Try.prog W 0 (fun _ => true) true 3 v d ps) : ∃ x : Int, v = .int .i64 x ∧ -9223372036854775808 ≤ x ∧ x ≤ 9223372036854775807 := by
  obtain ⟨y, rfl, _, _, wy⟩ := open_int (k := .i64) (by kernel_rfl) hval h
  simp [Lit.wf, IntKind.min, IntKind.max, IntKind.signed, IntKind.bits] at wy
  exact ⟨y, rfl, wy.1, by omega⟩
end

end Go.Proofs.Ythmjbdpkdomofaa
/- Structs that came in, part by part. No program is named here. -/

namespace Go.Hm
open Go Go.RowKit Go.WideShapes Go.ChangeShapes Go.Deep

section
variable {H : Type} {enc : TypeId × Value → H} {P : Program} {W : World} {t e : TypeId} {cs : List Value} {n : Nat}
def fieldsOf (P : Program) (t : TypeId) : Array Field := match P.underlying t with | some (.struct fs) => fs | _ => #[]
theorem Held.part (h : Held enc P W t cs) (hs : P.underlying t = some (.struct (fieldsOf P t))) (i off n : Nat) {ft : TypeId} (hf : ((fieldsOf P t)[i]?.map fun f => (f.type, f.offset)) = some (ft, off)) (hn : P.cellsOf ft = n) : Held enc P W ft ((cs.drop off).take n) := by
  obtain ⟨_, hall⟩ := h.field hs
  cases hfi : (fieldsOf P t)[i]? with
  | none => rw [hfi] at hf; cases hf
  | some f =>
    rw [hfi] at hf
    simp only [Option.map_some, Option.some.injEq, Prod.mk.injEq] at hf
    obtain ⟨h1, h2⟩ := hf
    have := hall i f hfi
    rw [h1, h2, hn] at this
    exact this
theorem Held.partLen (h : Held enc P W t cs) (hs : P.underlying t = some (.struct (fieldsOf P t))) (hn : P.cellsOf t = n) : cs.length = n := (h.field hs).1.trans hn
theorem ints_recs (l : List Int) : recs (fun n : Int => [.int .i64 n]) l = ints .i64 l := by
  induction l with
  | nil => rfl
  | cons x l ih => rw [recs_cons, ih]; rfl
/-- A slice of numbers within what came in. -/
theorem Held.ints_ {te : TypeId} (ht : P.underlying t = some (.slice te)) (hC : P.cellsOf te = 1) (hby : P.bytesOf te = 8) (hi : P.underlying te = some (.int .i64)) (h : Held enc P W t cs) :
    ∃ A c, ∃ l : List Int, cs = [.slice A l.length c] ∧ l.length ≤ c ∧ c * 8 ≤ 140737488351232 ∧ Reads W W.heap.size 1 A l.length (ints .i64 l) ∧ ∀ x ∈ l, -9223372036854775808 ≤ x ∧ x ≤ 9223372036854775807 := by
  obtain ⟨A, c, l, h1, h2, _, h4, h5, h6⟩ := h.recs (f := fun n : Int => [.int .i64 n]) (sz := 1) (by_ := 8) (Q := fun x => -9223372036854775808 ≤ x ∧ x ≤ 9223372036854775807) 0 ht hC hby (fun _ => rfl) (by omega) (fun cs hh => by
    obtain ⟨n, e1, e2, e3⟩ := hh.i64 hi
    exact ⟨n, e1, e2, e3⟩)
  exact ⟨A, c, l, h1, h2, by unfold reachBytes at h4; omega, by rw [← ints_recs]; exact h5, h6⟩
/-- Only the header of a slice within what came in. -/
theorem Held.head {te : TypeId} (ht : P.underlying t = some (.slice te)) (h : Held enc P W t cs) : ∃ A n c, cs = [.slice A n c] ∧ n ≤ c ∧ c ≤ maxLen := by
  rcases h.slice ht with rfl | ⟨a, len, cap, rfl, hl, hm, _⟩
  · exact ⟨none, 0, 0, rfl, by omega, by simp [maxLen]⟩
  · exact ⟨some a, len, cap, rfl, hl, hm⟩
theorem list3 {α : Type} {l : List α} (h : l.length = 3) : ∃ a b c, l = [a, b, c] := by
  match l, h with
  | [a, b, c], _ => exact ⟨a, b, c, rfl⟩
end

end Go.Hm
/- Cells opened. -/
set_option maxRecDepth 100000

namespace Go.Hm
open Go Go.RowKit
/-- A column's cells as they lie: where, how many may, and what. -/
abbrev ColD := Option Addr × Nat × List CellS
def dataV (d : ColD) : List Value := [.slice d.1 d.2.2.length d.2.1]
theorem list5 {α : Type} {l : List α} (h : l.length = 5) : ∃ a b c d e, l = [a, b, c, d, e] := by
  match l, h with
  | [a, b, c, d, e], _ => exact ⟨a, b, c, d, e, rfl⟩
theorem list2 {α : Type} {l : List α} (h : l.length = 2) : ∃ a b, l = [a, b] := by
  match l, h with
  | [a, b], _ => exact ⟨a, b, rfl⟩
/-- A cell that may come in. -/
def CellFine (c : CellS) : Prop := (c.2.2.1.length ≤ 140737488351232 ∧ ∀ z ∈ c.2.2.1, z < 256) ∧ (-9223372036854775808 ≤ c.2.1 ∧ c.2.1 ≤ 9223372036854775807) ∧ (-9223372036854775808 ≤ c.2.2.2.1 ∧ c.2.2.2.1 ≤ 9223372036854775807) ∧ (-9223372036854775808 ≤ c.2.2.2.2 ∧ c.2.2.2.2 ≤ 9223372036854775807)

end Go.Hm

namespace Go.Proofs.Ythmjbdpkdomofaa
open Go.RowKit Go.Hm Go.WideShapes Go.ChangeShapes

section
variable {H : Type} {enc : TypeId × Value → H} {W : World} {base : Nat} {v : Value} {d : DataW H} {ps : List MemPlace}
theorem held_cell {cs : List Value} (h : Held enc Try.prog W 53 cs) : ∃ c : CellS, cs = cellV c ∧ CellFine c := by
  have ht : Try.prog.underlying 53 = some (.struct (fieldsOf Try.prog 53)) := by kernel_rfl
  have ht2 : Try.prog.underlying 51 = some (.struct (fieldsOf Try.prog 51)) := by kernel_rfl
  obtain ⟨x0, x1, x2, x3, x4, rfl⟩ := list5 (h.partLen ht (n := 5) (by kernel_rfl))
  have p0 := h.part ht 0 0 1 (ft := 4) (by kernel_rfl) (by kernel_rfl)
  have p1 := h.part ht 1 1 1 (ft := 3) (by kernel_rfl) (by kernel_rfl)
  have p2 := h.part ht 2 2 1 (ft := 9) (by kernel_rfl) (by kernel_rfl)
  have p3 := h.part ht 3 3 2 (ft := 51) (by kernel_rfl) (by kernel_rfl)
  have q0 := p3.part ht2 0 0 1 (ft := 3) (by kernel_rfl) (by kernel_rfl)
  have q1 := p3.part ht2 1 1 1 (ft := 3) (by kernel_rfl) (by kernel_rfl)
  obtain ⟨b, e0⟩ := p0.bool (by kernel_rfl)
  obtain ⟨n, e1, n1, n2⟩ := p1.i64 (by kernel_rfl)
  obtain ⟨s, e2, s1, s2⟩ := p2.string (by kernel_rfl)
  obtain ⟨x, e3, g1, g2⟩ := q0.i64 (by kernel_rfl)
  obtain ⟨y, e4, g3, g4⟩ := q1.i64 (by kernel_rfl)
  simp only [List.drop_succ_cons, List.drop_zero, List.take_succ_cons, List.take_zero, List.cons.injEq, and_true] at e0 e1 e2 e3 e4
  subst e0 e1 e2 e3 e4
  exact ⟨(b, n, s, x, y), rfl, ⟨s2, s1⟩, ⟨n1, n2⟩, ⟨g1, g2⟩, g3, g4⟩
theorem open_C (hval : Value.okWide Try.prog W .any base 53 v) (h : DataW.Trod enc Try.prog W 0 (fun _ => true) true 53 v d ps) (hlt : ∀ p ∈ ps, p.block < W.heap.size) (hw : ∀ n ∈ d.weights Try.prog 53, n ≤ reachBytes) :
    ∃ c : CellS, v = .agg (cellV c).toArray ∧ CellFine c := by
  have ht : Try.prog.underlying 53 = some (.struct (fieldsOf Try.prog 53)) := by kernel_rfl
  obtain ⟨⟨cs⟩, rfl, hsz⟩ := okWide_struct ht hval
  have hh := Held.of h hlt hw
  simp only [Value.cells] at hh
  obtain ⟨c, rfl, hc⟩ := held_cell hh
  exact ⟨c, rfl, hc⟩
end

end Go.Proofs.Ythmjbdpkdomofaa
/- Footers as they lie in the world; the contract of footer.rightPage. -/

namespace Go.Hm
open Go Go.RowKit
/-- A chunk: where its pages lie, and what they are. -/
abbrev ChD := Option Addr × Nat × List PageS
def chV (x : ChD) : List Value := [.slice x.1 x.2.2.length x.2.1]
/-- A group: how many rows, where its chunks lie, and what they are. -/
abbrev GrD := Int × Option Addr × Nat × List ChD
def grV (g : GrD) : List Value := [.int .i64 g.1, .slice g.2.1 g.2.2.2.length g.2.2.1]
def grP (g : GrD) : GroupS := (g.1, g.2.2.2.map (·.2.2))
theorem cells14 {w : World} {g : Nat} {ty : TypeId} {a0 a1 a2 a3 a4 a5 a6 a7 a8 a9 a10 a11 a12 a13 : Value} (h : Blk w g ty #[a0, a1, a2, a3, a4, a5, a6, a7, a8, a9, a10, a11, a12, a13]) : w.cell? ⟨g, 0, none⟩ = some a0 ∧ w.cell? ⟨g, 1, none⟩ = some a1 ∧ w.cell? ⟨g, 2, none⟩ = some a2 ∧ w.cell? ⟨g, 3, none⟩ = some a3 ∧ w.cell? ⟨g, 4, none⟩ = some a4 ∧ w.cell? ⟨g, 5, none⟩ = some a5 ∧ w.cell? ⟨g, 6, none⟩ = some a6 ∧ w.cell? ⟨g, 7, none⟩ = some a7 ∧ w.cell? ⟨g, 8, none⟩ = some a8 ∧ w.cell? ⟨g, 9, none⟩ = some a9 ∧ w.cell? ⟨g, 10, none⟩ = some a10 ∧ w.cell? ⟨g, 11, none⟩ = some a11 ∧ w.cell? ⟨g, 12, none⟩ = some a12 ∧ w.cell? ⟨g, 13, none⟩ = some a13 := by
  have h0 := h.cell 0
  have h1 := h.cell 1
  have h2 := h.cell 2
  have h3 := h.cell 3
  have h4 := h.cell 4
  have h5 := h.cell 5
  have h6 := h.cell 6
  have h7 := h.cell 7
  have h8 := h.cell 8
  have h9 := h.cell 9
  have h10 := h.cell 10
  have h11 := h.cell 11
  have h12 := h.cell 12
  have h13 := h.cell 13
  simp at h0 h1 h2 h3 h4 h5 h6 h7 h8 h9 h10 h11 h12 h13
  exact ⟨h0, h1, h2, h3, h4, h5, h6, h7, h8, h9, h10, h11, h12, h13⟩
def pageA (p : PageS) : Value := .agg (pageV p).toArray
def colA (c : ColS) : Value := .agg (colV c).toArray

end Go.Hm

namespace Go.Proofs.Ythmjbdpkdomofaa
open Go.RowKit Go.Hm
def PageFine (p : PageS) : Prop := ((CellFine p.2.2.2.2.1 ∧ CellFine p.2.2.2.2.2) ∧ -9223372036854775808 ≤ p.2.2.1 ∧ p.2.2.1 ≤ 9223372036854775807) ∧ (-9223372036854775808 ≤ p.1 ∧ p.1 ≤ 9223372036854775807) ∧ -9223372036854775808 ≤ p.2.1 ∧ p.2.1 ≤ 9223372036854775807
theorem PageFine.stat {p : PageS} (h : PageFine p) : statFine p.2.2 := ⟨h.1.1.1.1, h.1.1.2.1⟩
set_option maxHeartbeats 2000000 in
set_option maxRecDepth 100000 in
theorem rightPage_any {w : World} {c : ColS} {p : PageS} {most : Int} (hp : statFine p.2.2) :
    Calls Try.prog 58 #[colA c, pageA p, .int .i64 most] w (NewPost (.bool (pageB c.2.1 c.2.2 p most)) w) := by
  obtain ⟨nm, t, nu⟩ := c
  have SR := fun (W : World) => sright_any (w := W) (t := t) hp
  clear hp
  obtain ⟨M, hM⟩ : ∃ M, M = pageB t nu p most := ⟨_, rfl⟩
  dsimp only
  rw [← hM]
  unfold pageB at hM
  generalize rightS t p.2.2 = R at *
  obtain ⟨sz, rw, nn, bb, ⟨p1, p2, p3, p4, p5⟩, ⟨q1, q2, q3, q4, q5⟩⟩ := p
  dsimp only at hM SR
  have SR : Hid (∀ W, Calls Try.prog 63 #[.int .i64 t, .agg #[.int .i64 nn, .bool bb, .bool p1, .int .i64 p2, .string (bstr p3), .int .i64 p4, .int .i64 p5, .bool q1, .int .i64 q2, .string (bstr q3), .int .i64 q4, .int .i64 q5]] W (NewPost (.bool R) W)) := Lib.hid SR
  show Calls Try.prog 58 #[.agg #[.string (bstr nm), .int .i64 t, .bool nu], .agg #[.int .i64 sz, .int .i64 rw, .int .i64 nn, .bool bb, .bool p1, .int .i64 p2, .string (bstr p3), .int .i64 p4, .int .i64 p5, .bool q1, .int .i64 q2, .string (bstr q3), .int .i64 q4, .int .i64 q5], .int .i64 most] w (NewPost (.bool M) w)
  have B0 := (Blk.new w 61 #[.string (bstr nm), .int .i64 t, .bool nu]).alloc (.cells #[.int .i64 sz, .int .i64 rw, .int .i64 nn, .bool bb, .bool p1, .int .i64 p2, .string (bstr p3), .int .i64 p4, .int .i64 p5, .bool q1, .int .i64 q2, .string (bstr q3), .int .i64 q4, .int .i64 q5] 57)
  have B1 := Blk.new (w.alloc (.cells #[.string (bstr nm), .int .i64 t, .bool nu] 61)) 57 #[.int .i64 sz, .int .i64 rw, .int .i64 nn, .bool bb, .bool p1, .int .i64 p2, .string (bstr p3), .int .i64 p4, .int .i64 p5, .bool q1, .int .i64 q2, .string (bstr q3), .int .i64 q4, .int .i64 q5]
  have b0 := new2 w (.cells #[.string (bstr nm), .int .i64 t, .bool nu] 61) (.cells #[.int .i64 sz, .int .i64 rw, .int .i64 nn, .bool bb, .bool p1, .int .i64 p2, .string (bstr p3), .int .i64 p4, .int .i64 p5, .bool q1, .int .i64 q2, .string (bstr q3), .int .i64 q4, .int .i64 q5] 57)
  simp only [World.size_alloc] at B1
  obtain ⟨x0, x1, x2, x3, x4, x5, x6, x7, x8, x9, x10, x11, x12, x13⟩ := cells14 B1
  obtain ⟨y0, y1, y2⟩ := ccells B0
  by_cases hbad : rw < 1 ∨ most < rw ∨ sz < 1 ∨ 268435456 < sz
  · rw [if_pos hbad] at hM
    have HM := Lib.hid hM
    clear hM SR
    by_cases h1 : rw < 1
    all_goals try by_cases h2 : most < rw
    all_goals try by_cases h3 : sz < 1
    all_goals try (have h4 : 268435456 < sz := by omega)
    all_goals
      clear hbad
      go_enter Try.func58, Try.ntmps58
      go_wp2
      go_ret
      exact ⟨by rw [HM.out]; rfl, b0⟩
  · rw [if_neg hbad] at hM
    have h1 : ¬ rw < 1 := fun h => hbad (by omega)
    have h2 : ¬ most < rw := fun h => hbad (by omega)
    have h3 : ¬ sz < 1 := fun h => hbad (by omega)
    have h4 : ¬ 268435456 < sz := fun h => hbad (by omega)
    have HM := Lib.hid hM
    clear hM hbad
    have hs : New ((w.alloc (.cells #[.string (bstr nm), .int .i64 t, .bool nu] 61)).alloc (.cells #[.int .i64 sz, .int .i64 rw, .int .i64 nn, .bool bb, .bool p1, .int .i64 p2, .string (bstr p3), .int .i64 p4, .int .i64 p5, .bool q1, .int .i64 q2, .string (bstr q3), .int .i64 q4, .int .i64 q5] 57)) (((w.alloc (.cells #[.string (bstr nm), .int .i64 t, .bool nu] 61)).alloc (.cells #[.int .i64 sz, .int .i64 rw, .int .i64 nn, .bool bb, .bool p1, .int .i64 p2, .string (bstr p3), .int .i64 p4, .int .i64 p5, .bool q1, .int .i64 q2, .string (bstr q3), .int .i64 q4, .int .i64 q5] 57)).alloc (.cells #[.int .i64 nn, .bool bb, .bool p1, .int .i64 p2, .string (bstr p3), .int .i64 p4, .int .i64 p5, .bool q1, .int .i64 q2, .string (bstr q3), .int .i64 q4, .int .i64 q5] 55)) := (Below.refl _ _).alloc (Nat.le_refl _) _
    have B2 := Blk.new ((w.alloc (.cells #[.string (bstr nm), .int .i64 t, .bool nu] 61)).alloc (.cells #[.int .i64 sz, .int .i64 rw, .int .i64 nn, .bool bb, .bool p1, .int .i64 p2, .string (bstr p3), .int .i64 p4, .int .i64 p5, .bool q1, .int .i64 q2, .string (bstr q3), .int .i64 q4, .int .i64 q5] 57)) 55 #[.int .i64 nn, .bool bb, .bool p1, .int .i64 p2, .string (bstr p3), .int .i64 p4, .int .i64 p5, .bool q1, .int .i64 q2, .string (bstr q3), .int .i64 q4, .int .i64 q5]
    simp only [World.size_alloc] at B2
    obtain ⟨z0, z1, z2, z3, z4, z5, z6, z7, z8, z9, z10, z11⟩ := cells12 B2
    have B0 := B0.below hs B0.lt
    have B1 := B1.below hs B1.lt
    have b2 := New.trans b0 hs
    obtain ⟨v0, v1, v2⟩ := ccells B0
    have HB0 := Lib.hid B0
    have HB1 := Lib.hid B1
    have HB2 := Lib.hid B2
    have Hb2 := Lib.hid b2
    clear hs b0 B0 B1 B2 b2
    go_enter Try.func58, Try.ntmps58
    go_wp2_with fail
    refine (SR.out _).mono ?_
    rintro e w1 ⟨rfl, b1⟩
    have B0 := HB0.out.below b1 HB0.out.lt
    have B1 := HB1.out.below b1 HB1.out.lt
    have B2 := HB2.out.below b1 HB2.out.lt
    have b01 := New.trans Hb2.out b1
    clear x0 x1 x2 x3 x4 x5 x6 x7 x8 x9 x10 x11 x12 x13 y0 y1 y2 v0 v1 v2 z0 z1 z2 z3 z4 z5 z6 z7 z8 z9 z10 z11 HB0 HB1 HB2 Hb2 b1 SR
    obtain ⟨x0, x1, x2, x3, x4, x5, x6, x7, x8, x9, x10, x11, x12, x13⟩ := cells14 B1
    obtain ⟨z0, z1, z2, z3, z4, z5, z6, z7, z8, z9, z10, z11⟩ := cells12 B2
    obtain ⟨y0, y1, y2⟩ := ccells B0
    cases R with
    | false =>
      go_wp2
      go_ret
      exact ⟨by rw [HM.out]; rfl, b01⟩
    | true =>
      generalize k1 : decide (nn ≤ rw) = d1 at *
      generalize k2 : decide (nn < rw) = d2 at *
      generalize k3 : decide (nn = 0) = d3 at *
      have k4 : (nn == 0) = d3 := by rw [← k3]; rfl
      cases d1 <;> cases d2 <;> cases d3 <;> cases bb <;> cases nu
      all_goals
        go_wp2
        go_ret
        exact ⟨by rw [HM.out]; rfl, b01⟩

end Go.Proofs.Ythmjbdpkdomofaa
/- Pages read out of a row; the contract of footer.chunkSize. -/

namespace Go.Hm
open Go Go.RowKit
abbrev pageZ : PageS := (0, 0, 0, false, (false, 0, [], 0, 0), (false, 0, [], 0, 0))
/-- A page of many, as the walk reads it. -/
theorem Reads.page14 {w : World} {B n i : Nat} {A : Option Addr} {l : List PageS} (h : Reads w B 14 A n (recs pageV l)) (hi : i < n) :
    ∃ ad, A = some ad ∧ ad.block < B ∧ w.cell? (ad.add (i * 14)) = some (.int .i64 (l.getD i pageZ).1) ∧ w.cell? ⟨(ad.add (i * 14)).block, (ad.add (i * 14)).off + 1, none⟩ = some (.int .i64 (l.getD i pageZ).2.1) ∧ w.cell? ⟨(ad.add (i * 14)).block, (ad.add (i * 14)).off + 2, none⟩ = some (.int .i64 (l.getD i pageZ).2.2.1) ∧ w.cell? ⟨(ad.add (i * 14)).block, (ad.add (i * 14)).off + 3, none⟩ = some (.bool (l.getD i pageZ).2.2.2.1) ∧ w.cell? ⟨(ad.add (i * 14)).block, (ad.add (i * 14)).off + 4, none⟩ = some (.bool (l.getD i pageZ).2.2.2.2.1.1) ∧ w.cell? ⟨(ad.add (i * 14)).block, (ad.add (i * 14)).off + 5, none⟩ = some (.int .i64 (l.getD i pageZ).2.2.2.2.1.2.1) ∧ w.cell? ⟨(ad.add (i * 14)).block, (ad.add (i * 14)).off + 6, none⟩ = some (.string (bstr (l.getD i pageZ).2.2.2.2.1.2.2.1)) ∧ w.cell? ⟨(ad.add (i * 14)).block, (ad.add (i * 14)).off + 7, none⟩ = some (.int .i64 (l.getD i pageZ).2.2.2.2.1.2.2.2.1) ∧ w.cell? ⟨(ad.add (i * 14)).block, (ad.add (i * 14)).off + 8, none⟩ = some (.int .i64 (l.getD i pageZ).2.2.2.2.1.2.2.2.2) ∧ w.cell? ⟨(ad.add (i * 14)).block, (ad.add (i * 14)).off + 9, none⟩ = some (.bool (l.getD i pageZ).2.2.2.2.2.1) ∧ w.cell? ⟨(ad.add (i * 14)).block, (ad.add (i * 14)).off + 10, none⟩ = some (.int .i64 (l.getD i pageZ).2.2.2.2.2.2.1) ∧ w.cell? ⟨(ad.add (i * 14)).block, (ad.add (i * 14)).off + 11, none⟩ = some (.string (bstr (l.getD i pageZ).2.2.2.2.2.2.2.1)) ∧ w.cell? ⟨(ad.add (i * 14)).block, (ad.add (i * 14)).off + 12, none⟩ = some (.int .i64 (l.getD i pageZ).2.2.2.2.2.2.2.2.1) ∧ w.cell? ⟨(ad.add (i * 14)).block, (ad.add (i * 14)).off + 13, none⟩ = some (.int .i64 (l.getD i pageZ).2.2.2.2.2.2.2.2.2) := by
  obtain ⟨ad, h1, h2, _, h3⟩ := h.rec_ (f := pageV) (sz := 14) (fun _ => rfl) pageZ hi (by omega)
  refine ⟨ad, h1, h2, h3 0 _ rfl, ?_, ?_, ?_, ?_, ?_, ?_, ?_, ?_, ?_, ?_, ?_, ?_, ?_⟩
  · have := h3 1 _ rfl
    rw [← add_of_add] at this
    exact this
  · have := h3 2 _ rfl
    rw [← add_of_add] at this
    exact this
  · have := h3 3 _ rfl
    rw [← add_of_add] at this
    exact this
  · have := h3 4 _ rfl
    rw [← add_of_add] at this
    exact this
  · have := h3 5 _ rfl
    rw [← add_of_add] at this
    exact this
  · have := h3 6 _ rfl
    rw [← add_of_add] at this
    exact this
  · have := h3 7 _ rfl
    rw [← add_of_add] at this
    exact this
  · have := h3 8 _ rfl
    rw [← add_of_add] at this
    exact this
  · have := h3 9 _ rfl
    rw [← add_of_add] at this
    exact this
  · have := h3 10 _ rfl
    rw [← add_of_add] at this
    exact this
  · have := h3 11 _ rfl
    rw [← add_of_add] at this
    exact this
  · have := h3 12 _ rfl
    rw [← add_of_add] at this
    exact this
  · have := h3 13 _ rfl
    rw [← add_of_add] at this
    exact this
theorem Reads.lenPage {w : World} {B n : Nat} {A : Option Addr} {l : List PageS} (h : Reads w B 14 A n (recs pageV l)) : n = l.length := h.lenR (f := pageV) (sz := 14) (fun _ => rfl) (by omega)
theorem drop_getD {α : Type} (l : List α) (k : Nat) (d : α) (h : k < l.length) : l.drop k = l.getD k d :: l.drop (k + 1) := by
  rw [List.drop_eq_getElem_cons h, List.getD_eq_getElem?_getD, List.getElem?_eq_getElem h]
  rfl
theorem mem_getDF {α : Type} {l : List α} {k : Nat} (d : α) (h : k < l.length) : l.getD k d ∈ l := by
  rw [List.getD_eq_getElem?_getD, List.getElem?_eq_getElem h]
  exact List.getElem_mem h

end Go.Hm

namespace Go.Proofs.Ythmjbdpkdomofaa
open Go.RowKit Go.Hm
def SizePost (r : Int × Bool) (w : World) (e : Ending) (w' : World) : Prop := e = .returned (.tuple #[.int .i64 r.1, .bool r.2]) ∧ New w w'
set_option maxHeartbeats 2000000 in
set_option maxRecDepth 100000 in
theorem chunkSize_any {w : World} {c : ColS} {A : Option Addr} {n cap : Nat} {l : List PageS} {rows : Int} (h : Reads w w.heap.size 14 A n (recs pageV l)) (hl : ∀ p ∈ l, statFine p.2.2) (hn : n ≤ 4611686018427387903) (hr : 0 ≤ rows ∧ rows ≤ 65536) :
    Calls Try.prog 52 #[colA c, .slice A n cap, .int .i64 rows] w (SizePost (chunkS c.2.1 c.2.2 l rows 0) w) := by
  obtain rfl := h.lenPage
  obtain ⟨nm, t, nu⟩ := c
  have HR := Lib.hid h
  have HL := Lib.hid hl
  have HC := Lib.hid (show chunkS t nu l rows 0 = chunkS t nu (l.drop 0) rows 0 from rfl)
  clear h hl
  show Calls Try.prog 52 #[.agg #[.string (bstr nm), .int .i64 t, .bool nu], .slice A l.length cap, .int .i64 rows] w (SizePost (chunkS t nu l rows 0) w)
  generalize hX : chunkS t nu l rows 0 = X at *
  clear hX
  have B0 := Blk.new w 61 #[.string (bstr nm), .int .i64 t, .bool nu]
  have b0 : New w (w.alloc (.cells #[.string (bstr nm), .int .i64 t, .bool nu] 61)) := (Below.refl _ _).alloc (Nat.le_refl _) _
  go_enter Try.func52, Try.ntmps52
  go_wp2_with fail
  go_loopw [2, 8, 13] (fun r s i wr => ∃ (k : Nat) (rr ss : Int), k ≤ l.length ∧ i = .int .i64 (k : Int) ∧ r = .int .i64 rr ∧ s = .int .i64 ss ∧ Hid (X = chunkS t nu (l.drop k) rr ss) ∧ (0 ≤ rr ∧ rr + k ≤ rows) ∧ (0 ≤ ss ∧ ss ≤ k * 268435456)
    ∧ Blk wr w.heap.size 61 #[.string (bstr nm), .int .i64 t, .bool nu] ∧ New w wr) (fun _ _ i _ => l.length - (intOf i).toNat)
  case atStart => exact ⟨0, rows, 0, Nat.zero_le _, rfl, rfl, rfl, HC, by omega, by omega, B0, b0⟩
  case round =>
    obtain ⟨k, rr, ss, hk, rfl, rfl, rfl, H, hrr, hss, B, b⟩ := hrel
    clear HC B0 b0
    by_cases hlt : k < l.length
    · obtain ⟨ad, rfl, hb, d0, d1, d2, d3, d4, d5, d6, d7, d8, d9, d10, d11, d12, d13⟩ := (Reads.later HR.out b).page14 hlt
      have hd := drop_getD l k pageZ hlt
      have RP := fun (W : World) => rightPage_any (w := W) (c := (nm, t, nu)) (p := l.getD k pageZ) (most := rr) (HL.out _ (mem_getDF pageZ hlt))
      have hst : chunkS t nu (l.drop k) rr ss = if pageB t nu (l.getD k pageZ) rr then chunkS t nu (l.drop (k + 1)) (rr - (l.getD k pageZ).2.1) (ss + (l.getD k pageZ).1) else (0, false) := by rw [hd]; rfl
      rw [← H.out] at hst
      have hok := fun (e : pageB t nu (l.getD k pageZ) rr = true) => (pageB_most.1 e).1
      clear hd H hb
      dsimp only at RP
      generalize pageB t nu (l.getD k pageZ) rr = R at *
      generalize l.getD k pageZ = p at *
      obtain ⟨sz, rw, nn, bb, ⟨p1, p2, p3, p4, p5⟩, ⟨q1, q2, q3, q4, q5⟩⟩ := p
      dsimp only at hst hok d0 d1 d2 d3 d4 d5 d6 d7 d8 d9 d10 d11 d12 d13
      have RP : Hid (∀ W, Calls Try.prog 58 #[.agg #[.string (bstr nm), .int .i64 t, .bool nu], .agg #[.int .i64 sz, .int .i64 rw, .int .i64 nn, .bool bb, .bool p1, .int .i64 p2, .string (bstr p3), .int .i64 p4, .int .i64 p5, .bool q1, .int .i64 q2, .string (bstr q3), .int .i64 q4, .int .i64 q5], .int .i64 rr] W (NewPost (.bool R) W)) := Lib.hid RP
      have ha : New wr (wr.alloc (.cells #[.int .i64 sz, .int .i64 rw, .int .i64 nn, .bool bb, .bool p1, .int .i64 p2, .string (bstr p3), .int .i64 p4, .int .i64 p5, .bool q1, .int .i64 q2, .string (bstr q3), .int .i64 q4, .int .i64 q5] 57)) := (Below.refl _ _).alloc (Nat.le_refl _) _
      have BP := Blk.new wr 57 #[.int .i64 sz, .int .i64 rw, .int .i64 nn, .bool bb, .bool p1, .int .i64 p2, .string (bstr p3), .int .i64 p4, .int .i64 p5, .bool q1, .int .i64 q2, .string (bstr q3), .int .i64 q4, .int .i64 q5]
      have B1 := B.below ha B.lt
      have b1 := New.trans b ha
      obtain ⟨y0, y1, y2⟩ := ccells B1
      obtain ⟨e0, e1, e2, e3, e4, e5, e6, e7, e8, e9, e10, e11, e12, e13⟩ := cells14 BP
      have HST := Lib.hid hst
      clear hst B ha
      go_wp2_with fail
      refine (RP.out _).mono ?_
      rintro e w2 ⟨rfl, b2⟩
      have B2 := B1.below b2 B1.lt
      have BP2 := BP.below b2 BP.lt
      have b02 := New.trans b1 b2
      clear RP B1 BP b2 b1 y0 y1 y2 d0 d1 d2 d3 d4 d5 d6 d7 d8 d9 d10 d11 d12 d13 e0 e1 e2 e3 e4 e5 e6 e7 e8 e9 e10 e11 e12 e13
      obtain ⟨e0, e1, e2, e3, e4, e5, e6, e7, e8, e9, e10, e11, e12, e13⟩ := cells14 BP2
      cases R with
      | false =>
        go_wp2_with fail
        go_ret2
        have hX := HST.out
        rw [if_neg (by simp)] at hX
        rw [hX]
        exact ⟨rfl, b02⟩
      | true =>
        have hX := HST.out
        rw [if_pos rfl] at hX
        have HX := Lib.hid hX
        have hok := hok rfl
        clear hX HST
        go_wp2_with fail
        go_roundw
        case rel => exact ⟨k + 1, rr - rw, ss + sz, by omega, by go_num, rfl, rfl, HX, by omega, by omega, B2, b02⟩
        case measure => simp [intOf]; omega
    · obtain rfl : k = l.length := by omega
      have hX := H.out
      rw [List.drop_length] at hX
      have HX := Lib.hid hX
      clear hX H
      go_wp2_with fail
      go_ret2
      rw [HX.out]
      exact ⟨rfl, b⟩

end Go.Proofs.Ythmjbdpkdomofaa
/- Opens a stat that came in. -/

namespace Go.Proofs.Ythmjbdpkdomofaa
open Go.RowKit Go.Hm Go.WideShapes Go.ChangeShapes Go.Deep
theorem CellFine.data {c : CellS} (h : CellFine c) : cellData c := ⟨h.1, h.2.1⟩

section
variable {H : Type} {enc : TypeId × Value → H} {W : World} {base : Nat} {v : Value} {d : DataW H} {ps : List MemPlace}
set_option maxRecDepth 100000 in
theorem held_stat {cs : List Value} (h : Held enc Try.prog W 55 cs) : ∃ s : StatS, cs = statV s ∧ (CellFine s.2.2.1 ∧ CellFine s.2.2.2) ∧ -9223372036854775808 ≤ s.1 ∧ s.1 ≤ 9223372036854775807 := by
  have ht : Try.prog.underlying 55 = some (.struct (fieldsOf Try.prog 55)) := by kernel_rfl
  have hl := h.partLen ht (n := 12) (by kernel_rfl)
  have p0 := h.part ht 0 0 1 (ft := 3) (by kernel_rfl) (by kernel_rfl)
  have p1 := h.part ht 1 1 1 (ft := 4) (by kernel_rfl) (by kernel_rfl)
  have p2 := h.part ht 2 2 5 (ft := 53) (by kernel_rfl) (by kernel_rfl)
  have p3 := h.part ht 3 7 5 (ft := 53) (by kernel_rfl) (by kernel_rfl)
  obtain ⟨n, e0, n1, n2⟩ := p0.i64 (by kernel_rfl)
  obtain ⟨b, e1⟩ := p1.bool (by kernel_rfl)
  obtain ⟨p, e2, hp⟩ := held_cell p2
  obtain ⟨q, e3, hq⟩ := held_cell p3
  clear p0 p1 p2 p3 h
  match cs, hl with
  | [a0, a1, a2, a3, a4, a5, a6, a7, a8, a9, a10, a11], _ =>
    refine ⟨(n, b, p, q), ?_, ⟨hp, hq⟩, n1, n2⟩
    simp only [List.drop_succ_cons, List.drop_zero, List.take_succ_cons, List.take_zero, List.cons.injEq, and_true] at e0 e1 e2 e3
    show _ = [Value.int .i64 n, .bool b] ++ cellV p ++ cellV q
    rw [← e2, ← e3, e0, e1]
    rfl
set_option maxRecDepth 100000 in
theorem open_St (hval : Value.okWide Try.prog W .any base 55 v) (h : DataW.Trod enc Try.prog W 0 (fun _ => true) true 55 v d ps) (hlt : ∀ p ∈ ps, p.block < W.heap.size) (hw : ∀ n ∈ d.weights Try.prog 55, n ≤ reachBytes) :
    ∃ s : StatS, v = statA s ∧ (CellFine s.2.2.1 ∧ CellFine s.2.2.2) ∧ -9223372036854775808 ≤ s.1 ∧ s.1 ≤ 9223372036854775807 := by
  have ht : Try.prog.underlying 55 = some (.struct (fieldsOf Try.prog 55)) := by kernel_rfl
  obtain ⟨⟨cs⟩, rfl, hsz⟩ := okWide_struct ht hval
  have hh := Held.of h hlt hw
  simp only [Value.cells] at hh
  obtain ⟨s, rfl, hs⟩ := held_stat hh
  exact ⟨s, rfl, hs⟩
end

end Go.Proofs.Ythmjbdpkdomofaa
/- Columns opened. -/
set_option maxRecDepth 100000

namespace Go.Proofs.Ythmjbdpkdomofaa
open Go.RowKit Go.Hm Go.WideShapes Go.ChangeShapes

section
variable {H : Type} {enc : TypeId × Value → H} {W : World} {base : Nat} {v : Value} {d : DataW H} {ps : List MemPlace}
theorem open_Cols (hval : Value.okWide Try.prog W .any base 22 v) (h : DataW.Trod enc Try.prog W 0 (fun _ => true) true 22 v d ps) (hlt : ∀ p ∈ ps, p.block < W.heap.size) (hw : ∀ n ∈ d.weights Try.prog 22, n ≤ reachBytes) :
    ∃ A c, ∃ l : List ColS, v = .slice A l.length c ∧ l.length ≤ c ∧ c * 32 ≤ 140737488351232 ∧ Reads W W.heap.size 3 A l.length (recs colV l) ∧ ∀ x ∈ l, (∀ z ∈ x.1, z < 256) ∧ x.1.length ≤ 140737488351232 ∧ -9223372036854775808 ≤ x.2.1 ∧ x.2.1 ≤ 9223372036854775807 := by
  have ht : Try.prog.underlying 22 = some (.slice 61) := by kernel_rfl
  obtain ⟨a0, len, cap, rfl⟩ := okWide_slice ht hval
  have he : Try.prog.underlying 61 = some (.struct (fieldsOf Try.prog 61)) := by kernel_rfl
  obtain ⟨A, c, l, h1, h2, _, h4, h5, h6⟩ := (Held.of h hlt hw).recs (f := colV) (sz := 3) (by_ := 32) (Q := fun x => (∀ z ∈ x.1, z < 256) ∧ x.1.length ≤ 140737488351232 ∧ -9223372036854775808 ≤ x.2.1 ∧ x.2.1 ≤ 9223372036854775807) ([], 0, false) ht (by kernel_rfl) (by kernel_rfl) (fun _ => rfl) (by omega) (fun cs hh => by
    obtain ⟨x0, x1, x2, rfl⟩ := list3 (hh.partLen he (n := 3) (by kernel_rfl))
    have p0 := hh.part he 0 0 1 (ft := 9) (by kernel_rfl) (by kernel_rfl)
    have p1 := hh.part he 1 1 1 (ft := 3) (by kernel_rfl) (by kernel_rfl)
    have p2 := hh.part he 2 2 1 (ft := 4) (by kernel_rfl) (by kernel_rfl)
    obtain ⟨nm, e1, e2, e3⟩ := p0.string (by kernel_rfl)
    obtain ⟨ty, e4, e5, e6⟩ := p1.i64 (by kernel_rfl)
    obtain ⟨nu, e7⟩ := p2.bool (by kernel_rfl)
    simp only [List.drop_succ_cons, List.drop_zero, List.take_succ_cons, List.take_zero, List.cons.injEq, and_true] at e1 e4 e7
    subst e1 e4 e7
    exact ⟨(nm, ty, nu), rfl, e2, e3, e5, e6⟩)
  refine ⟨A, c, l, ?_, h2, by unfold reachBytes at h4; omega, h5, h6⟩
  simpa [Value.cells] using h1
end

end Go.Proofs.Ythmjbdpkdomofaa
