/- SHA-256 by the model's own operations, as plain functions. No program is named here. -/
import Derived.Test.YtglghnnmfplmdaaDoorTouch
import Derived.Test.YtglghnnmfplmdaaDoorBits

namespace Go.Hm
open Go Go.RowKit
/-- A word of 32 bits. -/
def U32 (x : Int) : Prop := 0 ≤ x ∧ x < 4294967296
/-- A word, turned to the right. -/
def rot (x : Int) (n : Nat) : Int := (x / 2 ^ n + x * 2 ^ (32 - n) % 4294967296) % 4294967296
theorem rot_U (x : Int) (n : Nat) : U32 (rot x n) := by unfold rot U32; omega
theorem two_pow32 {n : Nat} (hn : n ≤ 32) : 2 ^ n * 2 ^ (32 - n) = 4294967296 := by
  rw [← Nat.pow_add, show n + (32 - n) = 32 by omega]
theorem or_rot {x : Int} {n : Nat} (hx : U32 x) (h2 : n ≤ 31) : bits .or .u32 (x / 2 ^ n) (x * 2 ^ (32 - n) % 4294967296) = rot x n := by
  obtain ⟨h0, h3⟩ := hx
  obtain ⟨X, rfl⟩ := Int.eq_ofNat_of_zero_le h0
  have hX : X < 4294967296 := by omega
  have hp := two_pow32 (show n ≤ 32 by omega)
  have hm : X * 2 ^ (32 - n) % 4294967296 = (X % 2 ^ n) * 2 ^ (32 - n) := by rw [← hp, Nat.mul_mod_mul_right]
  have hd : X / 2 ^ n < 2 ^ (32 - n) := Nat.div_lt_of_lt_mul (by rw [hp]; exact hX)
  have hp1 := Nat.two_pow_pos n
  have hr : X % 2 ^ n < 2 ^ n := Nat.mod_lt _ hp1
  have hs : X / 2 ^ n + (X % 2 ^ n) * 2 ^ (32 - n) < 4294967296 := by
    have h4 : (X % 2 ^ n + 1) * 2 ^ (32 - n) ≤ 2 ^ n * 2 ^ (32 - n) := Nat.mul_le_mul_right _ hr
    rw [hp, Nat.succ_mul] at h4
    omega
  have e1 : ((X : Int) / 2 ^ n) = ((X / 2 ^ n : Nat) : Int) := by simp
  have e2 : ((X : Int) * 2 ^ (32 - n) % 4294967296) = ((X * 2 ^ (32 - n) % 4294967296 : Nat) : Int) := by simp
  unfold rot
  rw [e1, e2, hm, u32_or_nat _ _ (by generalize X % 2 ^ n * 2 ^ (32 - n) = b at *; omega) (by generalize X / 2 ^ n = a at *; omega), Nat.or_comm, or_shl _ _ _ hd]
  clear e1 e2 hm hd hr hp
  generalize X / 2 ^ n = a at *
  generalize X % 2 ^ n * 2 ^ (32 - n) = b at *
  omega
/-- Four bytes as a word. -/
def wordI (a b c d : Nat) : Int := (((a * 256 + b) * 256 + c) * 256 + d : Nat)
theorem wordI_U {a b c d : Nat} (ha : a < 256) (hb : b < 256) (hc : c < 256) (hd : d < 256) : U32 (wordI a b c d) := by unfold wordI U32; omega
theorem or_word {a b c d : Nat} (ha : a < 256) (hb : b < 256) (hc : c < 256) (hd : d < 256) :
    bits .or .u32 (bits .or .u32 (bits .or .u32 (IntKind.u32.wrap (IntKind.u32.wrap (a : Int) * 16777216)) (IntKind.u32.wrap (IntKind.u32.wrap (b : Int) * 65536))) (IntKind.u32.wrap (IntKind.u32.wrap (c : Int) * 256))) (IntKind.u32.wrap (d : Int)) = wordI a b c d := by
  have e1 : IntKind.u32.wrap (IntKind.u32.wrap (a : Int) * 16777216) = ((a * 16777216 : Nat) : Int) := by rw [IntKind.wrap_u32', IntKind.wrap_u32']; omega
  have e2 : IntKind.u32.wrap (IntKind.u32.wrap (b : Int) * 65536) = ((b * 65536 : Nat) : Int) := by rw [IntKind.wrap_u32', IntKind.wrap_u32']; omega
  have e3 : IntKind.u32.wrap (IntKind.u32.wrap (c : Int) * 256) = ((c * 256 : Nat) : Int) := by rw [IntKind.wrap_u32', IntKind.wrap_u32']; omega
  have e4 : IntKind.u32.wrap (d : Int) = ((d : Nat) : Int) := by rw [IntKind.wrap_u32']; omega
  have p24 : (2 : Nat) ^ 24 = 16777216 := by decide
  have p16 : (2 : Nat) ^ 16 = 65536 := by decide
  have p8 : (2 : Nat) ^ 8 = 256 := by decide
  have o1 : a * 16777216 ||| b * 65536 = (a * 256 + b) * 65536 := by
    rw [← p24, or_shl a (b * 65536) 24 (by rw [p24]; omega), p24, Nat.add_mul, Nat.mul_assoc]
  have o2 : (a * 256 + b) * 65536 ||| c * 256 = ((a * 256 + b) * 256 + c) * 256 := by
    rw [← p16, or_shl (a * 256 + b) (c * 256) 16 (by rw [p16]; omega), p16, Nat.add_mul ((a * 256 + b) * 256), Nat.mul_assoc]
  have o3 : ((a * 256 + b) * 256 + c) * 256 ||| d = ((a * 256 + b) * 256 + c) * 256 + d := by
    have := or_shl ((a * 256 + b) * 256 + c) d 8 (by rw [p8]; exact hd)
    rwa [p8] at this
  rw [e1, e2, e3, e4, u32_or_nat _ _ (by omega) (by omega), o1, u32_or_nat _ _ (by omega) (by omega), o2, u32_or_nat _ _ (by omega) (by omega), o3]
  rfl
/-- The first sixteen words of a block. -/
def wordsI (B : List Nat) : List Int := (List.range 16).map fun k => wordI (B.getD (4 * k) 0) (B.getD (4 * k + 1) 0) (B.getD (4 * k + 2) 0) (B.getD (4 * k + 3) 0)
/-- The word behind those that are there. -/
def nextW (l : List Int) : Int :=
  IntKind.u32.wrap (IntKind.u32.wrap (IntKind.u32.wrap (l.getD (l.length - 16) 0 + bits .xor .u32 (bits .xor .u32 (rot (l.getD (l.length - 15) 0) 7) (rot (l.getD (l.length - 15) 0) 18)) (l.getD (l.length - 15) 0 / 8)) + l.getD (l.length - 7) 0)
    + bits .xor .u32 (bits .xor .u32 (rot (l.getD (l.length - 2) 0) 17) (rot (l.getD (l.length - 2) 0) 19)) (l.getD (l.length - 2) 0 / 1024))
def schedN (B : List Nat) : Nat → List Int
  | 0 => wordsI B
  | j + 1 => schedN B j ++ [nextW (schedN B j)]
/-- All words of a block. -/
def schedI (B : List Nat) : List Int := schedN B 48
theorem schedN_len (B : List Nat) (j : Nat) : (schedN B j).length = 16 + j := by
  induction j with
  | zero => simp [schedN, wordsI]
  | succ j ih => simp [schedN, ih]; omega
theorem wrap_U (x : Int) : U32 (IntKind.u32.wrap x) := by rw [IntKind.wrap_u32']; unfold U32; omega
theorem schedN_U (B : List Nat) (h8 : ∀ x ∈ B, x < 256) (j : Nat) : ∀ x ∈ schedN B j, U32 x := by
  induction j with
  | zero =>
    intro x hx
    simp only [schedN, wordsI, List.mem_map] at hx
    obtain ⟨k, _, rfl⟩ := hx
    exact wordI_U (getD_lt B _ h8) (getD_lt B _ h8) (getD_lt B _ h8) (getD_lt B _ h8)
  | succ j ih =>
    intro x hx
    simp only [schedN, List.mem_append, List.mem_singleton] at hx
    rcases hx with hx | rfl
    · exact ih x hx
    · exact wrap_U _
theorem getD_U {l : List Int} {k : Nat} (h : ∀ x ∈ l, U32 x) : U32 (l.getD k 0) := by
  by_cases hk : k < l.length
  · rw [List.getD_eq_getElem?_getD, List.getElem?_eq_getElem hk]
    exact h _ (List.getElem_mem hk)
  · rw [List.getD_eq_getElem?_getD, List.getElem?_eq_none (by omega)]
    simp [U32]
/-- So many of a row, the others being 0. -/
def padI (l : List Int) : List Int := l ++ List.replicate (64 - l.length) 0
theorem padI_len {l : List Int} (h : l.length ≤ 64) : (padI l).length = 64 := by simp [padI]; omega
theorem padI_set {l : List Int} (h : l.length < 64) (x : Int) : (padI l).set l.length x = padI (l ++ [x]) := by
  unfold padI
  rw [List.set_append_right _ _ (Nat.le_refl _), Nat.sub_self, show 64 - l.length = (64 - (l ++ [x]).length) + 1 by simp; omega, List.replicate_succ, List.set_cons_zero]
  simp
theorem padI_get {l : List Int} {k : Nat} (h : k < l.length) : (padI l).getD k 0 = l.getD k 0 := by
  unfold padI
  rw [List.getD_eq_getElem?_getD, List.getElem?_append_left h, ← List.getD_eq_getElem?_getD]
theorem padI_full {l : List Int} (h : l.length = 64) : padI l = l := by simp [padI, h]
theorem wordsI_take {B : List Nat} {k : Nat} (h : k < 16) : (wordsI B).take (k + 1) = (wordsI B).take k ++ [wordI (B.getD (4 * k) 0) (B.getD (4 * k + 1) 0) (B.getD (4 * k + 2) 0) (B.getD (4 * k + 3) 0)] := by
  have hl : (wordsI B).length = 16 := by simp [wordsI]
  rw [take_snoc _ k 0 (by omega)]
  congr 1
  simp [wordsI, h]
/-- A state: eight words. -/
abbrev S8 := Int × Int × Int × Int × Int × Int × Int × Int
def cellsS (s : S8) : Array Value := #[.int .u32 s.1, .int .u32 s.2.1, .int .u32 s.2.2.1, .int .u32 s.2.2.2.1, .int .u32 s.2.2.2.2.1, .int .u32 s.2.2.2.2.2.1, .int .u32 s.2.2.2.2.2.2.1, .int .u32 s.2.2.2.2.2.2.2]
def pI (e f g i k w : Int) : Int :=
  IntKind.u32.wrap (IntKind.u32.wrap (IntKind.u32.wrap (IntKind.u32.wrap (i + bits .xor .u32 (bits .xor .u32 (rot e 6) (rot e 11)) (rot e 25)) + bits .xor .u32 (bits .and .u32 e f) (bits .and .u32 (bits .xor .u32 (if IntKind.u32.signed = true then -1 else IntKind.u32.max) e) g)) + k) + w)
def qI (a b c : Int) : Int := (bits .xor .u32 (bits .xor .u32 (rot a 2) (rot a 13)) (rot a 22) + bits .xor .u32 (bits .xor .u32 (bits .and .u32 a b) (bits .and .u32 a c)) (bits .and .u32 b c)) % 4294967296
def stepS (k w : Int) (s : S8) : S8 :=
  match s with
  | (a, b, c, d, e, f, g, i) => ((pI e f g i k w + qI a b c) % 4294967296, a, b, c, (d + pI e f g i k w) % 4294967296, e, f, g)
/-- K0 to K63. -/
def kI : List Int := [1116352408, 1899447441, 3049323471, 3921009573, 961987163, 1508970993, 2453635748, 2870763221, 3624381080, 310598401, 607225278, 1426881987, 1925078388, 2162078206, 2614888103, 3248222580, 3835390401, 4022224774, 264347078, 604807628, 770255983, 1249150122, 1555081692, 1996064986, 2554220882, 2821834349, 2952996808, 3210313671, 3336571891, 3584528711, 113926993, 338241895, 666307205, 773529912, 1294757372, 1396182291, 1695183700, 1986661051, 2177026350, 2456956037, 2730485921, 2820302411, 3259730800, 3345764771, 3516065817, 3600352804, 4094571909, 275423344, 430227734, 506948616, 659060556, 883997877, 958139571, 1322822218, 1537002063, 1747873779, 1955562222, 2024104815, 2227730452, 2361852424, 2428436474, 2756734187, 3204031479, 3329325298]
def roundS (W : List Int) (s : S8) : Nat → S8
  | 0 => s
  | t + 1 => stepS (kI.getD t 0) (W.getD t 0) (roundS W s t)
def addS (s r : S8) : S8 := ((s.1 + r.1) % 4294967296, (s.2.1 + r.2.1) % 4294967296, (s.2.2.1 + r.2.2.1) % 4294967296, (s.2.2.2.1 + r.2.2.2.1) % 4294967296, (s.2.2.2.2.1 + r.2.2.2.2.1) % 4294967296, (s.2.2.2.2.2.1 + r.2.2.2.2.2.1) % 4294967296, (s.2.2.2.2.2.2.1 + r.2.2.2.2.2.2.1) % 4294967296, (s.2.2.2.2.2.2.2 + r.2.2.2.2.2.2.2) % 4294967296)
/-- The state behind a block. -/
def compS (s : S8) (B : List Nat) : S8 := addS s (roundS (schedI B) s 64)
/-- All words are such. -/
def OkS (s : S8) : Prop := U32 s.1 ∧ U32 s.2.1 ∧ U32 s.2.2.1 ∧ U32 s.2.2.2.1 ∧ U32 s.2.2.2.2.1 ∧ U32 s.2.2.2.2.2.1 ∧ U32 s.2.2.2.2.2.2.1 ∧ U32 s.2.2.2.2.2.2.2
theorem mod_U (x : Int) : U32 (x % 4294967296) := by unfold U32; omega
theorem compS_ok (s : S8) (B : List Nat) : OkS (compS s B) := ⟨mod_U _, mod_U _, mod_U _, mod_U _, mod_U _, mod_U _, mod_U _, mod_U _⟩
theorem roundS_ok {W : List Int} {s : S8} (h : OkS s) (t : Nat) : OkS (roundS W s t) := by
  induction t with
  | zero => exact h
  | succ t ih =>
    obtain ⟨h1, h2, h3, h4, h5, h6, h7, h8⟩ := ih
    exact ⟨mod_U _, h1, h2, h3, mod_U _, h5, h6, h7⟩
theorem schedI_U (B : List Nat) (h8 : ∀ x ∈ B, x < 256) : ∀ x ∈ schedI B, U32 x := schedN_U B h8 48
theorem schedI_len (B : List Nat) : (schedI B).length = 64 := schedN_len B 48
def firstS : S8 := (1779033703, 3144134277, 1013904242, 2773480762, 1359893119, 2600822924, 528734635, 1541459225)
theorem firstS_ok : OkS firstS := by unfold OkS firstS U32; simp
/-- How many bytes 0 stand behind the first byte. -/
def zerosN (n : Nat) : Nat := 63 - (n + 8) % 64
/-- A byte of the number of bits. -/
def bitB (n k : Nat) : Nat := 8 * n / 2 ^ (56 - 8 * k) % 256
def bitsB (n : Nat) : List Nat := (List.range 8).map (bitB n)
def padL (n : Nat) : List Nat := 128 :: (List.replicate (zerosN n) 0 ++ bitsB n)
theorem padL_len (n : Nat) : (padL n).length = 1 + zerosN n + 8 := by simp [padL, bitsB]; omega
theorem padL_lt (n : Nat) : ∀ x ∈ padL n, x < 256 := by
  intro x hx
  simp only [padL, List.mem_cons, List.mem_append, List.mem_replicate, bitsB, List.mem_map] at hx
  rcases hx with rfl | ⟨_, rfl⟩ | ⟨k, _, rfl⟩
  · omega
  · omega
  · unfold bitB; omega
theorem padL_mod (n : Nat) : (n + (padL n).length) % 64 = 0 := by rw [padL_len]; unfold zerosN; omega
/-- What stands behind a message of n bytes, if there may be one. -/
def padO (n : Int) : List Nat := if 0 ≤ n ∧ n ≤ 2147483647 then padL n.toNat else []

end Go.Hm
