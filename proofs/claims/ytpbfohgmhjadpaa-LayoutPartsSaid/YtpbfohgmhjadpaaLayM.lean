/- Spans of rows, as plain lists, and what is over rows. No program is named here. -/
import Derived.Test.YtpbfohgmhjadpaaSpec
import Derived.Test.YtpbfohgmhjadpaaPairs

namespace Go.Hm

def spanN (f t s : Nat) : Nat := (t - f + s - 1) / s
def spanAt (f t s i : Nat) : Int × Int := (((f + i * s : Nat) : Int), ((min (f + (i + 1) * s) t : Nat) : Int))
def spansN (f t s : Nat) : List (Int × Int) := (List.range (spanN f t s)).map (spanAt f t s)
theorem spanN_lt {f t s : Nat} (hs : 0 < s) (k : Nat) : k < spanN f t s ↔ f + k * s < t := by
  unfold spanN
  rw [← Nat.succ_le_iff, Nat.le_div_iff_mul_le hs, Nat.succ_mul]
  omega
theorem spanN_le {f t s : Nat} (hs : 0 < s) : spanN f t s ≤ t - f := by
  rcases Nat.eq_zero_or_pos (spanN f t s) with h | h
  · omega
  · have := (spanN_lt (f := f) (t := t) hs (spanN f t s - 1)).1 (by omega)
    have : spanN f t s - 1 ≤ (spanN f t s - 1) * s := Nat.le_mul_of_pos_right _ hs
    omega
theorem spansN_len (f t s : Nat) : (spansN f t s).length = spanN f t s := by simp [spansN]
theorem spansN_at {f t s i : Nat} (hi : i < spanN f t s) : (spansN f t s).getD i (0, 0) = spanAt f t s i := by
  simp [spansN, List.getD_eq_getElem?_getD, List.getElem?_map, List.getElem?_range hi]
theorem spansN_take {f t s k : Nat} (hk : k < spanN f t s) : (spansN f t s).take (k + 1) = (spansN f t s).take k ++ [spanAt f t s k] := by
  rw [take_snoc _ k (0, 0) (by rw [spansN_len]; exact hk), spansN_at hk]
/-- How many rows are behind k spans. -/
def atN (f t s k : Nat) : Nat := min (f + k * s) t
theorem atN_next {f t s k : Nat} (hk : f + k * s < t) : atN f t s k = f + k * s ∧ atN f t s (k + 1) = atN f t s k + min s (t - atN f t s k) ∧ spanAt f t s k = ((atN f t s k : Int), (atN f t s (k + 1) : Int)) := by
  have h1 : atN f t s k = f + k * s := by unfold atN; omega
  refine ⟨h1, ?_, ?_⟩
  · rw [h1]; unfold atN; rw [Nat.succ_mul]; omega
  · rw [h1]; rfl

def cutS (f t s : Int) : List (Int × Int) := if f < 0 ∨ t ≤ f ∨ 65536 < t ∨ s < 1 then [] else spansN f.toNat t.toNat s.toNat
theorem cutS_none {f t s : Int} (h : f < 0 ∨ t ≤ f ∨ 65536 < t ∨ s < 1) : cutS f t s = [] := by rw [cutS, if_pos h]
theorem cutS_nat {f t s : Nat} (h1 : f < t) (h2 : t ≤ 65536) (h3 : 0 < s) : cutS f t s = spansN f t s := by
  rw [cutS, if_neg (by omega)]; simp
theorem cutS_len (f t s : Int) : (cutS f t s).length ≤ 65536 := by
  unfold cutS
  split
  · simp
  · rw [spansN_len]
    have := spanN_le (f := f.toNat) (t := t.toNat) (s := s.toNat) (by omega)
    omega

/-- A span has rows from f on, ahead of t. -/
def hasS (x : Int × Int) (f t : Int) : Prop := x.1 < t ∧ f < x.2 ∧ f < t
instance (x : Int × Int) (f t : Int) : Decidable (hasS x f t) := by unfold hasS; exact inferInstance
/-- Just the spans from a on, ahead of b, have rows of these. -/
def IsOver (l : List (Int × Int)) (f t : Int) (a b : Nat) : Prop := a ≤ b ∧ b ≤ l.length ∧ (a < b ∨ a = 0 ∧ b = 0) ∧ ∀ i, i < l.length → ((a ≤ i ∧ i < b) ↔ hasS (l.getD i (0, 0)) f t)
theorem IsOver.one {l : List (Int × Int)} {f t : Int} {a b c d : Nat} (h : IsOver l f t a b) (k : IsOver l f t c d) : a = c ∧ b = d := by
  obtain ⟨h1, h2, h3, h4⟩ := h
  obtain ⟨k1, k2, k3, k4⟩ := k
  have key : ∀ i, i < l.length → ((a ≤ i ∧ i < b) ↔ (c ≤ i ∧ i < d)) := fun i hi => (h4 i hi).trans (k4 i hi).symm
  rcases h3 with h3 | ⟨rfl, rfl⟩
  · have := (key a (by omega)).1 ⟨Nat.le_refl _, h3⟩
    have := (key (b - 1) (by omega)).1 (by omega)
    have := (key c (by omega)).2 (by omega)
    have := (key (d - 1) (by omega)).2 (by omega)
    omega
  · rcases k3 with k3 | ⟨rfl, rfl⟩
    · have := (key c (by omega)).2 (by omega)
      omega
    · exact ⟨rfl, rfl⟩
/-- Both ends of the spans go up, and no span is empty. -/
def UpS (l : List (Int × Int)) : Prop := (∀ i j, i ≤ j → j < l.length → (l.getD i (0, 0)).1 ≤ (l.getD j (0, 0)).1 ∧ (l.getD i (0, 0)).2 ≤ (l.getD j (0, 0)).2) ∧ ∀ i, i < l.length → (l.getD i (0, 0)).1 < (l.getD i (0, 0)).2
theorem spansN_up {f t s : Nat} (hs : 0 < s) : UpS (spansN f t s) := by
  refine ⟨fun i j hij hj => ?_, fun i hi => ?_⟩
  · rw [spansN_len] at hj
    rw [spansN_at hj, spansN_at (by omega)]
    have h1 : i * s ≤ j * s := Nat.mul_le_mul_right _ hij
    have h2 : (i + 1) * s ≤ (j + 1) * s := Nat.mul_le_mul_right _ (by omega)
    unfold spanAt
    simp only
    omega
  · rw [spansN_len] at hi
    rw [spansN_at hi]
    have := (spanN_lt hs i).1 hi
    unfold spanAt
    simp only
    rw [Nat.succ_mul]
    omega
theorem cutS_up (f t s : Int) : UpS (cutS f t s) := by
  unfold cutS
  split
  · exact ⟨fun i j _ h => by simp at h, fun i h => by simp at h⟩
  · exact spansN_up (by omega)
theorem over_of {l : List (Int × Int)} {f t : Int} {x y : Nat} (hft : f < t) (hy : y ≤ l.length) (hxy : x < y)
    (h1 : ∀ i, i < x → (l.getD i (0, 0)).2 ≤ f) (h2 : ∀ i, x ≤ i → i < l.length → f < (l.getD i (0, 0)).2) (h3 : ∀ i, i < y → (l.getD i (0, 0)).1 < t) (h4 : ∀ i, y ≤ i → i < l.length → t ≤ (l.getD i (0, 0)).1) : IsOver l f t x y := by
  refine ⟨by omega, hy, .inl hxy, fun i hi => ?_⟩
  unfold hasS
  have a1 := h1 i
  have a2 := h2 i
  have a3 := h3 i
  have a4 := h4 i
  constructor
  · rintro ⟨b1, b2⟩
    exact ⟨a3 b2, a2 b1 hi, hft⟩
  · rintro ⟨b1, b2, _⟩
    refine ⟨?_, ?_⟩
    · rcases Nat.lt_or_ge i x with h | h
      · have := a1 h; omega
      · exact h
    · rcases Nat.lt_or_ge i y with h | h
      · exact h
      · have := a4 h hi; omega
theorem over_none {l : List (Int × Int)} {f t : Int} (h : ∀ i, i < l.length → ¬ hasS (l.getD i (0, 0)) f t) : IsOver l f t 0 0 :=
  ⟨Nat.le_refl _, by omega, .inr ⟨rfl, rfl⟩, fun i hi => ⟨fun h' => by omega, fun h' => absurd h' (h i hi)⟩⟩
theorem over_far {l : List (Int × Int)} {f t : Int} {x y : Nat} (hxy : y ≤ x) (h1 : ∀ i, i < x → (l.getD i (0, 0)).2 ≤ f) (h4 : ∀ i, y ≤ i → i < l.length → t ≤ (l.getD i (0, 0)).1) : IsOver l f t 0 0 := by
  refine over_none fun i hi hh => ?_
  obtain ⟨b1, b2, _⟩ := hh
  rcases Nat.lt_or_ge i x with h | h
  · have := h1 i h; omega
  · have := h4 i (by omega) hi; omega
/-- What has rows lies side by side. -/
theorem has_between {l : List (Int × Int)} (hu : UpS l) {f t : Int} {i j k : Nat} (hij : i ≤ j) (hjk : j ≤ k) (hk : k < l.length) (hi : hasS (l.getD i (0, 0)) f t) (h : hasS (l.getD k (0, 0)) f t) : hasS (l.getD j (0, 0)) f t := by
  have h1 := hu.1 j k hjk hk
  have h2 := hu.1 i j hij (by omega)
  unfold hasS at *
  omega

end Go.Hm
