/- Texts merged, for a claim has at most 60 files: TreM, TreF, PrfM, Shelf, TreS, TagF, TagA, TagB, TagS, TagP, TagQ. -/
import Derived.Lib.BitFns
import Derived.Shelf.Strconv.Itoa0
import Derived.Test.YtgfemjpeegbhhaaDoorBun1
import Derived.Test.YtgfemjpeegbhhaaDoorBun3
import Derived.Test.YtgfemjpeegbhhaaDoorProg
/- Trees of digests, over plain lists: what layer 21 says. No program is named here. -/

namespace Go.Hm
open Go Go.RowKit
/-- How many of n leaves are in the first half. -/
def splitN (n : Nat) : Nat := if n < 2 then 0 else 2 ^ (n - 1).log2
/-- How many nodes are at most above a leaf of n. -/
def depthN (n : Nat) : Nat := if n < 2 then 0 else (n - 1).log2 + 1
theorem splitN_pow {n : Nat} (h : 2 ≤ n) : splitN n = 2 ^ (n - 1).log2 ∧ 2 ^ (n - 1).log2 < n ∧ n ≤ 2 ^ ((n - 1).log2 + 1) := by
  have h1 := Nat.log2_self_le (n := n - 1) (by omega)
  have h2 := Nat.lt_log2_self (n := n - 1)
  refine ⟨by unfold splitN; rw [if_neg (by omega)], by omega, by omega⟩
theorem splitN_lt {n : Nat} (h : 2 ≤ n) : 1 ≤ splitN n ∧ splitN n < n ∧ n - splitN n ≤ splitN n := by
  obtain ⟨h1, h2, h3⟩ := splitN_pow h
  rw [h1]
  rw [Nat.pow_succ] at h3
  have := Nat.pow_pos (n := (n - 1).log2) (show 0 < 2 by omega)
  omega
theorem log2_is {x k : Nat} (h1 : 2 ^ k ≤ x) (h2 : x < 2 ^ (k + 1)) : x.log2 = k := by
  have hx : x ≠ 0 := by have := Nat.pow_pos (n := k) (show 0 < 2 by omega); omega
  have a1 := Nat.log2_self_le hx
  have a2 := Nat.lt_log2_self (n := x)
  have b1 : x.log2 < k + 1 := (Nat.pow_lt_pow_iff_right (by omega : 1 < 2)).1 (Nat.lt_of_le_of_lt a1 h2)
  have b2 : k < x.log2 + 1 := (Nat.pow_lt_pow_iff_right (by omega : 1 < 2)).1 (Nat.lt_of_le_of_lt h1 a2)
  omega
theorem splitN_is {n k : Nat} (h1 : 2 ^ k < n) (h2 : n ≤ 2 ^ (k + 1)) : splitN n = 2 ^ k ∧ depthN n = k + 1 := by
  have hk := Nat.pow_pos (n := k) (show 0 < 2 by omega)
  have hl := log2_is (x := n - 1) (k := k) (by omega) (by omega)
  unfold splitN depthN
  rw [if_neg (by omega), if_neg (by omega), hl]
  exact ⟨rfl, rfl⟩
theorem depthN_pow (k : Nat) : depthN (2 ^ k) = k := by
  cases k with
  | zero => rfl
  | succ k =>
    have hk := Nat.pow_pos (n := k) (show 0 < 2 by omega)
    exact (splitN_is (n := 2 ^ (k + 1)) (k := k) (by rw [Nat.pow_succ]; omega) (Nat.le_refl _)).2
theorem depthN_step {n : Nat} (h : 2 ≤ n) : depthN n = 1 + depthN (splitN n) := by
  obtain ⟨h1, h2, h3⟩ := splitN_pow h
  rw [h1, depthN_pow, (splitN_is h2 h3).2]
  omega
theorem depthN_mono {m n : Nat} (h : m ≤ n) : depthN m ≤ depthN n := by
  by_cases hm : m < 2
  · unfold depthN
    rw [if_pos hm]
    omega
  · obtain ⟨_, a2, a3⟩ := splitN_pow (n := m) (by omega)
    obtain ⟨_, b2, b3⟩ := splitN_pow (n := n) (by omega)
    rw [(splitN_is a2 a3).2, (splitN_is b2 b3).2]
    have : 2 ^ (m - 1).log2 < 2 ^ ((n - 1).log2 + 1) := by omega
    have := (Nat.pow_lt_pow_iff_right (by omega : 1 < 2)).1 this
    omega
abbrev nodeTag : List Nat := [110, 111, 100, 101]
abbrev noneTag : List Nat := [110, 111, 110, 101]
/-- A digest's bytes. -/
def hashN (s : List Nat) (L : List (List Nat)) : List Nat := (hashO s L).map Int.toNat
/-- Is it a digest? -/
def DigN (d : List Nat) : Prop := d.length = 32 ∧ ∀ x ∈ d, x < 256
theorem sumI_pos (l : List Nat) : ∀ x ∈ sumI l, 0 ≤ x ∧ x < 256 := by
  intro x hx
  unfold sumI digI at hx
  obtain ⟨k, _, rfl⟩ := List.mem_map.1 hx
  unfold digB
  omega
theorem hashO_pos (s : List Nat) (L : List (List Nat)) : ∀ x ∈ hashO s L, 0 ≤ x ∧ x < 256 := by
  unfold hashO
  cases frameO s L with
  | none =>
    intro x hx
    have : x = 0 := (List.mem_replicate.1 hx).2
    omega
  | some f => exact sumI_pos f
theorem toNat_cast {l : List Int} (h : ∀ x ∈ l, 0 ≤ x) : (l.map Int.toNat).map (fun n : Nat => (n : Int)) = l := by
  rw [List.map_map]
  conv => rhs; rw [← List.map_id l]
  exact List.map_congr_left fun x hx => by have := h x hx; simp; omega
theorem hashN_dig (s : List Nat) (L : List (List Nat)) : DigN (hashN s L) := by
  refine ⟨by unfold hashN; rw [List.length_map, hashO_len], fun x hx => ?_⟩
  obtain ⟨y, hy, rfl⟩ := List.mem_map.1 hx
  have := hashO_pos s L y hy
  omega
/-- A digest's cells. -/
theorem hashN_val (s : List Nat) (L : List (List Nat)) : nums .u8 (hashN s L) = ints .u8 (hashO s L) := by
  have := toNat_cast (l := hashO s L) fun x hx => (hashO_pos s L x hx).1
  unfold nums ints hashN
  conv => rhs; rw [← this]
  simp only [List.map_map]
  rfl
theorem hashN_inj {s t : List Nat} {L M : List (List Nat)} (h : hashN s L = hashN t M) : hashO s L = hashO t M := by
  have a := toNat_cast (l := hashO s L) fun x hx => (hashO_pos s L x hx).1
  have b := toNat_cast (l := hashO t M) fun x hx => (hashO_pos t M x hx).1
  unfold hashN at h
  rw [← a, h, b]
theorem frame_node {a b : List Nat} : frameO nodeTag [a, b] = some (frameL nodeTag [a, b]) := by unfold frameO; exact if_pos ⟨by decide, by decide, by simp⟩
theorem frame_none : frameO noneTag [] = some (frameL noneTag []) := by unfold frameO; exact if_pos ⟨by decide, by decide, by simp⟩
/-- The digest of all leaves, and the frames that are hashed for it. -/
def rootD (L : List (List Nat)) : List Nat × List (List Nat) :=
  if _h0 : L.length = 0 then (hashN noneTag [], [frameL noneTag []])
  else if _h1 : L.length = 1 then (L.getD 0 [], [])
  else
    let a := rootD (L.take (splitN L.length))
    let b := rootD (L.drop (splitN L.length))
    (hashN nodeTag [a.1, b.1], a.2 ++ b.2 ++ [frameL nodeTag [a.1, b.1]])
termination_by L.length
decreasing_by
  · have := splitN_lt (n := L.length) (by omega)
    rw [List.length_take]
    omega
  · have := splitN_lt (n := L.length) (by omega)
    rw [List.length_drop]
    omega
theorem rootD_nil : rootD [] = (hashN noneTag [], [frameL noneTag []]) := by rw [rootD]; rfl
theorem rootD_one (x : List Nat) : rootD [x] = (x, []) := by rw [rootD]; rfl
theorem rootD_many {L : List (List Nat)} (h : 2 ≤ L.length) : rootD L = (hashN nodeTag [(rootD (L.take (splitN L.length))).1, (rootD (L.drop (splitN L.length))).1],
    (rootD (L.take (splitN L.length))).2 ++ (rootD (L.drop (splitN L.length))).2 ++ [frameL nodeTag [(rootD (L.take (splitN L.length))).1, (rootD (L.drop (splitN L.length))).1]]) := by
  rw [rootD, dif_neg (by omega), dif_neg (by omega)]
/-- By halves. -/
theorem halves {C : List (List Nat) → Prop} (h0 : C []) (h1 : ∀ x, C [x]) (h2 : ∀ L, 2 ≤ L.length → C (L.take (splitN L.length)) → C (L.drop (splitN L.length)) → C L) : ∀ L, C L := by
  intro L
  induction hn : L.length using Nat.strongRecOn generalizing L with
  | _ n ih =>
    match L, hn with
    | [], _ => exact h0
    | [x], _ => exact h1 x
    | x :: y :: r, hn =>
      have hs := splitN_lt (n := (x :: y :: r).length) (by simp)
      refine h2 _ (by simp) (ih _ ?_ _ rfl) (ih _ ?_ _ rfl)
      · rw [List.length_take]; omega
      · rw [List.length_drop]; omega
def Digs (L : List (List Nat)) : Prop := ∀ d ∈ L, DigN d
theorem Digs.take {L : List (List Nat)} (h : Digs L) (k : Nat) : Digs (L.take k) := fun d hd => h d (List.mem_of_mem_take hd)
theorem Digs.drop {L : List (List Nat)} (h : Digs L) (k : Nat) : Digs (L.drop k) := fun d hd => h d (List.mem_of_mem_drop hd)
theorem rootD_dig : ∀ L, Digs L → DigN (rootD L).1 := by
  refine halves ?_ ?_ ?_
  · intro _; rw [rootD_nil]; exact hashN_dig _ _
  · intro x h; rw [rootD_one]; exact h x (by simp)
  · intro L h _ _ _; rw [rootD_many h]; exact hashN_dig _ _
/-- What is hashed for a root of some leaves: nodes, one less than there are leaves. -/
theorem rootD_nodes : ∀ L, Digs L → 1 ≤ L.length → (rootD L).2.length = L.length - 1 ∧ ∀ f ∈ (rootD L).2, ∃ a b, DigN a ∧ DigN b ∧ frameO nodeTag [a, b] = some f := by
  refine halves ?_ ?_ ?_
  · intro _ h; simp at h
  · intro x h _; rw [rootD_one]; exact ⟨rfl, by simp⟩
  · intro L h i1 i2 hd _
    obtain ⟨s1, s2, s3⟩ := splitN_lt h
    obtain ⟨a1, a2⟩ := i1 (hd.take _) (by rw [List.length_take]; omega)
    obtain ⟨b1, b2⟩ := i2 (hd.drop _) (by rw [List.length_drop]; omega)
    rw [rootD_many h]
    refine ⟨?_, ?_⟩
    · simp only [List.length_append, a1, b1, List.length_take, List.length_drop, List.length_cons, List.length_nil]
      omega
    · intro f hf
      simp only [List.mem_append, List.mem_singleton] at hf
      rcases hf with (hf | hf) | rfl
      · exact a2 f hf
      · exact b2 f hf
      · exact ⟨_, _, rootD_dig _ (hd.take _), rootD_dig _ (hd.drop _), frame_node⟩
/-- A root tells all leaves, or two frames have one digest. -/
theorem rootD_tells : ∀ L, Digs L → ∀ M, Digs M → M.length = L.length → (rootD L).1 = (rootD M).1 → L ≠ M → ∃ x ∈ (rootD L).2, ∃ y ∈ (rootD M).2, x ≠ y ∧ sumI x = sumI y := by
  refine halves ?_ ?_ ?_
  · intro _ M _ hl _ hne
    exact absurd (List.eq_nil_of_length_eq_zero hl).symm hne
  · intro x _ M _ hl hr hne
    match M, hl with
    | [y], _ =>
      rw [rootD_one, rootD_one] at hr
      have hr : x = y := hr
      rw [hr] at hne
      exact absurd rfl hne
  · intro L h i1 i2 hd M hm hl hr hne
    obtain ⟨s1, s2, s3⟩ := splitN_lt h
    have hM : 2 ≤ M.length := by omega
    rw [rootD_many h, rootD_many hM] at hr ⊢
    rw [hl] at hr ⊢
    have hr := hashN_inj hr
    have d1 := rootD_dig _ (hd.take (splitN L.length))
    have d2 := rootD_dig _ (hd.drop (splitN L.length))
    have d3 := rootD_dig _ (hm.take (splitN L.length))
    have d4 := rootD_dig _ (hm.drop (splitN L.length))
    have i1 := i1 (hd.take _) (M.take (splitN L.length)) (hm.take _) (by rw [List.length_take, List.length_take, hl])
    have i2 := i2 (hd.drop _) (M.drop (splitN L.length)) (hm.drop _) (by rw [List.length_drop, List.length_drop, hl])
    have hs : sumI (frameL nodeTag [(rootD (L.take (splitN L.length))).1, (rootD (L.drop (splitN L.length))).1]) = sumI (frameL nodeTag [(rootD (M.take (splitN L.length))).1, (rootD (M.drop (splitN L.length))).1]) := by
      unfold hashO at hr
      rw [frame_node, frame_node] at hr
      exact hr
    by_cases hf : frameL nodeTag [(rootD (L.take (splitN L.length))).1, (rootD (L.drop (splitN L.length))).1] = frameL nodeTag [(rootD (M.take (splitN L.length))).1, (rootD (M.drop (splitN L.length))).1]
    · have ap := (frame_apart (L := [(rootD (L.take (splitN L.length))).1, (rootD (L.drop (splitN L.length))).1]) (M := [(rootD (M.take (splitN L.length))).1, (rootD (M.drop (splitN L.length))).1])
        (by intro p hp; simp at hp; rcases hp with rfl | rfl; rw [d1.1]; omega; rw [d2.1]; omega) (by intro p hp; simp at hp; rcases hp with rfl | rfl; rw [d3.1]; omega; rw [d4.1]; omega) frame_node frame_node).1 hf
      have e := ap.2
      simp only [List.cons.injEq, and_true] at e
      by_cases h1 : L.take (splitN L.length) = M.take (splitN L.length)
      · have h2 : L.drop (splitN L.length) ≠ M.drop (splitN L.length) := fun h2 => hne (by rw [← List.take_append_drop (splitN L.length) L, h1, h2, List.take_append_drop])
        obtain ⟨x, hx, y, hy, r⟩ := i2 e.2 h2
        exact ⟨x, by simp [hx], y, by simp [hy], r⟩
      · obtain ⟨x, hx, y, hy, r⟩ := i1 e.1 h1
        exact ⟨x, by simp [hx], y, by simp [hy], r⟩
    · exact ⟨_, by simp, _, by simp, hf, hs⟩
/-- If two unlike frames have one digest, two are told. -/
theorem extractO_some {A B : List (List Nat)} {x y : List Nat} (hx : x ∈ A) (hy : y ∈ B) (hne : x ≠ y) (hs : sumI x = sumI y) : ∃ z, extractO A B = some z := by
  cases he : extractO A B with
  | some z => exact ⟨z, rfl⟩
  | none =>
    unfold extractO at he
    rw [List.findSome?_eq_none_iff] at he
    have := he x hx
    rw [Option.map_eq_none_iff, List.find?_eq_none] at this
    exact absurd (decide_eq_true ⟨hne, hs⟩) (this y hy)

end Go.Hm
/- How many frames are hashed for a root. -/

namespace Go.Hm
open Go Go.RowKit
theorem rootD_flen {L : List (List Nat)} (h : Digs L) : (rootD L).2.length = if L.length = 0 then 1 else L.length - 1 := by
  by_cases h0 : L.length = 0
  · obtain rfl := List.eq_nil_of_length_eq_zero h0
    rw [rootD_nil]
    rfl
  · rw [if_neg h0]
    exact (rootD_nodes L h (by omega)).1
theorem rootD_few {L : List (List Nat)} (h : Digs L) : (rootD L).2.length ≤ L.length + 1 := by
  rw [rootD_flen h]
  split <;> omega

end Go.Hm
/- Some leaves of many, over plain lists: what layer 22 says. No program is named here. -/

namespace Go.Hm
open Go Go.RowKit
/-- What a walk over a tree tells: marked leaves, leaves beside, a node. -/
inductive Ev where
  | among (lo hi : Nat)
  | beside (lo hi : Nat)
  | node
/-- What is told of the leaves from lo on, ahead of hi. -/
def evs (f t lo hi : Nat) : List Ev :=
  if lo = hi ∨ (f ≤ lo ∧ hi ≤ t) then [.among lo hi]
  else if min hi t ≤ max lo f then [.beside lo hi]
  else if _h : hi - lo < 2 then []
  else evs f t lo (lo + splitN (hi - lo)) ++ (evs f t (lo + splitN (hi - lo)) hi ++ [.node])
termination_by hi - lo
decreasing_by
  · have := splitN_lt (n := hi - lo) (by omega)
    omega
  · have := splitN_lt (n := hi - lo) (by omega)
    omega
theorem evs_among {f t lo hi : Nat} (h : lo = hi ∨ (f ≤ lo ∧ hi ≤ t)) : evs f t lo hi = [.among lo hi] := by rw [evs, if_pos h]
theorem evs_beside {f t lo hi : Nat} (h : ¬ (lo = hi ∨ (f ≤ lo ∧ hi ≤ t))) (h2 : min hi t ≤ max lo f) : evs f t lo hi = [.beside lo hi] := by rw [evs, if_neg h, if_pos h2]
theorem evs_node {f t lo hi : Nat} (hl : lo ≤ hi) (h : ¬ (lo = hi ∨ (f ≤ lo ∧ hi ≤ t))) (h2 : ¬ min hi t ≤ max lo f) : evs f t lo hi = evs f t lo (lo + splitN (hi - lo)) ++ (evs f t (lo + splitN (hi - lo)) hi ++ [.node]) := by
  rw [evs, if_neg h, if_neg h2, dif_neg (by omega)]
/-- By what a walk tells. -/
theorem evs_ind {f t : Nat} {C : Nat → Nat → Prop}
    (h1 : ∀ lo hi, lo ≤ hi → (lo = hi ∨ (f ≤ lo ∧ hi ≤ t)) → C lo hi)
    (h2 : ∀ lo hi, lo < hi → ¬ (lo = hi ∨ (f ≤ lo ∧ hi ≤ t)) → min hi t ≤ max lo f → C lo hi)
    (h3 : ∀ lo hi k, 2 ≤ hi - lo → ¬ (lo = hi ∨ (f ≤ lo ∧ hi ≤ t)) → ¬ min hi t ≤ max lo f → k = splitN (hi - lo) → 1 ≤ k → k < hi - lo → C lo (lo + k) → C (lo + k) hi → C lo hi) : ∀ lo hi, lo ≤ hi → C lo hi := by
  intro lo hi
  induction hn : hi - lo using Nat.strongRecOn generalizing lo hi with
  | _ n ih =>
    intro hl
    by_cases a : lo = hi ∨ (f ≤ lo ∧ hi ≤ t)
    · exact h1 lo hi hl a
    by_cases b : min hi t ≤ max lo f
    · exact h2 lo hi (by omega) a b
    have hs := splitN_lt (n := hi - lo) (by omega)
    exact h3 lo hi _ (by omega) a b rfl hs.1 hs.2.1 (ih _ (by omega) lo _ rfl (by omega)) (ih _ (by omega) _ hi rfl (by omega))
/-- Is it of leaves beside? -/
def besideB : Ev → Bool
  | .beside _ _ => true
  | _ => false
/-- How many parts are beside. -/
def cnt (es : List Ev) : Nat := es.countP besideB
theorem cnt_app (a b : List Ev) : cnt (a ++ b) = cnt a + cnt b := List.countP_append
theorem cnt_node {f t lo hi : Nat} (hl : lo ≤ hi) (h : ¬ (lo = hi ∨ (f ≤ lo ∧ hi ≤ t))) (h2 : ¬ min hi t ≤ max lo f) : cnt (evs f t lo hi) = cnt (evs f t lo (lo + splitN (hi - lo))) + cnt (evs f t (lo + splitN (hi - lo)) hi) := by
  rw [evs_node hl h h2, cnt_app, cnt_app]
  simp [cnt, besideB]
theorem cnt_le {f t : Nat} : ∀ lo hi, lo ≤ hi → cnt (evs f t lo hi) ≤ hi - lo := by
  refine evs_ind (f := f) (t := t) ?_ ?_ ?_
  · intro lo hi _ h
    rw [evs_among h]
    simp [cnt, besideB]
  · intro lo hi _ h h2
    rw [evs_beside h h2]
    simp [cnt, besideB]
    omega
  · intro lo hi k hn h h2 hk k1 k2 i1 i2
    rw [cnt_node (by omega) h h2, ← hk]
    omega
theorem cnt_pre {a b : List Ev} (h : a <+: b) : cnt a ≤ cnt b := by
  obtain ⟨c, rfl⟩ := h
  rw [cnt_app]
  omega
/-- There are none beside just if all are marked. -/
theorem cnt_zero {f t : Nat} (hft : f < t) : ∀ lo hi, lo ≤ hi → (cnt (evs f t lo hi) = 0 ↔ (lo = hi ∨ (f ≤ lo ∧ hi ≤ t))) := by
  refine evs_ind (f := f) (t := t) ?_ ?_ ?_
  · intro lo hi _ h
    rw [evs_among h]
    simp [cnt, besideB, h]
  · intro lo hi _ h h2
    rw [evs_beside h h2]
    simp [cnt, besideB, h]
  · intro lo hi k hn h h2 hk k1 k2 i1 i2
    rw [cnt_node (by omega) h h2, ← hk]
    constructor
    · intro e
      have a := i1.1 (by omega)
      have b := i2.1 (by omega)
      omega
    · intro e
      exact absurd e h
/-- At most one for each step, where marked leaves are the first or the last. -/
theorem cnt_edge {f t : Nat} : ∀ lo hi, lo ≤ hi → (f ≤ lo ∨ hi ≤ t) → cnt (evs f t lo hi) ≤ depthN (hi - lo) ∨ (cnt (evs f t lo hi) = 1 ∧ min hi t ≤ max lo f) := by
  refine evs_ind (f := f) (t := t) ?_ ?_ ?_
  · intro lo hi _ h _
    rw [evs_among h]
    simp [cnt, besideB]
  · intro lo hi _ h h2 _
    rw [evs_beside h h2]
    simp [cnt, besideB, h2]
  · intro lo hi k hn h h2 hk k1 k2 i1 i2 he
    have hs := splitN_lt hn
    rw [← hk] at hs
    have hd := depthN_step hn
    rw [← hk] at hd
    have hm := depthN_mono hs.2.2
    have e1 : lo + k - lo = k := by omega
    have e2 : hi - (lo + k) = hi - lo - k := by omega
    rw [e1] at i1
    rw [e2] at i2
    rw [cnt_node (by omega) h h2, ← hk]
    left
    rcases he with he | he
    · -- the first are marked
      by_cases ht : lo + k ≤ t
      · have a : cnt (evs f t lo (lo + k)) = 0 := by rw [evs_among (.inr ⟨he, ht⟩)]; simp [cnt, besideB]
        rcases i2 (.inl (by omega)) with b | b <;> omega
      · have b : cnt (evs f t (lo + k) hi) = 1 := by rw [evs_beside (by omega) (by omega)]; simp [cnt, besideB]
        rcases i1 (.inl he) with a | a
        · omega
        · omega
    · by_cases hf : f ≤ lo + k
      · have b : cnt (evs f t (lo + k) hi) = 0 := by rw [evs_among (.inr ⟨hf, he⟩)]; simp [cnt, besideB]
        rcases i1 (.inr (by omega)) with a | a <;> omega
      · have a : cnt (evs f t lo (lo + k)) = 1 := by rw [evs_beside (by omega) (by omega)]; simp [cnt, besideB]
        rcases i2 (.inr he) with b | b
        · omega
        · omega
/-- At most two for each step. -/
theorem cnt_few {f t : Nat} (hft : f < t) : ∀ lo hi, lo ≤ hi → ¬ min hi t ≤ max lo f → cnt (evs f t lo hi) ≤ 2 * depthN (hi - lo) ∧ (t - f = 1 → cnt (evs f t lo hi) ≤ depthN (hi - lo)) := by
  refine evs_ind (f := f) (t := t) ?_ ?_ ?_
  · intro lo hi _ h _
    rw [evs_among h]
    simp [cnt, besideB]
  · intro lo hi _ h h2 h3
    exact absurd h2 h3
  · intro lo hi k hn h h2 hk k1 k2 i1 i2 _
    have hs := splitN_lt hn
    rw [← hk] at hs
    have hd := depthN_step hn
    rw [← hk] at hd
    have hm := depthN_mono hs.2.2
    have e1 : lo + k - lo = k := by omega
    have e2 : hi - (lo + k) = hi - lo - k := by omega
    rw [e1] at i1
    rw [e2] at i2
    rw [cnt_node (by omega) h h2, ← hk]
    by_cases a : min (lo + k) t ≤ max lo f
    · have a1 : cnt (evs f t lo (lo + k)) = 1 := by rw [evs_beside (by omega) a]; simp [cnt, besideB]
      have := i2 (by omega)
      omega
    by_cases b : min hi t ≤ max (lo + k) f
    · have b1 : cnt (evs f t (lo + k) hi) = 1 := by rw [evs_beside (by omega) b]; simp [cnt, besideB]
      have := i1 a
      omega
    have c1 := cnt_edge lo (lo + k) (by omega) (.inr (by omega)) (f := f) (t := t)
    have c2 := cnt_edge (lo + k) hi (by omega) (.inl (by omega)) (f := f) (t := t)
    rw [e1] at c1
    rw [e2] at c2
    omega
/-- Some of a row. -/
def sl {α : Type} (L : List α) (lo hi : Nat) : List α := (L.drop lo).take (hi - lo)
theorem sl_len {α : Type} {L : List α} {lo hi : Nat} (h : hi ≤ L.length) : (sl L lo hi).length = hi - lo := by
  unfold sl
  rw [List.length_take, List.length_drop]
  omega
theorem sl_all {α : Type} (L : List α) : sl L 0 L.length = L := by simp [sl]
theorem sl_take {α : Type} (L : List α) {lo hi k : Nat} (hk : k ≤ hi - lo) : (sl L lo hi).take k = sl L lo (lo + k) := by
  unfold sl
  rw [List.take_take, show lo + k - lo = k by omega, Nat.min_eq_left hk]
theorem sl_drop {α : Type} (L : List α) {lo hi k : Nat} : (sl L lo hi).drop k = sl L (lo + k) hi := by
  unfold sl
  rw [List.drop_take, List.drop_drop, show hi - lo - k = hi - (lo + k) by omega]
theorem sl_sl {α : Type} (L : List α) {f t lo hi : Nat} (h1 : f ≤ lo) (h2 : hi ≤ t) : sl (sl L f t) (lo - f) (hi - f) = sl L lo hi := by
  unfold sl
  rw [List.drop_take, List.drop_drop, List.take_take, show f + (lo - f) = lo by omega, show min (hi - f - (lo - f)) (t - f - (lo - f)) = hi - lo by omega]
theorem sl_none {α : Type} (L : List α) (k : Nat) : sl L k k = [] := by simp [sl]
theorem Digs.sl {L : List (List Nat)} (h : Digs L) (lo hi : Nat) : Digs (sl L lo hi) := (h.drop lo).take _
theorem rootD_node {L : List (List Nat)} {lo hi : Nat} (hn : 2 ≤ hi - lo) (hh : hi ≤ L.length) :
    rootD (sl L lo hi) = (hashN nodeTag [(rootD (sl L lo (lo + splitN (hi - lo)))).1, (rootD (sl L (lo + splitN (hi - lo)) hi)).1],
      (rootD (sl L lo (lo + splitN (hi - lo)))).2 ++ (rootD (sl L (lo + splitN (hi - lo)) hi)).2 ++ [frameL nodeTag [(rootD (sl L lo (lo + splitN (hi - lo)))).1, (rootD (sl L (lo + splitN (hi - lo)) hi)).1]]) := by
  have hl : (sl L lo hi).length = hi - lo := sl_len hh
  have hs := splitN_lt hn
  rw [rootD_many (by omega), hl, sl_take L (by omega), sl_drop]
/-- What a proof is: the roots of the parts beside. -/
def prD (L : List (List Nat)) (es : List Ev) : List (List Nat) := es.flatMap fun
  | .beside lo hi => [(rootD (sl L lo hi)).1]
  | _ => []
/-- What is hashed for it. -/
def prF (L : List (List Nat)) (es : List Ev) : List (List Nat) := es.flatMap fun
  | .beside lo hi => (rootD (sl L lo hi)).2
  | _ => []
theorem prD_app (L : List (List Nat)) (a b : List Ev) : prD L (a ++ b) = prD L a ++ prD L b := List.flatMap_append
theorem prF_app (L : List (List Nat)) (a b : List Ev) : prF L (a ++ b) = prF L a ++ prF L b := List.flatMap_append
theorem prD_len (L : List (List Nat)) (es : List Ev) : (prD L es).length = cnt es := by
  induction es with
  | nil => rfl
  | cons e es ih =>
    rw [show e :: es = [e] ++ es from rfl, prD_app, cnt_app, List.length_append, ih]
    cases e <;> rfl
theorem prD_digs {L : List (List Nat)} (h : Digs L) (es : List Ev) : Digs (prD L es) := by
  intro d hd
  obtain ⟨e, _, h2⟩ := List.mem_flatMap.1 hd
  cases e with
  | beside lo hi =>
    obtain rfl := List.mem_singleton.1 h2
    exact rootD_dig _ (h.sl lo hi)
  | among lo hi => cases h2
  | node => cases h2
theorem prF_len {L : List (List Nat)} {f t : Nat} (hD : Digs L) : ∀ lo hi, lo ≤ hi → hi ≤ L.length → (prF L (evs f t lo hi)).length ≤ hi - lo := by
  refine evs_ind (f := f) (t := t) ?_ ?_ ?_
  · intro lo hi _ h _
    rw [evs_among h]
    simp [prF]
  · intro lo hi hl h h2 hh
    rw [evs_beside h h2]
    have := (rootD_nodes _ (hD.sl lo hi) (by rw [sl_len hh]; omega)).1
    rw [sl_len hh] at this
    simp [prF]
    omega
  · intro lo hi k hn h h2 hk k1 k2 i1 i2 hh
    rw [evs_node (by omega) h h2, ← hk, prF_app, prF_app, List.length_append, List.length_append]
    have := i1 (by omega)
    have := i2 hh
    simp [prF]
    simp [prF] at *
    omega
theorem prF_pre {L : List (List Nat)} {a b : List Ev} (h : a <+: b) : (prF L a).length ≤ (prF L b).length := by
  obtain ⟨c, rfl⟩ := h
  rw [prF_app, List.length_append]
  omega
/-- What leaves a walk tells of. -/
def evIn (f t a b : Nat) : Ev → Prop
  | .among lo hi => a ≤ lo ∧ lo ≤ hi ∧ hi ≤ b ∧ (lo = hi → a = b) ∧ (lo = hi ∨ (f ≤ lo ∧ hi ≤ t))
  | .beside lo hi => a ≤ lo ∧ lo < hi ∧ hi ≤ b
  | .node => True
theorem evIn.more {f t a b a' b' : Nat} (h1 : a' ≤ a) (h2 : b ≤ b') (h3 : a < b) {e : Ev} (h : evIn f t a b e) : evIn f t a' b' e := by
  cases e with
  | among lo hi => obtain ⟨x, y, z, u, r⟩ := h; exact ⟨by omega, y, by omega, by omega, r⟩
  | beside lo hi => obtain ⟨x, y, z⟩ := h; exact ⟨by omega, y, by omega⟩
  | node => trivial
theorem evs_in {f t : Nat} : ∀ lo hi, lo ≤ hi → ∀ e ∈ evs f t lo hi, evIn f t lo hi e := by
  refine evs_ind (f := f) (t := t) ?_ ?_ ?_
  · intro lo hi hl h e he
    rw [evs_among h] at he
    obtain rfl := List.mem_singleton.1 he
    exact ⟨Nat.le_refl _, hl, Nat.le_refl _, id, h⟩
  · intro lo hi hl h h2 e he
    rw [evs_beside h h2] at he
    obtain rfl := List.mem_singleton.1 he
    exact ⟨Nat.le_refl _, hl, Nat.le_refl _⟩
  · intro lo hi k hn h h2 hk k1 k2 i1 i2 e he
    rw [evs_node (by omega) h h2, ← hk] at he
    rcases List.mem_append.1 he with he | he
    · exact (i1 e he).more (by omega) (by omega) (by omega)
    · rcases List.mem_append.1 he with he | he
      · exact (i2 e he).more (by omega) (by omega) (by omega)
      · obtain rfl := List.mem_singleton.1 he
        trivial
theorem evs_len {f t : Nat} : ∀ lo hi, lo ≤ hi → (evs f t lo hi).length ≤ 2 * (hi - lo) - 1 + (if lo = hi then 1 else 0) := by
  refine evs_ind (f := f) (t := t) ?_ ?_ ?_
  · intro lo hi hl h
    rw [evs_among h]
    split <;> simp <;> omega
  · intro lo hi hl h h2
    rw [evs_beside h h2]
    simp
    omega
  · intro lo hi k hn h h2 hk k1 k2 i1 i2
    rw [evs_node (by omega) h h2, ← hk]
    simp only [List.length_append, List.length_cons, List.length_nil]
    rw [if_neg (by omega)] at i1 i2 ⊢
    omega
theorem evs_last {f t n : Nat} {es : List Ev} {e : Ev} (h : es ++ [e] <+: evs f t 0 n) : evIn f t 0 n e := evs_in 0 n (Nat.zero_le n) e (h.subset (by simp))
/-- What joining has: what was made and is in no node yet, what is left of the proof, and what was hashed. -/
structure JS where
  made : List (List Nat)
  rest : List (List Nat)
  frames : List (List Nat)
def jstep (P : List (List Nat)) (f : Nat) (s : JS) : Ev → JS
  | .among lo hi => ⟨s.made ++ [(rootD (sl P (lo - f) (hi - f))).1], s.rest, s.frames ++ (rootD (sl P (lo - f) (hi - f))).2⟩
  | .beside _ _ => ⟨s.made ++ [s.rest.getD 0 []], s.rest.drop 1, s.frames⟩
  | .node => ⟨s.made.take (s.made.length - 2) ++ [hashN nodeTag [s.made.getD (s.made.length - 2) [], s.made.getD (s.made.length - 2 + 1) []]], s.rest,
      s.frames ++ [frameL nodeTag [s.made.getD (s.made.length - 2) [], s.made.getD (s.made.length - 2 + 1) []]]⟩
def jrun (P : List (List Nat)) (f : Nat) (s : JS) (es : List Ev) : JS := es.foldl (jstep P f) s
theorem jrun_app (P : List (List Nat)) (f : Nat) (s : JS) (a b : List Ev) : jrun P f s (a ++ b) = jrun P f (jrun P f s a) b := List.foldl_append
theorem jrun_one (P : List (List Nat)) (f : Nat) (s : JS) (e : Ev) : jrun P f s [e] = jstep P f s e := rfl
theorem top_two (M : List (List Nat)) (a b : List Nat) : (M ++ [a] ++ [b]).length - 2 = M.length ∧ (M ++ [a] ++ [b]).getD ((M ++ [a] ++ [b]).length - 2) [] = a ∧ (M ++ [a] ++ [b]).getD ((M ++ [a] ++ [b]).length - 2 + 1) [] = b ∧ (M ++ [a] ++ [b]).take ((M ++ [a] ++ [b]).length - 2) = M := by
  have h : (M ++ [a] ++ [b]).length - 2 = M.length := by simp
  rw [h]
  refine ⟨rfl, ?_, ?_, ?_⟩
  · simp [List.getD_eq_getElem?_getD]
  · simp [List.getD_eq_getElem?_getD]
  · simp
/-- What joining some leaves leaves: one more was made, just the digests beside were taken, and what a given fact says of it. -/
theorem jrun_evs {P : List (List Nat)} {f t : Nat} {X : Nat → Nat → List (List Nat) → List Nat → List (List Nat) → Prop}
    (h1 : ∀ lo hi R, lo ≤ hi → (lo = hi ∨ (f ≤ lo ∧ hi ≤ t)) → X lo hi R (rootD (sl P (lo - f) (hi - f))).1 (rootD (sl P (lo - f) (hi - f))).2)
    (h2 : ∀ lo hi R, lo < hi → ¬ (lo = hi ∨ (f ≤ lo ∧ hi ≤ t)) → min hi t ≤ max lo f → X lo hi R (R.getD 0 []) [])
    (h3 : ∀ lo hi k R a b Fa Fb, 2 ≤ hi - lo → k = splitN (hi - lo) → 1 ≤ k → k < hi - lo → ¬ (lo = hi ∨ (f ≤ lo ∧ hi ≤ t)) → ¬ min hi t ≤ max lo f → X lo (lo + k) R a Fa → X (lo + k) hi (R.drop (cnt (evs f t lo (lo + k)))) b Fb → X lo hi R (hashN nodeTag [a, b]) (Fa ++ Fb ++ [frameL nodeTag [a, b]])) :
    ∀ lo hi, lo ≤ hi → ∀ s : JS, ∃ d F, jrun P f s (evs f t lo hi) = ⟨s.made ++ [d], s.rest.drop (cnt (evs f t lo hi)), s.frames ++ F⟩ ∧ X lo hi s.rest d F := by
  refine evs_ind (f := f) (t := t) ?_ ?_ ?_
  · intro lo hi hl h s
    refine ⟨_, _, ?_, h1 lo hi s.rest hl h⟩
    rw [evs_among h]
    simp [jrun_one, jstep, cnt, besideB]
  · intro lo hi hl h hb s
    refine ⟨_, _, ?_, h2 lo hi s.rest hl h hb⟩
    rw [evs_beside h hb]
    simp [jrun_one, jstep, cnt, besideB]
  · intro lo hi k hn h hb hk k1 k2 i1 i2 s
    obtain ⟨a, Fa, e1, x1⟩ := i1 s
    obtain ⟨b, Fb, e2, x2⟩ := i2 ⟨s.made ++ [a], s.rest.drop (cnt (evs f t lo (lo + k))), s.frames ++ Fa⟩
    refine ⟨_, _, ?_, h3 lo hi k s.rest a b Fa Fb hn hk k1 k2 h hb x1 x2⟩
    obtain ⟨t1, t2, t3, t4⟩ := top_two s.made a b
    rw [cnt_node (by omega) h hb, evs_node (by omega) h hb, ← hk, jrun_app, jrun_app, e1, e2, jrun_one]
    unfold jstep
    dsimp only
    rw [t2, t3, t4, List.drop_drop]
    simp only [List.append_assoc]
/-- What is proved is joined to the root. -/
theorem join_proved {L : List (List Nat)} {f t : Nat} (s : JS) (R : List (List Nat)) (hs : s.rest = prD L (evs f t 0 L.length) ++ R) :
    ∃ F, jrun (sl L f t) f s (evs f t 0 L.length) = ⟨s.made ++ [(rootD L).1], R, s.frames ++ F⟩ := by
  have := jrun_evs (P := sl L f t) (f := f) (t := t)
    (X := fun lo hi R d F => hi ≤ L.length → ∀ R', R = prD L (evs f t lo hi) ++ R' → d = (rootD (sl L lo hi)).1)
    (by
      intro lo hi R hl h hh R' _
      rcases h with rfl | ⟨a, b⟩
      · rw [sl_none, sl_none]
      · rw [sl_sl L a b])
    (by
      intro lo hi R hl h hb hh R' e
      rw [evs_beside h hb] at e
      rw [e]
      rfl)
    (by
      intro lo hi k R a b Fa Fb hn hk k1 k2 h hb x1 x2 hh R' e
      rw [evs_node (by omega) h hb, ← hk, prD_app, prD_app, List.append_assoc, List.append_assoc] at e
      rw [rootD_node hn hh, ← hk, ← x1 (by omega) _ e, ← x2 hh ([] ++ R') (by
        rw [e, ← prD_len L (evs f t lo (lo + k)), List.drop_left]
        rfl)])
    0 L.length (Nat.zero_le _) s
  obtain ⟨d, F, e, x⟩ := this
  refine ⟨F, ?_⟩
  rw [e, x (Nat.le_refl _) R hs, sl_all, hs, ← prD_len L, List.drop_left]
/-- What is joined to the root of leaves is some of them, or two frames have one digest. -/
theorem join_sound {L P : List (List Nat)} {f : Nat} (hL : Digs L) (hP : Digs P) (hf : f + P.length ≤ L.length) (s : JS) (hR : Digs s.rest) (hc : cnt (evs f (f + P.length) 0 L.length) ≤ s.rest.length) :
    ∃ d F, jrun P f s (evs f (f + P.length) 0 L.length) = ⟨s.made ++ [d], s.rest.drop (cnt (evs f (f + P.length) 0 L.length)), s.frames ++ F⟩ ∧ DigN d ∧
      (d = (rootD L).1 → P = sl L f (f + P.length) ∨ ∃ x ∈ (rootD L).2, ∃ y ∈ F, x ≠ y ∧ sumI x = sumI y) := by
  have := jrun_evs (P := P) (f := f) (t := f + P.length)
    (X := fun lo hi R d F => hi ≤ L.length → Digs R → cnt (evs f (f + P.length) lo hi) ≤ R.length → DigN d ∧ (d = (rootD (sl L lo hi)).1 →
      (∀ i, lo ≤ i → i < hi → f ≤ i → i < f + P.length → P.getD (i - f) [] = L.getD i []) ∨ ∃ x ∈ (rootD (sl L lo hi)).2, ∃ y ∈ F, x ≠ y ∧ sumI x = sumI y))
    (by
      intro lo hi R hl h hh _ _
      refine ⟨rootD_dig _ (hP.sl _ _), fun e => ?_⟩
      rcases h with rfl | ⟨a, b⟩
      · left
        intro i h1 h2
        omega
      by_cases he : sl L lo hi = sl P (lo - f) (hi - f)
      · left
        intro i h1 h2 h3 h4
        have := congrArg (fun l => l.getD (i - lo) []) he
        unfold sl at this
        simp only [List.getD_eq_getElem?_getD, List.getElem?_take, List.getElem?_drop] at this
        rw [if_pos (by omega), if_pos (by omega), show lo + (i - lo) = i by omega, show lo - f + (i - lo) = i - f by omega] at this
        simp only [List.getD_eq_getElem?_getD]
        exact this.symm
      · right
        exact rootD_tells _ (hL.sl _ _) _ (hP.sl _ _) (by rw [sl_len hh, sl_len (by omega)]; omega) e.symm he)
    (by
      intro lo hi R hl h hb hh hR hc
      rw [evs_beside h hb] at hc
      refine ⟨hR _ (by
        have h0 : 1 ≤ R.length := by simpa [cnt, besideB] using hc
        rw [List.getD_eq_getElem?_getD, List.getElem?_eq_getElem h0]
        exact List.getElem_mem h0), fun _ => .inl ?_⟩
      intro i h1 h2 h3 h4
      omega)
    (by
      intro lo hi k R a b Fa Fb hn hk k1 k2 h hb x1 x2 hh hR hc
      rw [cnt_node (by omega) h hb, ← hk] at hc
      obtain ⟨da, xa⟩ := x1 (by omega) hR (by omega)
      obtain ⟨db, xb⟩ := x2 hh (hR.drop _) (by rw [List.length_drop]; omega)
      refine ⟨hashN_dig _ _, fun e => ?_⟩
      have r1 := rootD_dig _ (hL.sl lo (lo + k))
      have r2 := rootD_dig _ (hL.sl (lo + k) hi)
      rw [rootD_node hn hh, ← hk] at e ⊢
      have hr := hashN_inj e
      have hs : sumI (frameL nodeTag [(rootD (sl L lo (lo + k))).1, (rootD (sl L (lo + k) hi)).1]) = sumI (frameL nodeTag [a, b]) := by
        unfold hashO at hr
        rw [frame_node, frame_node] at hr
        exact hr.symm
      by_cases hq : frameL nodeTag [(rootD (sl L lo (lo + k))).1, (rootD (sl L (lo + k) hi)).1] = frameL nodeTag [a, b]
      · have ap := (frame_apart (L := [(rootD (sl L lo (lo + k))).1, (rootD (sl L (lo + k) hi)).1]) (M := [a, b])
          (by intro p hp; simp at hp; rcases hp with rfl | rfl; rw [r1.1]; omega; rw [r2.1]; omega) (by intro p hp; simp at hp; rcases hp with rfl | rfl; rw [da.1]; omega; rw [db.1]; omega) frame_node frame_node).1 hq
        have e := ap.2
        simp only [List.cons.injEq, and_true] at e
        rcases xa e.1.symm with ya | ⟨x, hx, y, hy, r⟩
        · rcases xb e.2.symm with yb | ⟨x, hx, y, hy, r⟩
          · left
            intro i h1 h2 h3 h4
            by_cases hi : i < lo + k
            · exact ya i h1 hi h3 h4
            · exact yb i (by omega) h2 h3 h4
          · exact .inr ⟨x, by simp [hx], y, by simp [hy], r⟩
        · exact .inr ⟨x, by simp [hx], y, by simp [hy], r⟩
      · exact .inr ⟨_, by simp, _, by simp, hq, hs⟩)
    0 L.length (Nat.zero_le _) s
  obtain ⟨d, F, e, x⟩ := this
  obtain ⟨hd, x⟩ := x (Nat.le_refl _) hR hc
  refine ⟨d, F, e, hd, fun h => ?_⟩
  rw [sl_all] at x
  rcases x h with x | x
  · left
    refine List.ext_getElem (by rw [sl_len hf]; omega) fun i h1 h2 => ?_
    have := x (f + i) (Nat.zero_le _) (by omega) (by omega) (by omega)
    rw [show f + i - f = i by omega] at this
    simp only [List.getD_eq_getElem?_getD, List.getElem?_eq_getElem h1, List.getElem?_eq_getElem (show f + i < L.length by omega), Option.getD_some] at this
    rw [this]
    simp [sl]
  · exact .inr x
/-- How much is made: ahead of each node two are there that are in none yet. -/
theorem made_two {P : List (List Nat)} {f t : Nat} : ∀ lo hi, lo ≤ hi → ∀ (s : JS) es, es ++ [.node] <+: evs f t lo hi → s.made.length + 2 ≤ (jrun P f s es).made.length := by
  refine evs_ind (f := f) (t := t) ?_ ?_ ?_
  · intro lo hi _ h s es hp
    rw [evs_among h] at hp
    obtain ⟨r, hr⟩ := hp
    have := congrArg List.length hr
    match es, hr with
    | [], hr => simp at hr
    | x :: es, hr => simp at this
  · intro lo hi _ h h2 s es hp
    rw [evs_beside h h2] at hp
    obtain ⟨r, hr⟩ := hp
    have := congrArg List.length hr
    match es, hr with
    | [], hr => simp at hr
    | x :: es, hr => simp at this
  · intro lo hi k hn h hb hk k1 k2 i1 i2 s es hp
    rw [evs_node (by omega) h hb, ← hk] at hp
    have J := fun lo hi hl s => jrun_evs (P := P) (f := f) (t := t) (X := fun _ _ _ _ _ => True) (by simp) (by simp) (by simp) lo hi hl s
    by_cases c1 : es.length + 1 ≤ (evs f t lo (lo + k)).length
    · exact i1 s es (List.prefix_of_prefix_length_le hp (List.prefix_append _ _) (by simpa using c1))
    obtain ⟨a, Fa, e1, _⟩ := J lo (lo + k) (by omega) s
    have hpre : evs f t lo (lo + k) <+: es := List.prefix_of_prefix_length_le (List.prefix_append _ _) ((List.prefix_append _ _).trans hp) (by omega)
    obtain ⟨es2, rfl⟩ := hpre
    rw [List.append_assoc, List.prefix_append_right_inj] at hp
    rw [jrun_app, e1]
    by_cases c2 : es2.length + 1 ≤ (evs f t (lo + k) hi).length
    · have := i2 ⟨s.made ++ [a], s.rest.drop (cnt (evs f t lo (lo + k))), s.frames ++ Fa⟩ es2 (List.prefix_of_prefix_length_le hp (List.prefix_append _ _) (by simpa using c2))
      simp only [List.length_append, List.length_cons, List.length_nil] at this
      omega
    have hpre2 : evs f t (lo + k) hi <+: es2 := List.prefix_of_prefix_length_le (List.prefix_append _ _) ((List.prefix_append _ _).trans hp) (by omega)
    obtain ⟨es3, rfl⟩ := hpre2
    have := hp.length_le
    simp only [List.length_append, List.length_cons, List.length_nil] at this
    obtain rfl := List.eq_nil_of_length_eq_zero (show es3.length = 0 by omega)
    obtain ⟨b, Fb, e2, _⟩ := J (lo + k) hi (by omega) ⟨s.made ++ [a], s.rest.drop (cnt (evs f t lo (lo + k))), s.frames ++ Fa⟩
    rw [List.append_nil, e2]
    simp
theorem jstep_frames (P : List (List Nat)) (f : Nat) (s : JS) (e : Ev) : s.frames.length ≤ (jstep P f s e).frames.length := by
  cases e <;> simp [jstep]
theorem jrun_frames (P : List (List Nat)) (f : Nat) : ∀ (es : List Ev) (s : JS), s.frames.length ≤ (jrun P f s es).frames.length
  | [], _ => Nat.le_refl _
  | e :: es, s => Nat.le_trans (jstep_frames P f s e) (jrun_frames P f es (jstep P f s e))
theorem jstep_made (P : List (List Nat)) (f : Nat) (s : JS) (e : Ev) : (jstep P f s e).made.length ≤ s.made.length + 1 := by
  cases e with
  | among lo hi => simp [jstep]
  | beside lo hi => simp [jstep]
  | node => simp [jstep, List.length_take]
theorem jrun_made (P : List (List Nat)) (f : Nat) : ∀ (es : List Ev) (s : JS), (jrun P f s es).made.length ≤ s.made.length + es.length
  | [], _ => Nat.le_refl _
  | e :: es, s => by
    have h1 := jstep_made P f s e
    have h2 := jrun_made P f es (jstep P f s e)
    show (jrun P f (jstep P f s e) es).made.length ≤ _
    simp only [List.length_cons]
    omega
/-- How much is hashed for joining. -/
theorem jrun_few {P : List (List Nat)} {f t n : Nat} (hP : Digs P) (s : JS) {es : List Ev} (h : es <+: evs f t 0 n) : (jrun P f s es).frames.length ≤ s.frames.length + 2 * n + 1 := by
  obtain ⟨d, F, e, x⟩ := jrun_evs (P := P) (f := f) (t := t) (X := fun lo hi _ _ F => F.length ≤ if lo = hi then 1 else 2 * (hi - lo) - 1)
    (by
      intro lo hi _ hl _
      have h1 := rootD_flen (hP.sl (lo - f) (hi - f))
      have h2 : (sl P (lo - f) (hi - f)).length ≤ hi - lo := by unfold sl; rw [List.length_take]; omega
      by_cases hq : lo = hi
      · rw [if_pos hq]
        split at h1 <;> omega
      · rw [if_neg hq]
        split at h1 <;> omega)
    (by
      intro lo hi _ hl _ _
      simp)
    (by
      intro lo hi k _ a b Fa Fb hn hk k1 k2 _ _ x1 x2
      rw [if_neg (by omega)] at x1 x2 ⊢
      simp only [List.length_append, List.length_cons, List.length_nil]
      omega) 0 n (Nat.zero_le n) s
  obtain ⟨r, hr⟩ := h
  have h1 := jrun_frames P f r (jrun P f s es)
  rw [← jrun_app, hr, e] at h1
  simp only [List.length_append] at h1
  split at x <;> omega
/-- All that is made are digests; what is left of the proof are the rest. -/
theorem jrun_digs {P : List (List Nat)} {f : Nat} (hP : Digs P) : ∀ (es : List Ev) (s : JS), Digs s.made → Digs s.rest → cnt es ≤ s.rest.length → Digs (jrun P f s es).made ∧ (jrun P f s es).rest = s.rest.drop (cnt es)
  | [], s, h1, _, _ => ⟨h1, by simp [jrun, cnt]⟩
  | e :: es, s, h1, h2, h3 => by
    have hc : cnt (e :: es) = cnt [e] + cnt es := cnt_app [e] es
    rw [hc] at h3 ⊢
    have hd : ∀ (a b : List (List Nat)), Digs a → Digs b → Digs (a ++ b) := fun a b ha hb d hm => (List.mem_append.1 hm).elim (ha d) (hb d)
    have h1' : ∀ (d : List Nat), DigN d → Digs [d] := fun d h x hx => by obtain rfl := List.mem_singleton.1 hx; exact h
    have hs : Digs (jstep P f s e).made ∧ (jstep P f s e).rest = s.rest.drop (cnt [e]) := by
      cases e with
      | among lo hi => exact ⟨hd _ _ h1 (h1' _ (rootD_dig _ (hP.sl _ _))), by simp [jstep, cnt, besideB]⟩
      | beside lo hi =>
        have h0 : 1 ≤ s.rest.length := by have : cnt [Ev.beside lo hi] = 1 := rfl; omega
        refine ⟨hd _ _ h1 (h1' _ (h2 _ ?_)), by simp [jstep, cnt, besideB]⟩
        rw [List.getD_eq_getElem?_getD, List.getElem?_eq_getElem h0]
        exact List.getElem_mem h0
      | node => exact ⟨hd _ _ (h1.take _) (h1' _ (hashN_dig _ _)), by simp [jstep, cnt, besideB]⟩
    obtain ⟨a, b⟩ := jrun_digs hP es (jstep P f s e) hs.1 (by rw [hs.2]; exact h2.drop _) (by rw [hs.2, List.length_drop]; omega)
    exact ⟨a, by show (jrun P f (jstep P f s e) es).rest = _; rw [b, hs.2, List.drop_drop]⟩

end Go.Hm
/- bits.Len64's contract, laid at this seat (the fields are the program's own facts). -/

namespace Go.Proofs.YtgfemjpeegbhhaaDoor
open Go.Shelf
def lays129_ren : Go.Shelf.Ren := ⟨fun | 129 => 62 | n => n, fun | 53 => 64 | 3 => 3 | 4 => 4 | 46 => 49 | 5 => 5 | 9 => 9 | n => n, fun | n => n⟩
theorem lays129 : Go.Proofs.Lays.n129 Tryd.prog lays129_ren := {
  mixed := by kernel_rfl
  f129 := Tryd.func62.trans (congrArg some (by kernel_rfl))
  t3 := Tryd.underlying3
  a3 := Tryd.isAgg3
  z3 := Tryd.sizeOf3
  v3 := Tryd.zeroValue3
  t4 := Tryd.underlying4
  a4 := Tryd.isAgg4
  z4 := Tryd.sizeOf4
  v4 := Tryd.zeroValue4
  t5 := Tryd.underlying5
  a5 := Tryd.isAgg5
  z5 := Tryd.sizeOf5
  v5 := Tryd.zeroValue5
  t9 := Tryd.underlying9
  a9 := Tryd.isAgg9
  z9 := Tryd.sizeOf9
  v9 := Tryd.zeroValue9
  t46 := Tryd.underlying49
  a46 := Tryd.isAgg49
  z46 := Tryd.sizeOf49
  v46 := Tryd.zeroValue49
  t53 := Tryd.underlying64
  a53 := Tryd.isAgg64
  z53 := Tryd.sizeOf64
  v53 := Tryd.zeroValue64 }
theorem bits_Len64 (x : Int) (w : World) (h0 : 0 ≤ x) (h1 : x ≤ 18446744073709551615) :
    Calls Tryd.prog 62 #[.int .u64 x] w fun e w' => e = .returned (.int .i64 (Lib.bitLen x.toNat)) ∧ w' = w := Any.bits_Len64 lays129 x w h0 h1

end Go.Proofs.YtgfemjpeegbhhaaDoor
/- Contracts on tree.Split, Depth, and the document's own. -/

namespace Go.Hm
open Go Go.RowKit
theorem bitLen_iff2 (n : Nat) : ∀ k, k ≤ 64 → n < 18446744073709551616 → (Lib.bitLen n ≤ k ↔ n < 2 ^ k) := by
  intro k hk hn
  refine ⟨fun h => ?_, fun h => Lib.bitLen_le n k hk h⟩
  induction k generalizing n with
  | zero =>
    by_cases h0 : n = 0
    · omega
    · have := Lib.bitLen_half n h0 hn
      omega
  | succ k ih =>
    by_cases h0 : n = 0
    · subst h0; exact Nat.two_pow_pos _
    · have h1 := Lib.bitLen_half n h0 hn
      have h2 := ih (n / 2) (by omega) (by omega) (by omega)
      rw [Nat.pow_succ]; omega
theorem bitLen_log {x : Nat} (h0 : x ≠ 0) (h : x < 9223372036854775808) : Lib.bitLen x = x.log2 + 1 ∧ x.log2 < 63 := by
  have a1 := Nat.log2_self_le h0
  have a2 := Nat.lt_log2_self (n := x)
  have hl : x.log2 < 63 := (Nat.pow_lt_pow_iff_right (by omega : 1 < 2)).1 (Nat.lt_of_le_of_lt a1 h)
  have b1 := (bitLen_iff2 x (x.log2 + 1) (by omega) (by omega)).2 a2
  have b2 : ¬ Lib.bitLen x ≤ x.log2 := fun hb => by
    have := (bitLen_iff2 x x.log2 (by omega) (by omega)).1 hb
    omega
  omega

end Go.Hm

namespace Go.Proofs.YtgfemjpeegbhhaaDoor
open Go.RowKit Go.Hm
theorem len_any (x : Nat) (w : World) (h : x ≤ 9223372036854775807) : Calls Tryd.prog 41 #[.int .u64 (x : Int)] w (ValPost (.int .i64 (Lib.bitLen x : Nat)) w) := by
  have L := Lib.hid (bits_Len64 (x : Int) w (by omega) (by omega))
  go_enter Tryd.func41, Tryd.ntmps41
  go_wp2_with (go_at_call 62; refine L.out.mono ?_; rintro e w' ⟨rfl, rfl⟩)
  go_ret
  exact ⟨by simp, rfl⟩
set_option maxHeartbeats 1000000 in
theorem split_any (n : Int) (w : World) (h0 : -9223372036854775808 ≤ n) (h : n ≤ 9223372036854775807) : Calls Tryd.prog 23 #[.int .i64 n] w (ValPost (.int .i64 (splitN n.toNat : Nat)) w) := by
  by_cases h2 : n < 2
  · have hs : splitN n.toNat = 0 := by unfold splitN; exact if_pos (by omega)
    rw [hs]
    have d : decide (n < 2) = true := decide_eq_true h2
    go_enter Tryd.func23, Tryd.ntmps23
    go_wp2
    go_ret
    exact ⟨by simp, rfl⟩
  · have d : decide (n < 2) = false := decide_eq_false h2
    obtain ⟨m, rfl⟩ : ∃ m : Nat, n = (m : Int) := ⟨n.toNat, by omega⟩
    obtain ⟨s1, s2, s3⟩ := splitN_pow (n := m) (by omega)
    obtain ⟨b1, b2⟩ := bitLen_log (x := m - 1) (by omega) (by omega)
    have L := len_any (m - 1) w (by omega)
    rw [b1] at L
    have L := Lib.hid L
    have e1 : (m : Int) - 1 = ((m - 1 : Nat) : Int) := by omega
    rw [Int.toNat_natCast, s1]
    have hp : 2 ^ (m - 1).log2 < 9223372036854775808 := by omega
    generalize hk : (m - 1).log2 = k at *
    obtain ⟨p, hpp⟩ : ∃ p, p = 2 ^ k := ⟨_, rfl⟩
    have e2 : ((k + 1 : Nat) : Int) - 1 = (k : Int) := by omega
    clear s1 s2 s3 b1 hk
    go_enter Tryd.func23, Tryd.ntmps23
    go_wp2_with (go_at_call 41; refine L.out.mono ?_; rintro e w' ⟨rfl, rfl⟩)
    go_ret
    have c : (2 : Int) ^ k = (p : Int) := by rw [hpp]; simp
    have c2 : wrap64 ((2 : Int) ^ k) = ((2 ^ k : Nat) : Int) := by
      rw [c, ← hpp]
      rw [← hpp] at hp
      unfold wrap64
      omega
    exact ⟨by rw [← c2]; rfl, rfl⟩
/-- The document's own halves. -/
theorem split_loop {n k : Nat} (hk : 2 ^ k < n) : (2 ^ k < n - 2 ^ k ↔ 2 ^ (k + 1) < n) := by
  rw [Nat.pow_succ]
  omega
set_option maxHeartbeats 1000000 in
theorem rsplit_any (n : Int) (w : World) (h0 : -9223372036854775808 ≤ n) (h : n ≤ 1152921504606846976) : Calls Tryd.prog 24 #[.int .i64 n] w (ValPost (.int .i64 (splitN n.toNat : Nat)) w) := by
  by_cases h2 : n < 2
  · have hs : splitN n.toNat = 0 := by unfold splitN; exact if_pos (by omega)
    rw [hs]
    have d : decide (n < 2) = true := decide_eq_true h2
    go_enter Tryd.func24, Tryd.ntmps24
    go_wp2
    go_ret
    exact ⟨by simp, rfl⟩
  · have d : decide (n < 2) = false := decide_eq_false h2
    obtain ⟨m, rfl⟩ : ∃ m : Nat, n = (m : Int) := ⟨n.toNat, by omega⟩
    go_enter Tryd.func24, Tryd.ntmps24
    go_wp2
    go_loop [3] (fun v => ∃ k p : Nat, v = .int .i64 (p : Int) ∧ Hid (p = 2 ^ k) ∧ p < m) (fun v => m - (intOf v).toNat)
    case atStart => exact ⟨0, 1, rfl, Lib.hid rfl, by omega⟩
    case round =>
      obtain ⟨k, p, rfl, HP, hp⟩ := hrel
      have hp0 : 0 < p := by rw [HP.out]; exact Nat.pow_pos (by omega)
      by_cases hlt : p < m - p
      · have d2 : decide ((p : Int) < (m : Int) - (p : Int)) = true := decide_eq_true (by omega)
        have HP2 := Lib.hid (show 2 * p = 2 ^ (k + 1) by rw [HP.out, Nat.pow_succ]; omega)
        go_wp2
        go_round
        case rel => exact ⟨k + 1, 2 * p, by go_num, HP2, by omega⟩
        case measure => simp [intOf]; omega
      · have d2 : decide ((p : Int) < (m : Int) - (p : Int)) = false := decide_eq_false (by omega)
        have hs := (splitN_is (n := m) (k := k) (by rw [← HP.out]; exact hp) (by rw [Nat.pow_succ, ← HP.out]; omega)).1
        have HS := Lib.hid hs
        clear hs
        go_wp2
        go_ret
        exact ⟨by rw [HS.out, ← HP.out]; rfl, rfl⟩
/-- Depths, of numbers that were halved. -/
theorem depth_any : ∀ (k : Nat) (n : Int) (w : World), n.toNat < k → -9223372036854775808 ≤ n → n ≤ 9223372036854775807 → Calls Tryd.prog 25 #[.int .i64 n] w (ValPost (.int .i64 (depthN n.toNat : Nat)) w) := by
  intro k
  induction k with
  | zero => intro n w hk; omega
  | succ k ih =>
    intro n w hk h0 h1
    by_cases h2 : n < 2
    · have hs : depthN n.toNat = 0 := by unfold depthN; exact if_pos (by omega)
      rw [hs]
      have d : decide (n < 2) = true := decide_eq_true h2
      clear ih
      go_enter Tryd.func25, Tryd.ntmps25
      go_wp2
      go_ret
      exact ⟨by simp, rfl⟩
    · have d : decide (n < 2) = false := decide_eq_false h2
      have s := splitN_lt (n := n.toNat) (by omega)
      have S := Lib.hid (split_any n w h0 h1)
      have D := Lib.hid (ih (splitN n.toNat : Nat) w (by omega) (by omega) (by omega))
      have e := depthN_step (n := n.toNat) (by omega)
      have e2 : depthN n.toNat ≤ 63 := by
        unfold depthN
        rw [if_neg (by omega)]
        have := (bitLen_log (x := n.toNat - 1) (by omega) (by omega)).2
        omega
      rw [Int.toNat_natCast] at D
      have HE := Lib.hid e
      have e3 : depthN (splitN n.toNat) ≤ 62 := by omega
      generalize depthN (splitN n.toNat) = dd at *
      generalize depthN n.toNat = dn at *
      generalize splitN n.toNat = sn at *
      clear ih e s
      go_enter Tryd.func25, Tryd.ntmps25
      go_wp2_with fail
      refine S.out.mono ?_
      rintro e w' ⟨rfl, rfl⟩
      go_wp2_with fail
      refine D.out.mono ?_
      rintro e w' ⟨rfl, rfl⟩
      go_wp2
      go_ret
      exact ⟨by rw [HE.out]; simp, rfl⟩
theorem rdepth_any : ∀ (k : Nat) (n : Int) (w : World), n.toNat < k → -9223372036854775808 ≤ n → n ≤ 1152921504606846976 → Calls Tryd.prog 26 #[.int .i64 n] w (ValPost (.int .i64 (depthN n.toNat : Nat)) w) := by
  intro k
  induction k with
  | zero => intro n w hk; omega
  | succ k ih =>
    intro n w hk h0 h1
    by_cases h2 : n < 2
    · have hs : depthN n.toNat = 0 := by unfold depthN; exact if_pos (by omega)
      rw [hs]
      have d : decide (n < 2) = true := decide_eq_true h2
      clear ih
      go_enter Tryd.func26, Tryd.ntmps26
      go_wp2
      go_ret
      exact ⟨by simp, rfl⟩
    · have d : decide (n < 2) = false := decide_eq_false h2
      have s := splitN_lt (n := n.toNat) (by omega)
      have S := Lib.hid (rsplit_any n w h0 h1)
      have D := Lib.hid (ih (splitN n.toNat : Nat) w (by omega) (by omega) (by omega))
      have e := depthN_step (n := n.toNat) (by omega)
      have e2 : depthN n.toNat ≤ 63 := by
        unfold depthN
        rw [if_neg (by omega)]
        have := (bitLen_log (x := n.toNat - 1) (by omega) (by omega)).2
        omega
      rw [Int.toNat_natCast] at D
      have HE := Lib.hid e
      have e3 : depthN (splitN n.toNat) ≤ 62 := by omega
      generalize depthN (splitN n.toNat) = dd at *
      generalize depthN n.toNat = dn at *
      generalize splitN n.toNat = sn at *
      clear ih e s
      go_enter Tryd.func26, Tryd.ntmps26
      go_wp2_with fail
      refine S.out.mono ?_
      rintro e w' ⟨rfl, rfl⟩
      go_wp2_with fail
      refine D.out.mono ?_
      rintro e w' ⟨rfl, rfl⟩
      go_wp2
      go_ret
      exact ⟨by rw [HE.out]; simp, rfl⟩

end Go.Proofs.YtgfemjpeegbhhaaDoor
/- Contracts on law02.Few, tag.Frame, hypostyleref02.Frame. -/

namespace Go.Hm
open Go Go.RowKit
theorem RowsAt.at_ {w : World} {A : Option Addr} {n c : Nat} {D : List PartS} (h : RowsAt w A n c D) {k : Nat} (hk : k < D.length) :
    ∃ ad, A = some ad ∧ ad.block < w.heap.size ∧ w.cell? (ad.add k) = some (.slice (D.getD k (none, 0, [])).1 (D.getD k (none, 0, [])).2.2.length (D.getD k (none, 0, [])).2.1) := by
  obtain ⟨ad, u, e, hb, hu, hc⟩ := h.row.at_ (k := k) (by rw [h.len]; exact hk)
  have := recs_at (f := partV) (sz := 1) (fun _ => rfl) D (none, 0, []) k 0 hk (by omega)
  rw [Nat.mul_one, Nat.add_zero] at this
  rw [this] at hu
  obtain rfl := Option.some.inj hu
  exact ⟨ad, e, hb, hc⟩
/-- How many bytes rows have. -/
def tsum (L : List (List Nat)) : Nat := (L.map List.length).sum
theorem tsum_snoc (L : List (List Nat)) (p : List Nat) : tsum (L ++ [p]) = tsum L + p.length := by simp [tsum]
theorem tsum_take_le (L : List (List Nat)) (k : Nat) : tsum (L.take k) ≤ tsum L := by
  have e : tsum L = tsum (L.take k) + tsum (L.drop k) := by
    unfold tsum
    rw [← List.sum_append, ← List.map_append, List.take_append_drop]
  omega
theorem tsum_take {L : List (List Nat)} {k : Nat} (hk : k < L.length) : tsum (L.take (k + 1)) = tsum (L.take k) + (L.getD k []).length := by
  rw [take_snoc _ k [] hk, tsum_snoc]
theorem tsum_le {L : List (List Nat)} {M : Nat} (h : ∀ p ∈ L, p.length ≤ M) : tsum L ≤ L.length * M := by
  induction L with
  | nil => simp [tsum]
  | cons p L ih =>
    have h1 := ih fun q hq => h q (by simp [hq])
    have h2 := h p (by simp)
    simp only [tsum, List.map_cons, List.sum_cons, List.length_cons, Nat.succ_mul] at *
    omega
def fewT (L : List (List Nat)) : Bool := decide (L.length ≤ 260 ∧ tsum L ≤ 1500)
theorem mem_getD {L : List (List Nat)} {k : Nat} (hk : k < L.length) : L.getD k [] ∈ L := by
  rw [List.getD_eq_getElem?_getD, List.getElem?_eq_getElem hk]
  exact List.getElem_mem hk

end Go.Hm

namespace Go.Proofs.YtgfemjpeegbhhaaDoor
open Go.RowKit Go.Hm

end Go.Proofs.YtgfemjpeegbhhaaDoor
/- Contracts on tag.Frame, hypostyleref02.Frame. -/

namespace Go.Hm
open Go Go.RowKit
/-- What stands in a frame ahead of its parts, and so many of them. -/
def headL (s : List Nat) (n : Nat) : List Nat := s.length :: (s ++ [n])
def upL (s : List Nat) (L : List (List Nat)) (k : Nat) : List Nat := headL s L.length ++ (L.take k).flatMap partL
theorem headL_len (s : List Nat) (n : Nat) : (headL s n).length = s.length + 2 := by simp [headL]
theorem upL_zero (s : List Nat) (L : List (List Nat)) : upL s L 0 = headL s L.length := by simp [upL]
theorem upL_all (s : List Nat) (L : List (List Nat)) : upL s L L.length = frameL s L := by simp [upL, headL, frameL]
theorem upL_snoc (s : List Nat) (L : List (List Nat)) {k : Nat} (hk : k < L.length) : upL s L (k + 1) = upL s L k ++ partL (L.getD k []) := by
  rw [upL, upL, take_snoc _ k [] hk, List.flatMap_append, List.append_assoc]; simp
theorem upL_len (s : List Nat) (L : List (List Nat)) {k : Nat} (hk : k ≤ L.length) : (upL s L k).length = 2 + s.length + 8 * k + tsum (L.take k) := by
  rw [upL, List.length_append, headL_len, parts_len, List.length_take, Nat.min_eq_left hk]
  unfold tsum
  omega

end Go.Hm

namespace Go.Proofs.YtgfemjpeegbhhaaDoor
open Go.RowKit Go.Hm
set_option maxHeartbeats 2000000 in
set_option maxRecDepth 100000 in
theorem frame_any {w : World} {s : List Nat} {A : Option Addr} {n c : Nat} {D : List PartS} (h : RowsAt w A n c D) (hn : n ≤ 9223372036854775806) (hs8 : ∀ x ∈ s, x < 256) (hs : s.length ≤ 140737488351232) (ht : tsum (bytesOf D) ≤ 1099511627776) :
    Calls Tryd.prog 57 #[.string (bstr s), .slice A n c] w (OptB (frameO s (bytesOf D)) w) := by
  obtain rfl := h.len
  have hz := bstr_size s
  have hB := bytesOf_len D
  have HR := Lib.hid h
  have H8 := Lib.hid hs8
  have HT := Lib.hid ht
  by_cases h1 : s.length = 0
  · have hO : frameO s (bytesOf D) = none := by unfold frameO; exact if_neg (by omega)
    rw [hO]
    obtain rfl := List.eq_nil_of_length_eq_zero h1
    clear h hs8 ht hO
    go_enter Tryd.func57, Tryd.ntmps57
    go_wp2
    go_ret2
    exact ⟨rfl, Below.refl _ _⟩
  by_cases h2 : 255 < s.length
  · have hO : frameO s (bytesOf D) = none := by unfold frameO; exact if_neg (by omega)
    rw [hO]
    have d0 : ((s.length : Int) == 0) = false := by rw [beq_eq_false_iff_ne]; omega
    have d1 : decide ((255 : Int) < (s.length : Int)) = true := by simp; omega
    clear h hs8 ht hO
    go_enter Tryd.func57, Tryd.ntmps57
    go_wp2
    go_ret2
    exact ⟨rfl, Below.refl _ _⟩
  by_cases h3 : 255 < D.length
  · have hO : frameO s (bytesOf D) = none := by unfold frameO; exact if_neg (by omega)
    rw [hO]
    have d0 : ((s.length : Int) == 0) = false := by rw [beq_eq_false_iff_ne]; omega
    have d1 : decide ((255 : Int) < (s.length : Int)) = false := by simp; omega
    have d2 : decide ((255 : Int) < (D.length : Int)) = true := by simp; omega
    clear h hs8 ht hO
    go_enter Tryd.func57, Tryd.ntmps57
    go_wp2
    go_ret2
    exact ⟨rfl, Below.refl _ _⟩
  have hO : frameO s (bytesOf D) = some (frameL s (bytesOf D)) := by unfold frameO; exact if_pos (by omega)
  rw [hO]
  have d0 : ((s.length : Int) == 0) = false := by rw [beq_eq_false_iff_ne]; omega
  have d1 : decide ((255 : Int) < (s.length : Int)) = false := by simp; omega
  have d2 : decide ((255 : Int) < (D.length : Int)) = false := by simp; omega
  have hD : D.length ≤ 255 := by omega
  have hs2 : s.length ≤ 255 := by omega
  have HB := Lib.hid hB
  have a1 : IntKind.u8.wrap (s.length : Int) = (s.length : Int) := by simp [IntKind.wrap, IntKind.bits, IntKind.signed]; omega
  clear h hs8 ht hO h1 h2 h3 hB
  go_enter Tryd.func57, Tryd.ntmps57
  go_wp2
  go_loop [6, 31] (fun z i => ∃ (k m : Nat), k ≤ D.length ∧ i = .int .i64 (k : Int) ∧ z = .int .i64 (m : Int) ∧ m ≤ 1099511640000 ∧ Hid (m = 2 + s.length + 8 * k + tsum ((bytesOf D).take k))) (fun _ i => D.length - (intOf i).toNat)
  case atStart => exact ⟨0, 2 + s.length, by omega, rfl, by go_num, by omega, Lib.hid (by simp [tsum])⟩
  case round =>
    obtain ⟨k, m, hk, rfl, rfl, hm, HM⟩ := hrel
    by_cases hlt : k < D.length
    · obtain ⟨ad, rfl, hb, hc⟩ := HR.out.at_ hlt
      have e1 := bytesOf_at D k
      generalize D.getD k (none, 0, []) = d at *
      have h4 := tsum_take (L := bytesOf D) (k := k) (by rw [HB.out]; exact hlt)
      rw [e1] at h4
      have h6 := tsum_take_le (bytesOf D) (k + 1)
      have hm3 : m + (8 + d.2.2.length) = 2 + s.length + 8 * (k + 1) + tsum ((bytesOf D).take (k + 1)) := by rw [h4, HM.out]; omega
      have hd : d.2.2.length ≤ 1099511627776 := by have := HT.out; omega
      have hm4 : m + (8 + d.2.2.length) ≤ 1099511640000 := by have := HT.out; omega
      have HM3 := Lib.hid hm3
      clear e1 h4 h6 hm3
      obtain ⟨m2, hm2⟩ : ∃ x, x = m + (8 + d.2.2.length) := ⟨_, rfl⟩
      have i1 : (m : Int) + (8 + (d.2.2.length : Int)) = (m2 : Int) := by omega
      rw [← hm2] at HM3 hm4
      clear hm2
      go_wp2
      go_round
      case rel => exact ⟨k + 1, m2, by omega, by go_num, by go_num, hm4, HM3⟩
      case measure => simp [intOf]; omega
    · obtain rfl : k = D.length := by omega
      clear HM
      have a1 : (s.length : Int) % 256 = (s.length : Int) := by omega
      have a2 : (D.length : Int) % 256 = (D.length : Int) := by omega
      go_wp2_with (first
        | (refine wpList_mk elB rfl (.const (.int .i64 0)) (.tmp 41) rfl (W := w) (B := w.heap.size) 0 m rfl rfl rfl rfl (by omega) (Below.refl _ _) (Nat.le_refl _) rfl (by omega) (by simp only [maxLen]; omega) ?_
           intro w1 o1 g1 b1 s1
           have z1 := b1.size
           clear g1 s1)
        | (refine wpList_pushN elB rfl (.tmp 43) (.tmp 47) rfl (W := w) (B := w.heap.size) (k := .u8) (l := []) o1 rfl rfl s.length rfl b1 (Nat.le_refl _) z1 (by omega) (by simp only [maxLen]; omega) ?_
           intro A2 c2 w2 _ _ o2 _ b2 _ _
           have z2 := b2.size)
        | (refine wpList_pushStr elB strT rfl (.tmp 49) (.tmp 50) rfl (W := w) (B := w.heap.size) o2 H8.out rfl rfl b2 (Nat.le_refl _) z2 (by omega) ?_
           intro A3 c3 w3 _ _ o3 _ b3
           have z3 := b3.size)
        | (refine wpList_pushN elB rfl (.tmp 52) (.tmp 56) rfl (W := w) (B := w.heap.size) o3 rfl rfl D.length rfl b3 (Nat.le_refl _) z3 (by omega) (by simp only [maxLen]; omega) ?_
           intro A4 c4 w4 _ _ o4 _ b4 _ _))
      have B4 := Lib.hid b4
      have O4 := Lib.hid (show Own w4 w.heap.size 5 (.slice A4 (0 + 1 + s.length + 1) c4) (nums .u8 (upL s (bytesOf D) 0)) by rw [upL_zero, headL, HB.out]; simpa using o4)
      clear o1 b1 z1 o2 b2 z2 o3 b3 z3 o4 b4
      have R4 := Lib.hid (HR.out)
      obtain ⟨q4, hq4⟩ : ∃ q, q = 0 + 1 + s.length + 1 := ⟨_, rfl⟩
      rw [← hq4] at O4 ⊢
      have HQ4 := Lib.hid (show q4 = 2 + s.length + 8 * 0 + tsum ((bytesOf D).take 0) by rw [hq4]; simp [tsum]; omega)
      clear hq4
      go_loopw [9, 60] (fun v i wr => ∃ (k q c : Nat) (A : Option Addr), k ≤ D.length ∧ i = .int .i64 (k : Int) ∧ v = .slice A q c ∧ Hid (q = 2 + s.length + 8 * k + tsum ((bytesOf D).take k)) ∧ Hid (Own wr w.heap.size 5 (.slice A q c) (nums .u8 (upL s (bytesOf D) k))) ∧ Hid (New w wr)) (fun _ i _ => D.length - (intOf i).toNat)
      case atStart => exact ⟨0, q4, c4, A4, by omega, rfl, rfl, HQ4, O4, B4⟩
      case round =>
        clear HQ4 O4 B4
        obtain ⟨k, q, cq, Aq, hk, rfl, rfl, HQ, O, b⟩ := hrel
        by_cases hlt : k < D.length
        · obtain ⟨ad, rfl, hb, hc⟩ := (HR.out.later b.out).at_ hlt
          have RD := Lib.hid (fun (W : World) (hW : New w W) => ((HR.out.later hW).parts.at_ hlt).1)
          have e1 := bytesOf_at D k
          have US := upL_snoc s (bytesOf D) (k := k) (by rw [HB.out]; exact hlt)
          have h4 := tsum_take (L := bytesOf D) (k := k) (by rw [HB.out]; exact hlt)
          have h6 := tsum_take_le (bytesOf D) (k + 1)
          rw [e1] at h4 US
          generalize D.getD k (none, 0, []) = d at *
          have hp : d.2.2.length ≤ 1099511627776 := by have := HT.out; omega
          have hq : q ≤ 1099511640000 := by have := HT.out; have := HQ.out; omega
          have HQ2 := Lib.hid (show q + 8 + d.2.2.length = 2 + s.length + 8 * (k + 1) + tsum ((bytesOf D).take (k + 1)) by rw [h4, HQ.out]; omega)
          have HUS := Lib.hid US
          have O2 := Lib.hid (show Own wr w.heap.size 5 (.slice Aq (q + 0) cq) (nums .u8 (upL s (bytesOf D) k ++ low d.2.2.length 0)) by simpa [low] using O.out)
          have hlow := Lib.hid (fun j => show (upL s (bytesOf D) k ++ low d.2.2.length j).length = (upL s (bytesOf D) k).length + j by rw [List.length_append, low_len])
          clear e1 US h4 h6 HQ O
          go_wp2
          go_loopw [9, 64] (fun v i wr => ∃ (j c : Nat) (A : Option Addr), j ≤ 8 ∧ i = .int .i64 (j : Int) ∧ v = .slice A (q + j) c ∧ Hid (Own wr w.heap.size 5 (.slice A (q + j) c) (nums .u8 (upL s (bytesOf D) k ++ low d.2.2.length j))) ∧ Hid (New w wr)) (fun _ i _ => 8 - (intOf i).toNat)
          case atStart => exact ⟨0, cq, Aq, by omega, rfl, rfl, O2, b⟩
          case round =>
            clear O2 b hc hb
            obtain ⟨j, cj, Aj, hj, rfl, rfl, O, b⟩ := hrel
            by_cases hlj : j < 8
            · have S := Lib.hid (byte_at d.2.2.length j)
              have j1 : (8 : Int) * (j : Int) < 64 := by omega
              have o := O.out
              have b0 := b.out
              have hz := b0.size
              clear O b
              go_wp2_with (refine wpList_pushN elB rfl (.tmp 67) (.tmp 75) rfl (W := w) (B := w.heap.size) o rfl rfl (d.2.2.length / 256 ^ j % 256) (by rw [S.out]) b0 (Nat.le_refl _) (by omega) (by omega) (by simp only [maxLen]; omega) ?_
                           intro A3 c3 w3 _ _ o3 _ b3 _ _)
              have O3 := Lib.hid (show Own w3 w.heap.size 5 (.slice A3 (q + (j + 1)) c3) (nums .u8 (upL s (bytesOf D) k ++ low d.2.2.length (j + 1))) by rw [List.append_assoc] at o3; exact o3)
              have B3 := Lib.hid b3
              clear o o3 b0 b3
              go_roundw
              case rel => exact ⟨j + 1, c3, A3, by omega, by go_num, rfl, O3, B3⟩
              case measure => simp [intOf]; omega
            · obtain rfl : j = 8 := by omega
              have o := O.out
              have b0 := b.out
              have r0 := RD.out _ b0
              have hz := b0.size
              clear O b
              go_wp2_with (refine wpList_pushesN elB rfl (.tmp 78) (.tmp 79) rfl (W := w) (B := w.heap.size) (base := w.heap.size) o r0 rfl rfl b0 (Nat.le_refl _) (by omega) (by omega) (by simp only [maxLen]; omega) ?_
                           intro A3 c3 w3 _ _ o3 _ b3 _)
              have O3 := Lib.hid (show Own w3 w.heap.size 5 (.slice A3 (q + 8 + d.2.2.length) c3) (nums .u8 (upL s (bytesOf D) (k + 1))) by rw [HUS.out, partL, ← List.append_assoc]; exact o3)
              have B3 := Lib.hid b3
              clear o o3 b0 b3 r0
              go_roundw
              case rel => exact ⟨k + 1, q + 8 + d.2.2.length, c3, A3, by omega, by go_num, rfl, HQ2, O3, B3⟩
              case measure => simp [intOf]; omega
        · obtain rfl : k = D.length := by omega
          have o := O.out
          rw [← HB.out, upL_all] at o
          have O5 := Lib.hid o
          clear o O
          go_wp2
          go_ret2
          exact ⟨_, _, _, rfl, O5.out, b.out⟩

end Go.Proofs.YtgfemjpeegbhhaaDoor
/- Contracts on hypostyleref02.Frame, Same. -/

namespace Go.Proofs.YtgfemjpeegbhhaaDoor
open Go.RowKit Go.Hm
set_option maxHeartbeats 1000000 in
theorem long_any {w : World} (x : Nat) (hx : x ≤ 9223372036854775807) :
    Calls Tryd.prog 67 #[.int .i64 (x : Int)] w (BytesPost (low x 8) w) := by
  go_enter Tryd.func67, Tryd.ntmps67
  go_wp2
  go_loopw [0, 3, 4] (fun n v i wr => ∃ (k c : Nat) (A : Option Addr), k ≤ 8 ∧ i = .int .i64 (k : Int) ∧ n = .int .i64 ((x / 256 ^ k : Nat) : Int) ∧ v = .slice A k c ∧ Hid (Own wr w.heap.size 5 (.slice A k c) (nums .u8 (low x k))) ∧ Hid (New w wr)) (fun _ _ i _ => 8 - (intOf i).toNat)
  case atStart => exact ⟨0, 0, none, by omega, rfl, by simp, rfl, Lib.hid Own.nil_, Lib.hid (Below.refl _ _)⟩
  case round =>
    obtain ⟨k, c, A, hk, rfl, rfl, rfl, O, b⟩ := hrel
    by_cases hlt : k < 8
    · obtain ⟨y, hy⟩ : ∃ y, y = x / 256 ^ k := ⟨_, rfl⟩
      have S := Lib.hid (show (y : Int) % 256 = ((x / 256 ^ k % 256 : Nat) : Int) by rw [← hy]; omega)
      have hyx : y ≤ x := by rw [hy]; exact Nat.div_le_self _ _
      have HY := Lib.hid (show x / 256 ^ (k + 1) = y / 256 by rw [hy, Nat.pow_succ, Nat.div_div_eq_div_mul])
      have o := O.out
      have b0 := b.out
      have hz := b0.size
      rw [← hy]
      obtain ⟨z, hz2⟩ : ∃ z, z = y / 256 := ⟨_, rfl⟩
      have q1 : (y : Int).tdiv 256 = (z : Int) := by rw [Int.tdiv_eq_ediv_of_nonneg (by omega)]; omega
      have q2 : (y : Int) / 256 = (z : Int) := by omega
      rw [← hz2] at HY
      clear O b hy hz2
      go_wp2_with (refine wpList_pushN elB rfl (.tmp 9) (.tmp 12) rfl (W := w) (B := w.heap.size) o rfl rfl (x / 256 ^ k % 256) (by rw [S.out]) b0 (Nat.le_refl _) (by omega) (by omega) (by simp only [maxLen]; omega) ?_
                   intro A3 c3 w3 _ _ o3 _ b3 _ _)
      have O3 := Lib.hid (show Own w3 w.heap.size 5 (.slice A3 (k + 1) c3) (nums .u8 (low x (k + 1))) from o3)
      have B3 := Lib.hid b3
      clear o o3 b0 b3
      go_roundw
      case rel => exact ⟨k + 1, c3, A3, by omega, by go_num, by rw [HY.out], rfl, O3, B3⟩
      case measure => simp [intOf]; omega
    · obtain rfl : k = 8 := by omega
      go_wp2
      go_ret
      exact ⟨A, 8, c, rfl, O.out, b.out⟩
set_option maxHeartbeats 2000000 in
set_option maxRecDepth 100000 in
theorem rframe_any {w : World} {s : List Nat} {A : Option Addr} {n c : Nat} {D : List PartS} (h : RowsAt w A n c D) (hn : n ≤ 9223372036854775806) (hs8 : ∀ x ∈ s, x < 256) (hs : s.length ≤ 140737488351232) (ht : tsum (bytesOf D) ≤ 1099511627776) :
    Calls Tryd.prog 59 #[.string (bstr s), .slice A n c] w (OptB (frameO s (bytesOf D)) w) := by
  obtain rfl := h.len
  have hz := bstr_size s
  have hB := bytesOf_len D
  have HR := Lib.hid h
  have H8 := Lib.hid hs8
  have HT := Lib.hid ht
  by_cases h1 : s.length < 1
  · have hO : frameO s (bytesOf D) = none := by unfold frameO; exact if_neg (by omega)
    rw [hO]
    obtain rfl := List.eq_nil_of_length_eq_zero (show s.length = 0 by omega)
    clear h hs8 ht hO
    go_enter Tryd.func59, Tryd.ntmps59
    go_wp2
    go_ret2
    exact ⟨rfl, Below.refl _ _⟩
  by_cases h2 : 255 < s.length
  · have hO : frameO s (bytesOf D) = none := by unfold frameO; exact if_neg (by omega)
    rw [hO]
    have d0 : decide ((s.length : Int) < 1) = false := decide_eq_false (by omega)
    have d1 : decide ((255 : Int) < (s.length : Int)) = true := decide_eq_true (by omega)
    clear h hs8 ht hO
    go_enter Tryd.func59, Tryd.ntmps59
    go_wp2
    go_ret2
    exact ⟨rfl, Below.refl _ _⟩
  by_cases h3 : 255 < D.length
  · have hO : frameO s (bytesOf D) = none := by unfold frameO; exact if_neg (by omega)
    rw [hO]
    have d0 : decide ((s.length : Int) < 1) = false := decide_eq_false (by omega)
    have d1 : decide ((255 : Int) < (s.length : Int)) = false := decide_eq_false (by omega)
    have d2 : decide ((255 : Int) < (D.length : Int)) = true := decide_eq_true (by omega)
    clear h hs8 ht hO
    go_enter Tryd.func59, Tryd.ntmps59
    go_wp2
    go_ret2
    exact ⟨rfl, Below.refl _ _⟩
  have hO : frameO s (bytesOf D) = some (frameL s (bytesOf D)) := by unfold frameO; exact if_pos (by omega)
  rw [hO]
  have d0 : decide ((s.length : Int) < 1) = false := decide_eq_false (by omega)
  have d1 : decide ((255 : Int) < (s.length : Int)) = false := decide_eq_false (by omega)
  have d2 : decide ((255 : Int) < (D.length : Int)) = false := decide_eq_false (by omega)
  have hD : D.length ≤ 255 := by omega
  have hs2 : s.length ≤ 255 := by omega
  have HB := Lib.hid hB
  have a1 : (s.length : Int) % 256 = (s.length : Int) := by omega
  have a2 : (D.length : Int) % 256 = (D.length : Int) := by omega
  have o1 : Own (w.alloc (.cells #[.int .u8 (s.length : Int)] 5)) w.heap.size 5 (.slice (some ⟨w.heap.size, 0, none⟩) 1 1) (nums .u8 [s.length]) := own_lit w 5 .u8 [s.length] (by simp [maxLen])
  have b1 : New w (w.alloc (.cells #[.int .u8 (s.length : Int)] 5)) := (Below.refl _ _).alloc (Nat.le_refl _) _
  have z1 := b1.size
  clear h hs8 ht hO h1 h2 h3 hB
  go_enter Tryd.func59, Tryd.ntmps59
  go_wp2_with (first
    | (refine wpList_pushStr elB strT rfl (.tmp 25) (.tmp 26) rfl (W := w) (B := w.heap.size) o1 H8.out rfl rfl b1 (Nat.le_refl _) z1 (by omega) ?_
       intro A3 c3 w3 _ _ o3 _ b3
       have z3 := b3.size
       clear o1 b1 z1)
    | (refine wpList_pushN elB rfl (.tmp 28) (.tmp 32) rfl (W := w) (B := w.heap.size) o3 rfl rfl D.length rfl b3 (Nat.le_refl _) z3 (by omega) (by simp only [maxLen]; omega) ?_
       intro A4 c4 w4 _ _ o4 _ b4 _ _
       clear o3 z3 b3))
  have B4 := Lib.hid b4
  have O4 := Lib.hid (show Own w4 w.heap.size 5 (.slice A4 (1 + s.length + 1) c4) (nums .u8 (upL s (bytesOf D) 0)) by rw [upL_zero, headL, HB.out]; simpa using o4)
  clear o4 b4
  obtain ⟨q4, hq4⟩ : ∃ q, q = 1 + s.length + 1 := ⟨_, rfl⟩
  rw [← hq4] at O4 ⊢
  have HQ4 := Lib.hid (show q4 = 2 + s.length + 8 * 0 + tsum ((bytesOf D).take 0) by rw [hq4]; simp [tsum]; omega)
  clear hq4
  go_loopw [6, 7] (fun v i wr => ∃ (k q c : Nat) (A : Option Addr), k ≤ D.length ∧ i = .int .i64 (k : Int) ∧ v = .slice A q c ∧ Hid (q = 2 + s.length + 8 * k + tsum ((bytesOf D).take k)) ∧ Hid (Own wr w.heap.size 5 (.slice A q c) (nums .u8 (upL s (bytesOf D) k))) ∧ Hid (New w wr)) (fun _ i _ => D.length - (intOf i).toNat)
  case atStart => exact ⟨0, q4, c4, A4, by omega, rfl, rfl, HQ4, O4, B4⟩
  case round =>
    clear HQ4 O4 B4
    obtain ⟨k, q, cq, Aq, hk, rfl, rfl, HQ, O, b⟩ := hrel
    by_cases hlt : k < D.length
    · obtain ⟨ad, rfl, hb, hc⟩ := (HR.out.later b.out).at_ hlt
      have RD := Lib.hid (fun (W : World) (hW : New w W) => ((HR.out.later hW).parts.at_ hlt).1)
      have RC := Lib.hid (fun (W : World) (hW : New w W) => show W.cell? (ad.add k) = some (.slice (D.getD k (none, 0, [])).1 (D.getD k (none, 0, [])).2.2.length (D.getD k (none, 0, [])).2.1) by
        obtain ⟨ad2, e2, _, h2⟩ := (HR.out.later hW).at_ hlt
        obtain rfl := Option.some.inj e2
        exact h2)
      have e1 := bytesOf_at D k
      have US := upL_snoc s (bytesOf D) (k := k) (by rw [HB.out]; exact hlt)
      have h4 := tsum_take (L := bytesOf D) (k := k) (by rw [HB.out]; exact hlt)
      have h6 := tsum_take_le (bytesOf D) (k + 1)
      rw [e1] at h4 US
      generalize D.getD k (none, 0, []) = d at *
      have hp : d.2.2.length ≤ 1099511627776 := by have := HT.out; omega
      have hq : q ≤ 1099511640000 := by have := HT.out; have := HQ.out; omega
      have HQ2 := Lib.hid (show q + 8 + d.2.2.length = 2 + s.length + 8 * (k + 1) + tsum ((bytesOf D).take (k + 1)) by rw [h4, HQ.out]; omega)
      have HUS := Lib.hid US
      have LG := Lib.hid (long_any (w := wr) d.2.2.length (by omega))
      have o := O.out
      have b0 := b.out
      clear e1 US h4 h6 HQ O
      go_wp2_with (first
        | (go_at_call 67; refine LG.out.mono ?_; rintro e w5 ⟨A5, n5, c5, rfl, k5, b5⟩
           have b05 := New.trans b0 b5
           have o5 := o.later b5
           have r5 := k5.reads
           obtain rfl : n5 = 8 := by have := k5.len; rw [nums_length, low_len] at this; exact this
           have o5 := o5
           have r5 := r5
           have z5 := b05.size
           clear o b0 hc hb)
        | (refine wpList_pushesN elB rfl (.tmp 40) (.tmp 46) rfl (W := w) (B := w.heap.size) (base := w.heap.size) o5 r5 rfl rfl b05 (Nat.le_refl _) z5 (by omega) (by simp only [maxLen]; omega) ?_
           intro A6 c6 w6 _ _ o6 _ b6 _
           have hc6 := RC.out _ b6
           have r6 := RD.out _ b6
           have z6 := b6.size
           clear o5 r5 b05 z5 k5 b5)
        | (refine wpList_pushesN elB rfl (.tmp 48) (.tmp 52) rfl (W := w) (B := w.heap.size) (base := w.heap.size) o6 r6 rfl rfl b6 (Nat.le_refl _) z6 (by omega) (by simp only [maxLen]; omega) ?_
           intro A7 c7 w7 _ _ o7 _ b7 _
           clear o6 r6 z6 hc6 b6))
      have O7 := Lib.hid (show Own w7 w.heap.size 5 (.slice A7 (q + 8 + d.2.2.length) c7) (nums .u8 (upL s (bytesOf D) (k + 1))) by rw [HUS.out, partL, ← List.append_assoc]; exact o7)
      have B7 := Lib.hid b7
      clear o7 b7
      go_roundw
      case rel => exact ⟨k + 1, q + 8 + d.2.2.length, c7, A7, by omega, by go_num, rfl, HQ2, O7, B7⟩
      case measure => simp [intOf]; omega
    · obtain rfl : k = D.length := by omega
      have o := O.out
      rw [← HB.out, upL_all] at o
      have O5 := Lib.hid o
      clear o O
      go_wp2
      go_ret2
      exact ⟨_, _, _, rfl, O5.out, b.out⟩

end Go.Proofs.YtgfemjpeegbhhaaDoor
/- Contract on hypostyleref02.Same. -/

namespace Go.Hm
open Go Go.RowKit
theorem take_eq_snoc {α : Type} {l m : List α} {k : Nat} (d : α) (h1 : k < l.length) (h2 : k < m.length) : l.take (k + 1) = m.take (k + 1) ↔ l.take k = m.take k ∧ l.getD k d = m.getD k d := by
  rw [take_snoc _ k d h1, take_snoc _ k d h2]
  constructor
  · intro h
    have := List.append_inj' h rfl
    exact ⟨this.1, by simpa using this.2⟩
  · rintro ⟨h, k⟩
    rw [h, k]
/-- A cell of rows, in each later world. -/
theorem RowsAt.cells {w : World} {ad : Addr} {n c : Nat} {D : List PartS} (h : RowsAt w (some ad) n c D) {k : Nat} (hk : k < D.length) (W : World) (hW : New w W) : W.cell? (ad.add k) = some (.slice (D.getD k (none, 0, [])).1 (D.getD k (none, 0, [])).2.2.length (D.getD k (none, 0, [])).2.1) := by
  obtain ⟨ad2, e2, _, h2⟩ := (h.later hW).at_ hk
  obtain rfl := Option.some.inj e2
  exact h2

end Go.Hm

namespace Go.Proofs.YtgfemjpeegbhhaaDoor
open Go.RowKit Go.Hm
set_option maxHeartbeats 1000000 in
theorem same_any {w : World} {A B : Option Addr} {n m c e : Nat} {D E : List PartS} (h : RowsAt w A n c D) (k : RowsAt w B m e E) (h8 : ∀ p ∈ bytesOf D, ∀ x ∈ p, x < 256) (k8 : ∀ p ∈ bytesOf E, ∀ x ∈ p, x < 256) (hn : n ≤ 9223372036854775806) (hm : m ≤ 9223372036854775806) :
    Calls Tryd.prog 21 #[.slice A n c, .slice B m e] w (NewPost (.bool (decide (bytesOf D = bytesOf E))) w) := by
  obtain rfl := h.len
  obtain rfl := k.len
  have HD := Lib.hid h
  have HE := Lib.hid k
  have H8 := Lib.hid h8
  have K8 := Lib.hid k8
  have LD := Lib.hid (bytesOf_len D)
  have LE := Lib.hid (bytesOf_len E)
  clear h k h8 k8
  by_cases hl : D.length = E.length
  · have d1 : ((D.length : Int) == (E.length : Int)) = true := by rw [beq_iff_eq]; omega
    have HL := Lib.hid hl
    have e1 : (D.length : Int) = (E.length : Int) := by omega
    clear hl
    go_enter Tryd.func21, Tryd.ntmps21
    go_wp2
    go_loopw [5] (fun i wr => ∃ k : Nat, k ≤ D.length ∧ i = .int .i64 (k : Int) ∧ Hid ((bytesOf D).take k = (bytesOf E).take k) ∧ Hid (New w wr)) (fun i _ => D.length - (intOf i).toNat)
    case atStart => exact ⟨0, by omega, rfl, Lib.hid (by simp), Lib.hid (Below.refl _ _)⟩
    case round =>
      obtain ⟨k, hk, rfl, T, b⟩ := hrel
      by_cases hlt : k < D.length
      · have k1 := hlt
        have k2 : k < E.length := by have := HL.out; omega
        obtain ⟨ad, rfl, _⟩ := HD.out.at_ k1
        obtain ⟨ae, rfl, _⟩ := HE.out.at_ k2
        have C1 := Lib.hid (fun (W : World) (hW : New w W) => HD.out.cells k1 W hW)
        have C2 := Lib.hid (fun (W : World) (hW : New w W) => HE.out.cells k2 W hW)
        have R1 := ((HD.out.later b.out).parts.at_ k1).1
        have R2 := ((HE.out.later b.out).parts.at_ k2).1
        have e1 := bytesOf_at D k
        have e2 := bytesOf_at E k
        have g1 := H8.out _ (mem_getD (L := bytesOf D) (k := k) (by rw [LD.out]; exact hlt))
        have g2 := K8.out _ (mem_getD (L := bytesOf E) (k := k) (by rw [LE.out]; exact k2))
        have TS := take_eq_snoc (l := bytesOf D) (m := bytesOf E) (k := k) [] (by rw [LD.out]; exact hlt) (by rw [LE.out]; exact k2)
        rw [e1, e2] at TS
        rw [e1] at g1
        rw [e2] at g2
        have BB := bstr_beq g1 g2
        generalize D.getD k (none, 0, []) = d at *
        generalize E.getD k (none, 0, []) = x at *
        have HT := Lib.hid TS
        have HB := Lib.hid BB
        have R1 := Lib.hid R1
        have R2 := Lib.hid R2
        clear e1 e2 g1 g2 TS BB
        go_wp2
        refine wp_region_up New [(true, 0), (true, 1), (true, 2), (true, 3), (true, 4), (true, 5), (true, 6), (true, 7), (true, 8), (true, 9), (true, 10)]
          New.refl New.trans (by kernel_rfl) (by kernel_rfl) (by kernel_rfl) (by kernel_rfl) ?_
        have hU := New.drew wr
        have bU := New.trans b.out hU
        iterate 4 (
          refine up_quiet rfl rfl (v := ?_) (fun W hW => ?_) ?_
          rotate_left
          · have c1 := C1.out W (New.trans bU hW)
            go_simp <;> with_reducible rfl
          simp only [Act.put, List.setIfInBounds_toArray, List.set_cons_zero, List.set_cons_succ])
        refine up_str (e := 5) (by kernel_rfl) (by kernel_rfl) (by kernel_rfl) rfl rfl rfl R1.out hU ?_
        simp only [Act.put, List.setIfInBounds_toArray, List.set_cons_zero, List.set_cons_succ]
        iterate 4 (
          refine up_quiet rfl rfl (v := ?_) (fun W hW => ?_) ?_
          rotate_left
          · have c2 := C2.out W (New.trans bU hW)
            go_simp <;> with_reducible rfl
          simp only [Act.put, List.setIfInBounds_toArray, List.set_cons_zero, List.set_cons_succ])
        refine up_str (e := 5) (by kernel_rfl) (by kernel_rfl) (by kernel_rfl) rfl rfl rfl R2.out hU ?_
        simp only [Act.put, List.setIfInBounds_toArray, List.set_cons_zero, List.set_cons_succ]
        refine up_quiet rfl rfl (v := ?_) (fun W hW => ?_) ?_
        rotate_left
        · skip
          go_simp <;> with_reducible rfl
        simp only [Act.put, List.setIfInBounds_toArray, List.set_cons_zero, List.set_cons_succ]
        refine up_nil ?_
        have B3 := Lib.hid bU
        generalize hbb : (!((bstr d.2.2).toList == (bstr x.2.2).toList)) = tb
        by_cases hq : d.2.2 = x.2.2
        · have T3 := Lib.hid (HT.out.2 ⟨T.out, hq⟩)
          obtain rfl : tb = false := by rw [← hbb, HB.out, decide_eq_true hq]; rfl
          clear hbb
          clear T hq
          go_wp2
          go_roundw
          case rel => exact ⟨k + 1, by omega, by go_num, T3, B3⟩
          case measure => simp [intOf]; omega
        · have HN : Hid (decide (bytesOf D = bytesOf E) = false) := Lib.hid (decide_eq_false fun he => hq (HT.out.1 (by rw [he])).2)
          obtain rfl : tb = true := by rw [← hbb, HB.out, decide_eq_false hq]; rfl
          clear hbb
          clear T hq
          go_wp2
          go_ret
          exact ⟨by simp [HN.out], B3.out⟩
      · obtain rfl : k = D.length := by omega
        have t := T.out
        rw [List.take_of_length_le (by rw [LD.out]; omega), List.take_of_length_le (by rw [LE.out]; have := HL.out; omega)] at t
        have HN : Hid (decide (bytesOf D = bytesOf E) = true) := Lib.hid (decide_eq_true t)
        clear t T
        go_wp2
        go_ret
        exact ⟨by simp [HN.out], b.out⟩
  · have d1 : ((D.length : Int) == (E.length : Int)) = false := by rw [beq_eq_false_iff_ne]; omega
    have HN : Hid (decide (bytesOf D = bytesOf E) = false) := Lib.hid (decide_eq_false fun he => hl (by rw [← LD.out, ← LE.out, he]))
    have d2 : ¬ (D.length : Int) = (E.length : Int) := by omega
    go_enter Tryd.func21, Tryd.ntmps21
    go_wp2
    go_ret
    exact ⟨by simp [HN.out], Below.refl _ _⟩

end Go.Proofs.YtgfemjpeegbhhaaDoor
/- Contracts on tag.first, tag.Parse. -/

namespace Go.Hm
open Go Go.RowKit
theorem slice_lk {P : Program} {t : TypeId} (ht : P.underlying t = some (.slice (P.elem t))) (hs : ∀ w, (sizeOf (P.elem t)).run P w = .ok 1 w) (A : Option Addr) (n c k : Nat) (q : IntKind) (hk : k ≤ n) (w : World) :
    (Instr.sliceAt t (.slice A n c) (some (.int q (k : Int))) none none).run P w = .ok (.slice (if c = k then A else A.map (·.add k)) (n - k) (c - k)) w := by
  rw [run_sliceAt_slice w t _ _ _ _ ht, run_slice_l w t A n c ht q (k : Int) (by omega) (by omega), hs]
  simp [Result.andThen, sliced]
theorem slice_lhk {P : Program} {t : TypeId} (ht : P.underlying t = some (.slice (P.elem t))) (hs : ∀ w, (sizeOf (P.elem t)).run P w = .ok 1 w) (A : Option Addr) (n c k m : Nat) (q r : IntKind) (hk : k ≤ m) (hc : m ≤ c) (w : World) :
    (Instr.sliceAt t (.slice A n c) (some (.int q (k : Int))) (some (.int r (m : Int))) none).run P w = .ok (.slice (if c = k then A else A.map (·.add k)) (m - k) (c - k)) w := by
  rw [run_sliceAt_slice w t _ _ _ _ ht, run_slice_lh w t A n c ht q r (k : Int) (m : Int) (by omega) (by omega) (by omega), hs]
  simp [Result.andThen, sliced]

end Go.Hm

namespace Go.Proofs.YtgfemjpeegbhhaaDoor
open Go.RowKit Go.Hm
set_option maxHeartbeats 400000 in
theorem bclone_any {w : World} {A : Option Addr} {n c : Nat} {l : List Nat} (h : Reads w w.heap.size 1 A n (nums .u8 l)) (hl : n ≤ 140737488355328) :
    Calls Tryd.prog 40 #[.slice A n c] w (BytesPost l w) := by
  obtain rfl := h.len
  rcases A with _ | ad
  · have hl0 : l.length = 0 := by
      rcases Nat.eq_zero_or_pos l.length with h0 | h0
      · exact h0
      · obtain ⟨ad, h', _⟩ := h.2 h0
        cases h'
    obtain rfl : l = [] := List.eq_nil_of_length_eq_zero hl0
    have hq := fun W : World => Lib.run_eql_slice_nil (P := Tryd.prog) W 22 5 none 0 c 0 0 elB.ht
    go_enter Tryd.func40, Tryd.ntmps40
    go_wp2
    go_ret
    exact ⟨none, 0, 0, rfl, Own.nil_, Below.refl _ _⟩
  · have hq := fun W : World => Lib.run_eql_slice_nil (P := Tryd.prog) W 22 5 (some ad) l.length c 0 0 elB.ht
    go_enter Tryd.func40, Tryd.ntmps40
    go_wp2_with (first
      | (refine wpList_pushesN elB rfl (.tmp 5) (.tmp 6) rfl (W := w) (B := w.heap.size) (k := .u8) (l := []) (l2 := l) (c2 := c) (Own.empty _ _) ((h.alloc (Nat.le_refl _) _).more (by simp)) rfl rfl ((Below.refl _ _).alloc (Nat.le_refl _) _) (Nat.le_refl _) (by simp) (by omega) (by simp only [maxLen]; omega) ?_
         simp only [Nat.zero_add, List.nil_append]
         intro A' c' w' k1 k2 k3 k4 k5 k6))
    go_ret
    exact ⟨A', _, c', rfl, k3, k5⟩

/-- The first part, a copy, and what is behind it. -/
def FirstPost (l : List Nat) (A : Option Addr) (c : Nat) (w : World) (e : Ending) (w' : World) : Prop :=
  match firstO l with
  | none => e = .returned (.tuple #[.slice none 0 0, .slice none 0 0, .bool false]) ∧ New w w'
  | some (p, r) => ∃ A5 c5, e = .returned (.tuple #[.slice A5 p.length c5, .slice (if c = 8 + p.length then A else A.map (·.add (8 + p.length))) r.length (c - (8 + p.length)), .bool true]) ∧ Own w' w.heap.size 5 (.slice A5 p.length c5) (nums .u8 p) ∧ r = l.drop (8 + p.length) ∧ 8 + p.length ≤ l.length ∧ New w w'
set_option maxHeartbeats 2000000 in
set_option maxRecDepth 100000 in
theorem first_part_any {w : World} {A : Option Addr} {n c : Nat} {l : List Nat} (h : Reads w w.heap.size 1 A n (nums .u8 l)) (h8 : ∀ x ∈ l, x < 256) (hc : n ≤ c) (hm : n ≤ 140737488355328) :
    Calls Tryd.prog 46 #[.slice A n c] w (FirstPost l A c w) := by
  obtain rfl := h.len
  have HR := Lib.hid h
  have H8 := Lib.hid h8
  by_cases h1 : l.length < 8
  · have hO : firstO l = none := by unfold firstO; exact if_neg (by omega)
    have HO := Lib.hid hO
    have d0 : decide ((l.length : Int) < 8) = true := decide_eq_true (by omega)
    clear h h8 hO
    go_enter Tryd.func46, Tryd.ntmps46
    go_wp2
    go_ret3
    unfold FirstPost
    rw [HO.out]
    exact ⟨rfl, Below.refl _ _⟩
  have d0 : decide ((l.length : Int) < 8) = false := decide_eq_false (by omega)
  have hl8 : 8 ≤ l.length := by omega
  clear h h8 h1
  go_enter Tryd.func46, Tryd.ntmps46
  go_wp2
  go_loop [5, 10] (fun v i => ∃ k : Nat, k ≤ 8 ∧ i = .int .i64 (k : Int) ∧ v = .int .u64 (num (l.take k) : Int)) (fun _ i => 8 - (intOf i).toNat)
  case atStart => exact ⟨0, by omega, rfl, by simp [num]⟩
  case round =>
    obtain ⟨k, hk, rfl, rfl⟩ := hrel
    by_cases hlt : k < 8
    · obtain ⟨ad, rfl, hb, hcell⟩ := HR.out.num (i := k) (by omega)
      have T8 : (l.take 8).length = 8 := by rw [List.length_take]; omega
      have S := num_step_u64 (l.take 8) k (by omega) (by omega) (fun x hx => H8.out x (List.mem_of_mem_take hx))
      have hg : (l.take 8).getD k 0 = l.getD k 0 := by
        rw [List.getD_eq_getElem?_getD, List.getElem?_take, if_pos hlt, ← List.getD_eq_getElem?_getD]
      rw [hg, List.take_take, List.take_take, Nat.min_eq_left (by omega), Nat.min_eq_left (by omega)] at S
      have S := Lib.hid S
      have j1 : (8 : Int) * (k : Int) < 64 := by omega
      clear T8 hg
      generalize l.getD k 0 = x at *
      go_wp2
      go_round
      case rel => exact ⟨k + 1, by omega, by go_num, rfl⟩
      case measure => simp [intOf]; omega
    · obtain rfl : k = 8 := by omega
      have hn := num_lt (l.take 8) (fun x hx => H8.out x (List.mem_of_mem_take hx))
      rw [List.length_take, Nat.min_eq_left hl8] at hn
      have HO2 : firstO l = firstO l := rfl
      conv at HO2 => rhs; unfold firstO
      generalize num (l.take 8) = N at *
      have e1 : (l.length : Int) - 8 = ((l.length - 8 : Nat) : Int) := by omega
      have hu : IntKind.u64.wrap ((l.length - 8 : Nat) : Int) = ((l.length - 8 : Nat) : Int) := by rw [IntKind.wrap_u64]; omega
      obtain ⟨L8, hL8⟩ : ∃ x, x = l.length - 8 := ⟨_, rfl⟩
      rw [← hL8] at e1 hu HO2
      by_cases h2 : L8 < N
      · have d1 : decide ((L8 : Int) < (N : Int)) = true := decide_eq_true (by omega)
        rw [if_neg (by omega)] at HO2
        have HO3 := Lib.hid HO2
        clear HO2
        go_wp2
        go_ret3
        unfold FirstPost
        rw [HO3.out]
        exact ⟨rfl, Below.refl _ _⟩
      · have d1 : decide ((L8 : Int) < (N : Int)) = false := decide_eq_false (by omega)
        rw [if_pos (by omega)] at HO2
        have HO3 := Lib.hid HO2
        obtain ⟨E8, hE⟩ : ∃ x, x = 8 + N := ⟨_, rfl⟩
        have a1 : IntKind.u64.wrap (8 + (N : Int)) = (E8 : Int) := by rw [IntKind.wrap_u64]; omega
        have a2 : (8 + (N : Int)) % 18446744073709551616 = (E8 : Int) := by omega
        have hEl : E8 ≤ l.length := by omega
        have SL1 := slice_lhk (P := Tryd.prog) sB zB A l.length c 8 E8 .i64 .u64 (by omega) (by omega)
        have SL2 := slice_lk (P := Tryd.prog) sB zB A l.length c E8 .u64 hEl
        rw [show E8 - 8 = N by omega] at SL1
        have r1 := (HR.out.cut (k := 8) (cap := c) hl8 hc).take (k := N) (by omega)
        have r2 := HR.out.cut (k := E8) (cap := c) hEl hc
        rw [Nat.mul_one, Nat.mul_one, nums_drop, nums_take] at r1
        rw [Nat.mul_one, nums_drop] at r2
        rw [show 8 + N = E8 from hE.symm] at HO3
        generalize (if c = 8 then A else A.map (·.add 8)) = A1 at *
        generalize hA2 : (if c = E8 then A else A.map (·.add E8)) = A2 at *
        have HA2 := Lib.hid hA2
        have HE := Lib.hid hE
        have SL1 := Lib.hid SL1
        have SL2 := Lib.hid SL2
        have hNl : ((l.drop 8).take N).length = N := by rw [List.length_take, List.length_drop]; omega
        have CLN := Lib.hid (fun (W : World) (hW : New w W) => bclone_any (c := c - 8) (Reads.later r1 hW) (by omega))
        have HNL := Lib.hid hNl
        clear hE r1 r2 hNl HO2 hL8 hA2
        go_wp2
        refine wp_region_up New [(true, 0), (true, 1), (true, 2), (true, 3), (true, 5), (true, 6), (true, 7), (true, 8), (false, 4), (true, 9), (true, 10), (true, 11)]
          New.refl New.trans (by kernel_rfl) (by kernel_rfl) (by kernel_rfl) (by kernel_rfl) ?_
        have hU := New.drew w
        iterate 3 (
          refine up_quiet rfl rfl (v := ?_) (fun W hW => ?_) ?_
          rotate_left
          · skip
            go_simp <;> with_reducible rfl
          simp only [Act.put, List.setIfInBounds_toArray, List.set_cons_zero, List.set_cons_succ])
        refine up_quiet rfl rfl (v := .slice A1 N (c - 8)) (fun W hW => exec_slice (SL1.out W)) ?_
        simp only [Act.put, List.setIfInBounds_toArray, List.set_cons_zero, List.set_cons_succ]
        iterate 3 (
          refine up_quiet rfl rfl (v := ?_) (fun W hW => ?_) ?_
          rotate_left
          · skip
            go_simp <;> with_reducible rfl
          simp only [Act.put, List.setIfInBounds_toArray, List.set_cons_zero, List.set_cons_succ])
        refine up_quiet rfl rfl (v := .slice A2 (l.length - E8) (c - E8)) (fun W hW => exec_slice (SL2.out W)) ?_
        simp only [Act.put, List.setIfInBounds_toArray, List.set_cons_zero, List.set_cons_succ]
        refine up_call rfl rfl (fun K hK => ?_)
        go_simp
        (with_reducible refine (CLN.out _ hU).mono ?_)
        rintro e u ⟨A5, n5, c5, rfl, o5, b5⟩
        refine hK _ _ b5 ?_
        clear hK
        replace hU := New.trans hU b5
        iterate 3 (
          refine up_quiet rfl rfl (v := ?_) (fun W hW => ?_) ?_
          rotate_left
          · skip
            go_simp <;> with_reducible rfl
          simp only [Act.put, List.setIfInBounds_toArray, List.set_cons_zero, List.set_cons_succ])
        refine up_nil ?_
        have O5 := Lib.hid o5
        have HU := Lib.hid hU
        clear o5 hU b5
        go_wp2
        go_ret3
        unfold FirstPost
        rw [HO3.out]
        have o5 := O5.out
        obtain rfl : n5 = ((l.drop 8).take N).length := by have := o5.len; rwa [nums_length] at this
        have hE2 : 8 + ((l.drop 8).take N).length = E8 := by rw [HNL.out]; exact HE.out.symm
        refine ⟨A5, c5, ?_, o5, by rw [hE2], by omega, HU.out⟩
        show _ = Ending.returned (.tuple #[_, .slice (if c = 8 + ((l.drop 8).take N).length then A else A.map (·.add (8 + ((l.drop 8).take N).length))) _ _, _])
        rw [hE2, HA2.out, List.length_drop]
        simp

end Go.Proofs.YtgfemjpeegbhhaaDoor
/- Contract on tag.Parse. -/

namespace Go.Hm
open Go Go.RowKit
theorem TR.push {w w' : World} {e t : TypeId} {A : Option Addr} {n base : Nat} {xs ys : List Value} {v : Value} (h : TR w e A n xs) (o : Own w base t v ys) (hg : w.grownBy w' v.ownBlock) (hne : e ≠ t) : TR w' e A n xs := by
  rcases o.2 with ⟨rfl, _⟩ | ⟨g, cap, cur, rfl, _, hh, _⟩
  · exact h.grown hg (fun ad g _ hr => by cases hr)
  · exact h.keep (g := g) hg hh hne
/-- Rows of bytes in blocks of bytes. -/
def PartsT (e : TypeId) (w : World) (D : List PartS) : Prop := ∀ d ∈ D, TR w e d.1 d.2.2.length (nums .u8 d.2.2) ∧ d.2.2.length ≤ d.2.1 ∧ d.2.1 ≤ 9223372036854775807
theorem PartsT.ins {e : TypeId} {w : World} {D : List PartS} (h : PartsT e w D) : PartsIn w D := fun d hd => ⟨(h d hd).1.1, (h d hd).2⟩
theorem PartsT.below {e : TypeId} {w w' : World} {D : List PartS} (h : PartsT e w D) (hb : New w w') : PartsT e w' D := fun d hd => ⟨(h d hd).1.below hb, (h d hd).2⟩
theorem PartsT.push {e t : TypeId} {w w' : World} {D : List PartS} {base : Nat} {v : Value} {ys : List Value} (h : PartsT e w D) (o : Own w base t v ys) (hg : w.grownBy w' v.ownBlock) (hne : e ≠ t) : PartsT e w' D := fun d hd => ⟨(h d hd).1.push o hg hne, (h d hd).2⟩
theorem PartsT.snoc {e : TypeId} {w : World} {D : List PartS} {d : PartS} (h : PartsT e w D) (k : TR w e d.1 d.2.2.length (nums .u8 d.2.2)) (h1 : d.2.2.length ≤ d.2.1) (h2 : d.2.1 ≤ 9223372036854775807) : PartsT e w (D ++ [d]) := by
  intro x hx
  rcases List.mem_append.1 hx with hx | hx
  · exact h x hx
  · obtain rfl := List.mem_singleton.1 hx
    exact ⟨k, h1, h2⟩
theorem bytesOf_snoc (D : List PartS) (d : PartS) : bytesOf (D ++ [d]) = bytesOf D ++ [d.2.2] := by simp [bytesOf]
theorem recsP_len (D : List PartS) : (recs partV D).length = D.length := by rw [recs_length (sz := 1) (fun _ => rfl), Nat.mul_one]
theorem recsP_snoc (D : List PartS) (d : PartS) : recs partV (D ++ [d]) = recs partV D ++ [.slice d.1 d.2.2.length d.2.1] := by rw [recs_append]; rfl
theorem parts_step {N k : Nat} (hk : k < N) (R : List Nat) : partsO (N - k) R = (firstO R).bind fun p => (partsO (N - (k + 1)) p.2).map fun q => (p.1 :: q.1, q.2) := by
  rw [show N - k = (N - (k + 1)) + 1 by omega, partsO]

end Go.Hm

namespace Go.Proofs.YtgfemjpeegbhhaaDoor
open Go.RowKit Go.Hm
theorem elR : ElT Tryd.prog 28 22 (.slice none 0 0) 1 24 := ⟨by kernel_rfl, by kernel_rfl, rfl, by omega⟩
/-- A tag and parts, or none. -/
def ParsePost (o : Option (List Nat × List (List Nat))) (w : World) (e : Ending) (w' : World) : Prop :=
  ∃ A n c D, e = .returned (.tuple #[.string (bstr ((o.map Prod.fst).getD [])), .slice A n c, .bool o.isSome]) ∧ RowsAt w' A n c D ∧ bytesOf D = (o.map Prod.snd).getD [] ∧ New w w'
theorem ParsePost.none_ {w w' : World} (h : New w w') : ParsePost none w (.returned (.tuple #[.string (bstr []), .slice none 0 0, .bool false])) w' :=
  ⟨none, 0, 0, [], rfl, ⟨⟨by simp [recs], fun h => absurd h (by omega)⟩, (fun d hd => nomatch hd), Nat.le_refl _⟩, rfl, h⟩
set_option maxHeartbeats 2000000 in
set_option maxRecDepth 100000 in
theorem parse_any {w : World} {A : Option Addr} {n c : Nat} {l : List Nat} (h : Reads w w.heap.size 1 A n (nums .u8 l)) (h8 : ∀ x ∈ l, x < 256) (hc : n ≤ c) (hm : n ≤ 140737488355328) :
    Calls Tryd.prog 29 #[.slice A n c] w (ParsePost (parseO l) w) := by
  obtain rfl := h.len
  have HR := Lib.hid h
  have H8 := Lib.hid h8
  by_cases h0 : l.length = 0
  · obtain rfl := List.eq_nil_of_length_eq_zero h0
    clear h h8
    go_enter Tryd.func29, Tryd.ntmps29
    go_wp2
    go_ret3
    exact ParsePost.none_ (Below.refl _ _)
  have d0 : ((l.length : Int) == 0) = false := by rw [beq_eq_false_iff_ne]; omega
  obtain ⟨ad, rfl, hb, hcell⟩ := HR.out.num (i := 0) (by omega)
  have hcell0 : w.cell? ad = some (.int .u8 ((l.getD 0 0 : Nat) : Int)) := by rw [add_zero'] at hcell; exact hcell
  have hx8 : l.getD 0 0 < 256 := getD_lt l 0 h8
  obtain ⟨o, ho⟩ : ∃ o, o = parseO l := ⟨_, rfl⟩
  have HO : parseO l = parseO l := rfl
  conv at HO => rhs; unfold parseO
  rw [← ho] at HO ⊢
  generalize hx : l.getD 0 0 = x at *
  have HX := Lib.hid hx
  clear hcell hx ho h h8
  by_cases h1 : x = 0
  · subst h1
    rw [if_neg (by omega)] at HO
    replace HO := Lib.hid HO
    go_enter Tryd.func29, Tryd.ntmps29
    go_wp2
    go_ret3
    rw [HO.out]
    exact ParsePost.none_ (Below.refl _ _)
  have d1 : ((x : Int) == 0) = false := by rw [beq_eq_false_iff_ne]; omega
  by_cases h2 : l.length < 2 + x
  · rw [if_neg (by omega)] at HO
    replace HO := Lib.hid HO
    have d2 : decide ((l.length : Int) < 2 + (x : Int)) = true := decide_eq_true (by omega)
    go_enter Tryd.func29, Tryd.ntmps29
    go_wp2
    go_ret3
    rw [HO.out]
    exact ParsePost.none_ (Below.refl _ _)
  have d2 : decide ((l.length : Int) < 2 + (x : Int)) = false := decide_eq_false (by omega)
  rw [if_pos (by omega)] at HO
  replace HO := Lib.hid HO
  have hB1 : 1 + x < l.length := by omega
  have CB : ∀ W : World, New w W → W.cell? (ad.add (1 + x)) = some (.int .u8 ((l.getD (1 + x) 0 : Nat) : Int)) := fun W hW => by
    obtain ⟨_, e1, _, hcB⟩ := (Reads.later HR.out hW).num (i := 1 + x) hB1
    obtain rfl := Option.some.inj e1
    exact hcB
  have hcB := CB w (Below.refl _ _)
  have hN8 : l.getD (1 + x) 0 < 256 := getD_lt l _ H8.out
  obtain ⟨B1, hB⟩ : ∃ y, y = 1 + x := ⟨_, rfl⟩
  rw [← hB] at HO hcB hB1 hN8 CB
  generalize l.getD B1 0 = N at *
  obtain ⟨B2, hB2⟩ : ∃ y, y = 2 + x := ⟨_, rfl⟩
  rw [← hB2] at HO
  have i1 : (1 : Int) + (x : Int) = (B1 : Int) := by omega
  have a3 : IntKind.i64.wrap ((B1 : Int) + 1) = (B2 : Int) := by rw [IntKind.wrap_i64]; omega
  have a4 : (B1 : Int) + 1 = (B2 : Int) := by omega
  have a5 : IntKind.i64.wrap (B2 : Int) = (B2 : Int) := by rw [IntKind.wrap_i64]; omega
  have a6 : IntKind.i64.wrap (N : Int) = (N : Int) := by rw [IntKind.wrap_i64]; omega
  have hB2l : B2 ≤ l.length := by omega
  have j1 : (B1 : Int) < (l.length : Int) := by omega
  have SL1 := slice_lh (P := Tryd.prog) sB zB (some ad) l.length c 1 B1 (by omega) (by omega)
  have SL2 := slice_l (P := Tryd.prog) sB zB (some ad) l.length c B2 hB2l
  rw [show B1 - 1 = x by omega] at SL1
  have r1 := (HR.out.cut (k := 1) (cap := c) (by omega) hc).take (k := x) (by omega)
  have r2 := HR.out.cut (k := B2) (cap := c) hB2l hc
  rw [Nat.mul_one, Nat.mul_one, nums_drop, nums_take] at r1
  rw [Nat.mul_one, nums_drop] at r2
  generalize (if c = 1 then some ad else (some ad).map (·.add 1)) = A1 at *
  generalize (if c = B2 then some ad else (some ad).map (·.add B2)) = A2 at *
  have CB := Lib.hid CB
  have hR8 : ∀ x ∈ l.drop B2, x < 256 := fun x hx => H8.out x (List.mem_of_mem_drop hx)
  have hRl : l.length - B2 = (l.drop B2).length := by rw [List.length_drop]
  rw [hRl] at r2 SL2
  have hc2 : (l.drop B2).length ≤ c - B2 := by rw [← hRl]; omega
  have HL2 := Lib.hid (show (l.drop B2).length ≤ 140737488355328 by rw [← hRl]; omega)
  generalize l.drop B2 = R at *
  generalize (l.drop 1).take x = s at *
  have SL1 := Lib.hid SL1
  have SL2 := Lib.hid SL2
  have R1 := Lib.hid r1
  have R2 := Lib.hid r2
  have HR8 := Lib.hid hR8
  have HC2 := Lib.hid hc2
  have HN8 := Lib.hid hN8
  clear hRl r1 r2 hR8 hB2 hB hc2 hN8
  go_enter Tryd.func29, Tryd.ntmps29
  go_wp2
  refine wp_region_up New [(true, 0), (true, 1), (true, 2), (true, 3), (true, 4), (true, 5), (true, 6), (true, 7), (true, 8), (true, 9), (true, 10), (true, 11), (true, 12), (true, 13), (true, 14), (true, 15)]
    New.refl New.trans (by kernel_rfl) (by kernel_rfl) (by kernel_rfl) (by kernel_rfl) ?_
  have hU := New.drew w
  iterate 2 (
    refine up_quiet rfl rfl (v := ?_) (fun W hW => ?_) ?_
    rotate_left
    · skip
      go_simp <;> with_reducible rfl
    simp only [Act.put, List.setIfInBounds_toArray, List.set_cons_zero, List.set_cons_succ])
  refine up_quiet rfl rfl (v := .slice A1 x (c - 1)) (fun W hW => exec_slice (SL1.out W)) ?_
  simp only [Act.put, List.setIfInBounds_toArray, List.set_cons_zero, List.set_cons_succ]
  refine up_str (e := 5) (by kernel_rfl) (by kernel_rfl) (by kernel_rfl) rfl rfl rfl R1.out hU ?_
  simp only [Act.put, List.setIfInBounds_toArray, List.set_cons_zero, List.set_cons_succ]
  iterate 8 (
    refine up_quiet rfl rfl (v := ?_) (fun W hW => ?_) ?_
    rotate_left
    · have cb := CB.out W (New.trans hU hW)
      go_simp <;> with_reducible rfl
    simp only [Act.put, List.setIfInBounds_toArray, List.set_cons_zero, List.set_cons_succ])
  refine up_quiet rfl rfl (v := .slice A2 R.length (c - B2)) (fun W hW => exec_slice (SL2.out W)) ?_
  simp only [Act.put, List.setIfInBounds_toArray, List.set_cons_zero, List.set_cons_succ]
  iterate 3 (
    refine up_quiet rfl rfl (v := ?_) (fun W hW => ?_) ?_
    rotate_left
    · skip
      go_simp <;> with_reducible rfl
    simp only [Act.put, List.setIfInBounds_toArray, List.set_cons_zero, List.set_cons_succ])
  refine up_nil ?_
  have z0 : w.heap.size ≤ w.drew.heap.size := hU.size
  clear CB SL1 SL2 R1 i1 a3 a4 a5 a6 j1 d0 d1 d2 hcell0 hcB hB2l
  go_wp2_with (refine wpList_mk elR rfl (.const (.int .i64 0)) (.tmp 50) rfl (W := w) (B := w.heap.size) 0 N rfl rfl rfl rfl (by omega) hU (Nat.le_refl _) rfl (by have := HN8.out; omega) (by have := HN8.out; simp only [maxLen]; omega) ?_
               intro w1 o1 g1 b1 s1
               have O1 := Lib.hid (show Own w1 w.heap.size 22 (.slice (some ⟨w.drew.heap.size, 0, none⟩) 0 N) (recs partV []) from o1)
               have B1' := Lib.hid b1
               clear o1 g1 s1 b1)
  clear hU z0
  have HP := Lib.hid (show partsO N R = (partsO (N - 0) R).map fun q => (bytesOf [] ++ q.1, q.2) by simp [bytesOf])
  obtain ⟨R0, hR0⟩ : ∃ R0, R0 = partsO N R := ⟨_, rfl⟩
  rw [← hR0] at HP HO
  have T0 : Hid (PartsT 5 w1 []) := Lib.hid (fun d hd => nomatch hd)
  clear hR0
  go_loopw [8, 9, 53] (fun vr vp i wr => ∃ (k cr c2 : Nat) (Ar A2 : Option Addr) (R : List Nat) (D : List PartS), k ≤ N ∧ i = .int .i64 (k : Int) ∧ vr = .slice Ar R.length cr ∧ vp = .slice A2 k c2 ∧ Hid (D.length = k) ∧ Hid (Own wr w.heap.size 22 (.slice A2 k c2) (recs partV D)) ∧ Hid (PartsT 5 wr D) ∧ Hid (Reads w w.heap.size 1 Ar R.length (nums .u8 R)) ∧ Hid (∀ x ∈ R, x < 256) ∧ R.length ≤ cr ∧ R.length ≤ 140737488355328 ∧ Hid (R0 = (partsO (N - k) R).map fun q => (bytesOf D ++ q.1, q.2)) ∧ Hid (New w wr)) (fun _ _ i _ => N - (intOf i).toNat)
  case atStart => exact ⟨0, c - B2, N, A2, _, R, [], by omega, rfl, rfl, rfl, Lib.hid rfl, O1, T0, R2, HR8, HC2.out, HL2.out, HP, B1'⟩
  case round =>
    clear O1 T0 R2 HR8 HC2 HP B1'
    obtain ⟨k, cr, c2, Ar, A3, R, D, hk, rfl, rfl, rfl, HD, O, T, RR, R8, hcr, hcm, HP, b⟩ := hrel
    by_cases hlt : k < N
    · have FP := Lib.hid (first_part_any (w := wr) (Reads.later RR.out b.out) R8.out hcr hcm)
      have hst := parts_step hlt R
      cases hf : firstO R with
      | none =>
        have HN : Hid (o = none) := Lib.hid (by rw [HO.out, HP.out, hst, hf]; rfl)
        have HF := Lib.hid hf
        clear HP hst O T RR hf
        go_wp2_with (go_at_call 46; refine FP.out.mono ?_; rintro e w5 hfp
                     unfold FirstPost at hfp
                     rw [HF.out] at hfp
                     obtain ⟨rfl, b5⟩ := hfp
                     clear FP)
        go_ret3
        rw [HN.out]
        exact ParsePost.none_ (New.trans b.out b5)
      | some q =>
        obtain ⟨p, r⟩ := q
        have HF := Lib.hid hf
        have HP2 := Lib.hid (show R0 = (partsO (N - (k + 1)) r).map fun q => ((bytesOf D ++ [p]) ++ q.1, q.2) by
          rw [HP.out, hst, hf, Option.bind_some]
          show (Option.map _ (partsO (N - (k + 1)) r)).map _ = _
          generalize partsO (N - (k + 1)) r = z
          cases z <;> simp)
        have hfb := first_back R8.out hf
        have HB := Lib.hid hfb
        have o0 := O.out
        have t0 := T.out
        have rr := RR.out
        have hN9 := HN8.out
        clear HP hst hf hfb O T
        go_wp2_with (first
          | (go_at_call 46; refine FP.out.mono ?_; rintro e w5 hfp
             unfold FirstPost at hfp
             rw [HF.out] at hfp
             obtain ⟨A5, c5, rfl, o5, hr, hl5, b5⟩ := hfp
             have b05 := New.trans b.out b5
             have o6 := o0.later b5
             have z5 := b05.size
             have t5 := t0.below b5
             have u5 := TR.of_own o5
             have cp5 := o5.cap
             have rr2 := rr.cut (k := 8 + p.length) (cap := cr) hl5 hcr
             rw [Nat.mul_one, nums_drop, ← hr, show R.length - (8 + p.length) = r.length by rw [hr, List.length_drop]] at rr2
             have hr2 := Lib.hid hr
             generalize (if cr = 8 + p.length then Ar else Ar.map (·.add (8 + p.length))) = A6 at *
             have RR2 := Lib.hid rr2
             have hcr2 : r.length ≤ cr - (8 + p.length) := by have := HB.out.2.2.2; omega
             clear FP o0 t0 rr rr2 hr)
          | ((refine wpList_push elR rfl (.tmp 63) (.tmp 65) rfl (W := w) (B := w.heap.size) o6 rfl rfl b05 (Nat.le_refl _) z5 rfl (by rw [recsP_len, HD.out]; have := HN8.out; omega) (by rw [recsP_len, HD.out]; have := HN8.out; simp only [maxLen]; omega) ?_)
             intro A7 c7 w7 _ _ o7 g7 b7 _ _
             have t7 := (t5.push o6 g7 (by decide)).snoc (d := (A5, c5, p)) (u5.push o6 g7 (by decide)) cp5.1 (by have := cp5.2; simp only [maxLen] at this; omega)
             have e7 : (recs partV D).length + 1 = k + 1 := by rw [recsP_len, HD.out]
             rw [e7] at o7 ⊢
             have O7 := Lib.hid (show Own w7 w.heap.size 22 (.slice A7 (k + 1) c7) (recs partV (D ++ [(A5, c5, p)])) by rw [recsP_snoc]; exact o7)
             have T7 := Lib.hid t7
             have B7 := Lib.hid b7
             clear o6 o7 t7 e7 t5 u5 g7 b7 b05 z5 o5 b5))
        have HD2 := Lib.hid (show (D ++ [(A5, c5, p)] : List PartS).length = k + 1 by rw [List.length_append, HD.out]; rfl)
        have HP3 := Lib.hid (show R0 = (partsO (N - (k + 1)) r).map fun q => (bytesOf (D ++ [(A5, c5, p)]) ++ q.1, q.2) by rw [bytesOf_snoc]; exact HP2.out)
        have HR8 := Lib.hid HB.out.2.2.1
        go_roundw
        case rel => exact ⟨k + 1, cr - (8 + p.length), c7, A6, A7, r, _, by omega, by go_num, rfl, rfl, HD2, O7, T7, RR2, HR8, hcr2, (by have := HB.out.2.2.2; omega), HP3, B7⟩
        case measure => simp [intOf]; omega
    · obtain rfl : k = N := by omega
      have hp := HP.out
      rw [Nat.sub_self] at hp
      have hp2 : R0 = some (bytesOf D, R) := by rw [hp]; simp [partsO]
      have ho := HO.out
      rw [hp2, Option.bind_some] at ho
      by_cases hR : R = []
      · subst hR
        rw [if_pos rfl] at ho
        have HN := Lib.hid ho
        have row := O.out
        clear hp hp2 ho HP O RR
        go_wp2
        go_ret3
        rw [HN.out]
        exact ⟨A3, k, c2, D, rfl, ⟨row.reads, T.out.ins, row.cap.1⟩, rfl, b.out⟩
      · rw [if_neg hR] at ho
        have HN := Lib.hid ho
        have d3 : decide ((0 : Int) < (R.length : Int)) = true := decide_eq_true (by have := List.length_pos_iff.2 hR; omega)
        have d4 : 0 < R.length := List.length_pos_iff.2 hR
        clear hp hp2 ho HP O RR hR
        go_wp2
        go_ret3
        rw [HN.out]
        exact ParsePost.none_ b.out

end Go.Proofs.YtgfemjpeegbhhaaDoor
