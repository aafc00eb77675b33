/- Texts merged, for a claim has at most 60 files: TreM, Shelf, TreS, TagF, TagA, TagB, TagS, TagP, TagQ, TagK, TagH, TagE, TagG, TagR. -/
import Derived.DeepKeys4
import Derived.Lib.BitFns
import Derived.Maps.Own
import Derived.Maps.OwnOps
import Derived.Maps.Views
import Derived.Shelf.Strconv.Itoa0
import Derived.Test.YtgfemjpeegbhhaaDoorBun1
import Derived.Test.YtgfemjpeegbhhaaDoorBun3
import Derived.Test.YtgfemjpeegbhhaaDoorProg
import Derived.WideKeyArr
/- Trees of digests, over plain lists: what layer 21 says. No program is named here. -/

namespace Go.Hm
open Go Go.RowKit
/-- How many of n leaves are in the first half. -/
def splitN (n : Nat) : Nat := if n < 2 then 0 else 2 ^ (n - 1).log2
/-- How many nodes are at most above a leaf of n. -/
def depthN (n : Nat) : Nat := if n < 2 then 0 else (n - 1).log2 + 1
theorem splitN_pow {n : Nat} (h : 2 ≤ n) : splitN n = 2 ^ (n - 1).log2 ∧ 2 ^ (n - 1).log2 < n ∧ n ≤ 2 ^ ((n - 1).log2 + 1) := by
  have h1 := Nat.log2_self_le (n := n - 1) (by omega)
  have h2 := Nat.lt_log2_self (n := n - 1)
  refine ⟨by unfold splitN; rw [if_neg (by omega)], by omega, by omega⟩
theorem splitN_lt {n : Nat} (h : 2 ≤ n) : 1 ≤ splitN n ∧ splitN n < n ∧ n - splitN n ≤ splitN n := by
  obtain ⟨h1, h2, h3⟩ := splitN_pow h
  rw [h1]
  rw [Nat.pow_succ] at h3
  have := Nat.pow_pos (n := (n - 1).log2) (show 0 < 2 by omega)
  omega
theorem log2_is {x k : Nat} (h1 : 2 ^ k ≤ x) (h2 : x < 2 ^ (k + 1)) : x.log2 = k := by
  have hx : x ≠ 0 := by have := Nat.pow_pos (n := k) (show 0 < 2 by omega); omega
  have a1 := Nat.log2_self_le hx
  have a2 := Nat.lt_log2_self (n := x)
  have b1 : x.log2 < k + 1 := (Nat.pow_lt_pow_iff_right (by omega : 1 < 2)).1 (Nat.lt_of_le_of_lt a1 h2)
  have b2 : k < x.log2 + 1 := (Nat.pow_lt_pow_iff_right (by omega : 1 < 2)).1 (Nat.lt_of_le_of_lt h1 a2)
  omega
theorem splitN_is {n k : Nat} (h1 : 2 ^ k < n) (h2 : n ≤ 2 ^ (k + 1)) : splitN n = 2 ^ k ∧ depthN n = k + 1 := by
  have hk := Nat.pow_pos (n := k) (show 0 < 2 by omega)
  have hl := log2_is (x := n - 1) (k := k) (by omega) (by omega)
  unfold splitN depthN
  rw [if_neg (by omega), if_neg (by omega), hl]
  exact ⟨rfl, rfl⟩
theorem depthN_pow (k : Nat) : depthN (2 ^ k) = k := by
  cases k with
  | zero => rfl
  | succ k =>
    have hk := Nat.pow_pos (n := k) (show 0 < 2 by omega)
    exact (splitN_is (n := 2 ^ (k + 1)) (k := k) (by rw [Nat.pow_succ]; omega) (Nat.le_refl _)).2
theorem depthN_step {n : Nat} (h : 2 ≤ n) : depthN n = 1 + depthN (splitN n) := by
  obtain ⟨h1, h2, h3⟩ := splitN_pow h
  rw [h1, depthN_pow, (splitN_is h2 h3).2]
  omega
theorem depthN_mono {m n : Nat} (h : m ≤ n) : depthN m ≤ depthN n := by
  by_cases hm : m < 2
  · unfold depthN
    rw [if_pos hm]
    omega
  · obtain ⟨_, a2, a3⟩ := splitN_pow (n := m) (by omega)
    obtain ⟨_, b2, b3⟩ := splitN_pow (n := n) (by omega)
    rw [(splitN_is a2 a3).2, (splitN_is b2 b3).2]
    have : 2 ^ (m - 1).log2 < 2 ^ ((n - 1).log2 + 1) := by omega
    have := (Nat.pow_lt_pow_iff_right (by omega : 1 < 2)).1 this
    omega
abbrev nodeTag : List Nat := [110, 111, 100, 101]
abbrev noneTag : List Nat := [110, 111, 110, 101]
/-- A digest's bytes. -/
def hashN (s : List Nat) (L : List (List Nat)) : List Nat := (hashO s L).map Int.toNat
/-- Is it a digest? -/
def DigN (d : List Nat) : Prop := d.length = 32 ∧ ∀ x ∈ d, x < 256
theorem sumI_pos (l : List Nat) : ∀ x ∈ sumI l, 0 ≤ x ∧ x < 256 := by
  intro x hx
  unfold sumI digI at hx
  obtain ⟨k, _, rfl⟩ := List.mem_map.1 hx
  unfold digB
  omega
theorem hashO_pos (s : List Nat) (L : List (List Nat)) : ∀ x ∈ hashO s L, 0 ≤ x ∧ x < 256 := by
  unfold hashO
  cases frameO s L with
  | none =>
    intro x hx
    have : x = 0 := (List.mem_replicate.1 hx).2
    omega
  | some f => exact sumI_pos f
theorem toNat_cast {l : List Int} (h : ∀ x ∈ l, 0 ≤ x) : (l.map Int.toNat).map (fun n : Nat => (n : Int)) = l := by
  rw [List.map_map]
  conv => rhs; rw [← List.map_id l]
  exact List.map_congr_left fun x hx => by have := h x hx; simp; omega
theorem hashN_dig (s : List Nat) (L : List (List Nat)) : DigN (hashN s L) := by
  refine ⟨by unfold hashN; rw [List.length_map, hashO_len], fun x hx => ?_⟩
  obtain ⟨y, hy, rfl⟩ := List.mem_map.1 hx
  have := hashO_pos s L y hy
  omega
/-- A digest's cells. -/
theorem hashN_val (s : List Nat) (L : List (List Nat)) : nums .u8 (hashN s L) = ints .u8 (hashO s L) := by
  have := toNat_cast (l := hashO s L) fun x hx => (hashO_pos s L x hx).1
  unfold nums ints hashN
  conv => rhs; rw [← this]
  simp only [List.map_map]
  rfl
theorem hashN_inj {s t : List Nat} {L M : List (List Nat)} (h : hashN s L = hashN t M) : hashO s L = hashO t M := by
  have a := toNat_cast (l := hashO s L) fun x hx => (hashO_pos s L x hx).1
  have b := toNat_cast (l := hashO t M) fun x hx => (hashO_pos t M x hx).1
  unfold hashN at h
  rw [← a, h, b]
theorem frame_node {a b : List Nat} : frameO nodeTag [a, b] = some (frameL nodeTag [a, b]) := by unfold frameO; exact if_pos ⟨by decide, by decide, by simp⟩
theorem frame_none : frameO noneTag [] = some (frameL noneTag []) := by unfold frameO; exact if_pos ⟨by decide, by decide, by simp⟩
/-- The digest of all leaves, and the frames that are hashed for it. -/
def rootD (L : List (List Nat)) : List Nat × List (List Nat) :=
  if _h0 : L.length = 0 then (hashN noneTag [], [frameL noneTag []])
  else if _h1 : L.length = 1 then (L.getD 0 [], [])
  else
    let a := rootD (L.take (splitN L.length))
    let b := rootD (L.drop (splitN L.length))
    (hashN nodeTag [a.1, b.1], a.2 ++ b.2 ++ [frameL nodeTag [a.1, b.1]])
termination_by L.length
decreasing_by
  · have := splitN_lt (n := L.length) (by omega)
    rw [List.length_take]
    omega
  · have := splitN_lt (n := L.length) (by omega)
    rw [List.length_drop]
    omega
theorem rootD_nil : rootD [] = (hashN noneTag [], [frameL noneTag []]) := by rw [rootD]; rfl
theorem rootD_one (x : List Nat) : rootD [x] = (x, []) := by rw [rootD]; rfl
theorem rootD_many {L : List (List Nat)} (h : 2 ≤ L.length) : rootD L = (hashN nodeTag [(rootD (L.take (splitN L.length))).1, (rootD (L.drop (splitN L.length))).1],
    (rootD (L.take (splitN L.length))).2 ++ (rootD (L.drop (splitN L.length))).2 ++ [frameL nodeTag [(rootD (L.take (splitN L.length))).1, (rootD (L.drop (splitN L.length))).1]]) := by
  rw [rootD, dif_neg (by omega), dif_neg (by omega)]
/-- By halves. -/
theorem halves {C : List (List Nat) → Prop} (h0 : C []) (h1 : ∀ x, C [x]) (h2 : ∀ L, 2 ≤ L.length → C (L.take (splitN L.length)) → C (L.drop (splitN L.length)) → C L) : ∀ L, C L := by
  intro L
  induction hn : L.length using Nat.strongRecOn generalizing L with
  | _ n ih =>
    match L, hn with
    | [], _ => exact h0
    | [x], _ => exact h1 x
    | x :: y :: r, hn =>
      have hs := splitN_lt (n := (x :: y :: r).length) (by simp)
      refine h2 _ (by simp) (ih _ ?_ _ rfl) (ih _ ?_ _ rfl)
      · rw [List.length_take]; omega
      · rw [List.length_drop]; omega
def Digs (L : List (List Nat)) : Prop := ∀ d ∈ L, DigN d
theorem Digs.take {L : List (List Nat)} (h : Digs L) (k : Nat) : Digs (L.take k) := fun d hd => h d (List.mem_of_mem_take hd)
theorem Digs.drop {L : List (List Nat)} (h : Digs L) (k : Nat) : Digs (L.drop k) := fun d hd => h d (List.mem_of_mem_drop hd)
theorem rootD_dig : ∀ L, Digs L → DigN (rootD L).1 := by
  refine halves ?_ ?_ ?_
  · intro _; rw [rootD_nil]; exact hashN_dig _ _
  · intro x h; rw [rootD_one]; exact h x (by simp)
  · intro L h _ _ _; rw [rootD_many h]; exact hashN_dig _ _
/-- What is hashed for a root of some leaves: nodes, one less than there are leaves. -/
theorem rootD_nodes : ∀ L, Digs L → 1 ≤ L.length → (rootD L).2.length = L.length - 1 ∧ ∀ f ∈ (rootD L).2, ∃ a b, DigN a ∧ DigN b ∧ frameO nodeTag [a, b] = some f := by
  refine halves ?_ ?_ ?_
  · intro _ h; simp at h
  · intro x h _; rw [rootD_one]; exact ⟨rfl, by simp⟩
  · intro L h i1 i2 hd _
    obtain ⟨s1, s2, s3⟩ := splitN_lt h
    obtain ⟨a1, a2⟩ := i1 (hd.take _) (by rw [List.length_take]; omega)
    obtain ⟨b1, b2⟩ := i2 (hd.drop _) (by rw [List.length_drop]; omega)
    rw [rootD_many h]
    refine ⟨?_, ?_⟩
    · simp only [List.length_append, a1, b1, List.length_take, List.length_drop, List.length_cons, List.length_nil]
      omega
    · intro f hf
      simp only [List.mem_append, List.mem_singleton] at hf
      rcases hf with (hf | hf) | rfl
      · exact a2 f hf
      · exact b2 f hf
      · exact ⟨_, _, rootD_dig _ (hd.take _), rootD_dig _ (hd.drop _), frame_node⟩
/-- A root tells all leaves, or two frames have one digest. -/
theorem rootD_tells : ∀ L, Digs L → ∀ M, Digs M → M.length = L.length → (rootD L).1 = (rootD M).1 → L ≠ M → ∃ x ∈ (rootD L).2, ∃ y ∈ (rootD M).2, x ≠ y ∧ sumI x = sumI y := by
  refine halves ?_ ?_ ?_
  · intro _ M _ hl _ hne
    exact absurd (List.eq_nil_of_length_eq_zero hl).symm hne
  · intro x _ M _ hl hr hne
    match M, hl with
    | [y], _ =>
      rw [rootD_one, rootD_one] at hr
      have hr : x = y := hr
      rw [hr] at hne
      exact absurd rfl hne
  · intro L h i1 i2 hd M hm hl hr hne
    obtain ⟨s1, s2, s3⟩ := splitN_lt h
    have hM : 2 ≤ M.length := by omega
    rw [rootD_many h, rootD_many hM] at hr ⊢
    rw [hl] at hr ⊢
    have hr := hashN_inj hr
    have d1 := rootD_dig _ (hd.take (splitN L.length))
    have d2 := rootD_dig _ (hd.drop (splitN L.length))
    have d3 := rootD_dig _ (hm.take (splitN L.length))
    have d4 := rootD_dig _ (hm.drop (splitN L.length))
    have i1 := i1 (hd.take _) (M.take (splitN L.length)) (hm.take _) (by rw [List.length_take, List.length_take, hl])
    have i2 := i2 (hd.drop _) (M.drop (splitN L.length)) (hm.drop _) (by rw [List.length_drop, List.length_drop, hl])
    have hs : sumI (frameL nodeTag [(rootD (L.take (splitN L.length))).1, (rootD (L.drop (splitN L.length))).1]) = sumI (frameL nodeTag [(rootD (M.take (splitN L.length))).1, (rootD (M.drop (splitN L.length))).1]) := by
      unfold hashO at hr
      rw [frame_node, frame_node] at hr
      exact hr
    by_cases hf : frameL nodeTag [(rootD (L.take (splitN L.length))).1, (rootD (L.drop (splitN L.length))).1] = frameL nodeTag [(rootD (M.take (splitN L.length))).1, (rootD (M.drop (splitN L.length))).1]
    · have ap := (frame_apart (L := [(rootD (L.take (splitN L.length))).1, (rootD (L.drop (splitN L.length))).1]) (M := [(rootD (M.take (splitN L.length))).1, (rootD (M.drop (splitN L.length))).1])
        (by intro p hp; simp at hp; rcases hp with rfl | rfl; rw [d1.1]; omega; rw [d2.1]; omega) (by intro p hp; simp at hp; rcases hp with rfl | rfl; rw [d3.1]; omega; rw [d4.1]; omega) frame_node frame_node).1 hf
      have e := ap.2
      simp only [List.cons.injEq, and_true] at e
      by_cases h1 : L.take (splitN L.length) = M.take (splitN L.length)
      · have h2 : L.drop (splitN L.length) ≠ M.drop (splitN L.length) := fun h2 => hne (by rw [← List.take_append_drop (splitN L.length) L, h1, h2, List.take_append_drop])
        obtain ⟨x, hx, y, hy, r⟩ := i2 e.2 h2
        exact ⟨x, by simp [hx], y, by simp [hy], r⟩
      · obtain ⟨x, hx, y, hy, r⟩ := i1 e.1 h1
        exact ⟨x, by simp [hx], y, by simp [hy], r⟩
    · exact ⟨_, by simp, _, by simp, hf, hs⟩
/-- If two unlike frames have one digest, two are told. -/
theorem extractO_some {A B : List (List Nat)} {x y : List Nat} (hx : x ∈ A) (hy : y ∈ B) (hne : x ≠ y) (hs : sumI x = sumI y) : ∃ z, extractO A B = some z := by
  cases he : extractO A B with
  | some z => exact ⟨z, rfl⟩
  | none =>
    unfold extractO at he
    rw [List.findSome?_eq_none_iff] at he
    have := he x hx
    rw [Option.map_eq_none_iff, List.find?_eq_none] at this
    exact absurd (decide_eq_true ⟨hne, hs⟩) (this y hy)

end Go.Hm
/- bits.Len64's contract, laid at this seat (the fields are the program's own facts). -/

namespace Go.Proofs.YtgfemjpeegbhhaaDoor
open Go.Shelf
def lays129_ren : Go.Shelf.Ren := ⟨fun | 129 => 62 | n => n, fun | 53 => 64 | 3 => 3 | 4 => 4 | 46 => 49 | 5 => 5 | 9 => 9 | n => n, fun | n => n⟩
theorem lays129 : Go.Proofs.Lays.n129 Tryd.prog lays129_ren := {
  mixed := by kernel_rfl
  f129 := Tryd.func62.trans (congrArg some (by kernel_rfl))
  t3 := Tryd.underlying3
  a3 := Tryd.isAgg3
  z3 := Tryd.sizeOf3
  v3 := Tryd.zeroValue3
  t4 := Tryd.underlying4
  a4 := Tryd.isAgg4
  z4 := Tryd.sizeOf4
  v4 := Tryd.zeroValue4
  t5 := Tryd.underlying5
  a5 := Tryd.isAgg5
  z5 := Tryd.sizeOf5
  v5 := Tryd.zeroValue5
  t9 := Tryd.underlying9
  a9 := Tryd.isAgg9
  z9 := Tryd.sizeOf9
  v9 := Tryd.zeroValue9
  t46 := Tryd.underlying49
  a46 := Tryd.isAgg49
  z46 := Tryd.sizeOf49
  v46 := Tryd.zeroValue49
  t53 := Tryd.underlying64
  a53 := Tryd.isAgg64
  z53 := Tryd.sizeOf64
  v53 := Tryd.zeroValue64 }
theorem bits_Len64 (x : Int) (w : World) (h0 : 0 ≤ x) (h1 : x ≤ 18446744073709551615) :
    Calls Tryd.prog 62 #[.int .u64 x] w fun e w' => e = .returned (.int .i64 (Lib.bitLen x.toNat)) ∧ w' = w := Any.bits_Len64 lays129 x w h0 h1

end Go.Proofs.YtgfemjpeegbhhaaDoor
/- Contracts on tree.Split, Depth, and the document's own. -/

namespace Go.Hm
open Go Go.RowKit
theorem bitLen_iff2 (n : Nat) : ∀ k, k ≤ 64 → n < 18446744073709551616 → (Lib.bitLen n ≤ k ↔ n < 2 ^ k) := by
  intro k hk hn
  refine ⟨fun h => ?_, fun h => Lib.bitLen_le n k hk h⟩
  induction k generalizing n with
  | zero =>
    by_cases h0 : n = 0
    · omega
    · have := Lib.bitLen_half n h0 hn
      omega
  | succ k ih =>
    by_cases h0 : n = 0
    · subst h0; exact Nat.two_pow_pos _
    · have h1 := Lib.bitLen_half n h0 hn
      have h2 := ih (n / 2) (by omega) (by omega) (by omega)
      rw [Nat.pow_succ]; omega
theorem bitLen_log {x : Nat} (h0 : x ≠ 0) (h : x < 9223372036854775808) : Lib.bitLen x = x.log2 + 1 ∧ x.log2 < 63 := by
  have a1 := Nat.log2_self_le h0
  have a2 := Nat.lt_log2_self (n := x)
  have hl : x.log2 < 63 := (Nat.pow_lt_pow_iff_right (by omega : 1 < 2)).1 (Nat.lt_of_le_of_lt a1 h)
  have b1 := (bitLen_iff2 x (x.log2 + 1) (by omega) (by omega)).2 a2
  have b2 : ¬ Lib.bitLen x ≤ x.log2 := fun hb => by
    have := (bitLen_iff2 x x.log2 (by omega) (by omega)).1 hb
    omega
  omega

end Go.Hm

namespace Go.Proofs.YtgfemjpeegbhhaaDoor
open Go.RowKit Go.Hm
theorem len_any (x : Nat) (w : World) (h : x ≤ 9223372036854775807) : Calls Tryd.prog 41 #[.int .u64 (x : Int)] w (ValPost (.int .i64 (Lib.bitLen x : Nat)) w) := by
  have L := Lib.hid (bits_Len64 (x : Int) w (by omega) (by omega))
  go_enter Tryd.func41, Tryd.ntmps41
  go_wp2_with (go_at_call 62; refine L.out.mono ?_; rintro e w' ⟨rfl, rfl⟩)
  go_ret
  exact ⟨by simp, rfl⟩
set_option maxHeartbeats 1000000 in
theorem split_any (n : Int) (w : World) (h0 : -9223372036854775808 ≤ n) (h : n ≤ 9223372036854775807) : Calls Tryd.prog 23 #[.int .i64 n] w (ValPost (.int .i64 (splitN n.toNat : Nat)) w) := by
  by_cases h2 : n < 2
  · have hs : splitN n.toNat = 0 := by unfold splitN; exact if_pos (by omega)
    rw [hs]
    have d : decide (n < 2) = true := decide_eq_true h2
    go_enter Tryd.func23, Tryd.ntmps23
    go_wp2
    go_ret
    exact ⟨by simp, rfl⟩
  · have d : decide (n < 2) = false := decide_eq_false h2
    obtain ⟨m, rfl⟩ : ∃ m : Nat, n = (m : Int) := ⟨n.toNat, by omega⟩
    obtain ⟨s1, s2, s3⟩ := splitN_pow (n := m) (by omega)
    obtain ⟨b1, b2⟩ := bitLen_log (x := m - 1) (by omega) (by omega)
    have L := len_any (m - 1) w (by omega)
    rw [b1] at L
    have L := Lib.hid L
    have e1 : (m : Int) - 1 = ((m - 1 : Nat) : Int) := by omega
    rw [Int.toNat_natCast, s1]
    have hp : 2 ^ (m - 1).log2 < 9223372036854775808 := by omega
    generalize hk : (m - 1).log2 = k at *
    obtain ⟨p, hpp⟩ : ∃ p, p = 2 ^ k := ⟨_, rfl⟩
    have e2 : ((k + 1 : Nat) : Int) - 1 = (k : Int) := by omega
    clear s1 s2 s3 b1 hk
    go_enter Tryd.func23, Tryd.ntmps23
    go_wp2_with (go_at_call 41; refine L.out.mono ?_; rintro e w' ⟨rfl, rfl⟩)
    go_ret
    have c : (2 : Int) ^ k = (p : Int) := by rw [hpp]; simp
    have c2 : wrap64 ((2 : Int) ^ k) = ((2 ^ k : Nat) : Int) := by
      rw [c, ← hpp]
      rw [← hpp] at hp
      unfold wrap64
      omega
    exact ⟨by rw [← c2]; rfl, rfl⟩
/-- The document's own halves. -/
theorem split_loop {n k : Nat} (hk : 2 ^ k < n) : (2 ^ k < n - 2 ^ k ↔ 2 ^ (k + 1) < n) := by
  rw [Nat.pow_succ]
  omega
set_option maxHeartbeats 1000000 in
theorem rsplit_any (n : Int) (w : World) (h0 : -9223372036854775808 ≤ n) (h : n ≤ 1152921504606846976) : Calls Tryd.prog 24 #[.int .i64 n] w (ValPost (.int .i64 (splitN n.toNat : Nat)) w) := by
  by_cases h2 : n < 2
  · have hs : splitN n.toNat = 0 := by unfold splitN; exact if_pos (by omega)
    rw [hs]
    have d : decide (n < 2) = true := decide_eq_true h2
    go_enter Tryd.func24, Tryd.ntmps24
    go_wp2
    go_ret
    exact ⟨by simp, rfl⟩
  · have d : decide (n < 2) = false := decide_eq_false h2
    obtain ⟨m, rfl⟩ : ∃ m : Nat, n = (m : Int) := ⟨n.toNat, by omega⟩
    go_enter Tryd.func24, Tryd.ntmps24
    go_wp2
    go_loop [3] (fun v => ∃ k p : Nat, v = .int .i64 (p : Int) ∧ Hid (p = 2 ^ k) ∧ p < m) (fun v => m - (intOf v).toNat)
    case atStart => exact ⟨0, 1, rfl, Lib.hid rfl, by omega⟩
    case round =>
      obtain ⟨k, p, rfl, HP, hp⟩ := hrel
      have hp0 : 0 < p := by rw [HP.out]; exact Nat.pow_pos (by omega)
      by_cases hlt : p < m - p
      · have d2 : decide ((p : Int) < (m : Int) - (p : Int)) = true := decide_eq_true (by omega)
        have HP2 := Lib.hid (show 2 * p = 2 ^ (k + 1) by rw [HP.out, Nat.pow_succ]; omega)
        go_wp2
        go_round
        case rel => exact ⟨k + 1, 2 * p, by go_num, HP2, by omega⟩
        case measure => simp [intOf]; omega
      · have d2 : decide ((p : Int) < (m : Int) - (p : Int)) = false := decide_eq_false (by omega)
        have hs := (splitN_is (n := m) (k := k) (by rw [← HP.out]; exact hp) (by rw [Nat.pow_succ, ← HP.out]; omega)).1
        have HS := Lib.hid hs
        clear hs
        go_wp2
        go_ret
        exact ⟨by rw [HS.out, ← HP.out]; rfl, rfl⟩
/-- Depths, of numbers that were halved. -/
theorem depth_any : ∀ (k : Nat) (n : Int) (w : World), n.toNat < k → -9223372036854775808 ≤ n → n ≤ 9223372036854775807 → Calls Tryd.prog 25 #[.int .i64 n] w (ValPost (.int .i64 (depthN n.toNat : Nat)) w) := by
  intro k
  induction k with
  | zero => intro n w hk; omega
  | succ k ih =>
    intro n w hk h0 h1
    by_cases h2 : n < 2
    · have hs : depthN n.toNat = 0 := by unfold depthN; exact if_pos (by omega)
      rw [hs]
      have d : decide (n < 2) = true := decide_eq_true h2
      clear ih
      go_enter Tryd.func25, Tryd.ntmps25
      go_wp2
      go_ret
      exact ⟨by simp, rfl⟩
    · have d : decide (n < 2) = false := decide_eq_false h2
      have s := splitN_lt (n := n.toNat) (by omega)
      have S := Lib.hid (split_any n w h0 h1)
      have D := Lib.hid (ih (splitN n.toNat : Nat) w (by omega) (by omega) (by omega))
      have e := depthN_step (n := n.toNat) (by omega)
      have e2 : depthN n.toNat ≤ 63 := by
        unfold depthN
        rw [if_neg (by omega)]
        have := (bitLen_log (x := n.toNat - 1) (by omega) (by omega)).2
        omega
      rw [Int.toNat_natCast] at D
      have HE := Lib.hid e
      have e3 : depthN (splitN n.toNat) ≤ 62 := by omega
      generalize depthN (splitN n.toNat) = dd at *
      generalize depthN n.toNat = dn at *
      generalize splitN n.toNat = sn at *
      clear ih e s
      go_enter Tryd.func25, Tryd.ntmps25
      go_wp2_with fail
      refine S.out.mono ?_
      rintro e w' ⟨rfl, rfl⟩
      go_wp2_with fail
      refine D.out.mono ?_
      rintro e w' ⟨rfl, rfl⟩
      go_wp2
      go_ret
      exact ⟨by rw [HE.out]; simp, rfl⟩
theorem rdepth_any : ∀ (k : Nat) (n : Int) (w : World), n.toNat < k → -9223372036854775808 ≤ n → n ≤ 1152921504606846976 → Calls Tryd.prog 26 #[.int .i64 n] w (ValPost (.int .i64 (depthN n.toNat : Nat)) w) := by
  intro k
  induction k with
  | zero => intro n w hk; omega
  | succ k ih =>
    intro n w hk h0 h1
    by_cases h2 : n < 2
    · have hs : depthN n.toNat = 0 := by unfold depthN; exact if_pos (by omega)
      rw [hs]
      have d : decide (n < 2) = true := decide_eq_true h2
      clear ih
      go_enter Tryd.func26, Tryd.ntmps26
      go_wp2
      go_ret
      exact ⟨by simp, rfl⟩
    · have d : decide (n < 2) = false := decide_eq_false h2
      have s := splitN_lt (n := n.toNat) (by omega)
      have S := Lib.hid (rsplit_any n w h0 h1)
      have D := Lib.hid (ih (splitN n.toNat : Nat) w (by omega) (by omega) (by omega))
      have e := depthN_step (n := n.toNat) (by omega)
      have e2 : depthN n.toNat ≤ 63 := by
        unfold depthN
        rw [if_neg (by omega)]
        have := (bitLen_log (x := n.toNat - 1) (by omega) (by omega)).2
        omega
      rw [Int.toNat_natCast] at D
      have HE := Lib.hid e
      have e3 : depthN (splitN n.toNat) ≤ 62 := by omega
      generalize depthN (splitN n.toNat) = dd at *
      generalize depthN n.toNat = dn at *
      generalize splitN n.toNat = sn at *
      clear ih e s
      go_enter Tryd.func26, Tryd.ntmps26
      go_wp2_with fail
      refine S.out.mono ?_
      rintro e w' ⟨rfl, rfl⟩
      go_wp2_with fail
      refine D.out.mono ?_
      rintro e w' ⟨rfl, rfl⟩
      go_wp2
      go_ret
      exact ⟨by rw [HE.out]; simp, rfl⟩

end Go.Proofs.YtgfemjpeegbhhaaDoor
/- Contracts on law02.Few, tag.Frame, hypostyleref02.Frame. -/

namespace Go.Hm
open Go Go.RowKit
theorem RowsAt.at_ {w : World} {A : Option Addr} {n c : Nat} {D : List PartS} (h : RowsAt w A n c D) {k : Nat} (hk : k < D.length) :
    ∃ ad, A = some ad ∧ ad.block < w.heap.size ∧ w.cell? (ad.add k) = some (.slice (D.getD k (none, 0, [])).1 (D.getD k (none, 0, [])).2.2.length (D.getD k (none, 0, [])).2.1) := by
  obtain ⟨ad, u, e, hb, hu, hc⟩ := h.row.at_ (k := k) (by rw [h.len]; exact hk)
  have := recs_at (f := partV) (sz := 1) (fun _ => rfl) D (none, 0, []) k 0 hk (by omega)
  rw [Nat.mul_one, Nat.add_zero] at this
  rw [this] at hu
  obtain rfl := Option.some.inj hu
  exact ⟨ad, e, hb, hc⟩
/-- How many bytes rows have. -/
def tsum (L : List (List Nat)) : Nat := (L.map List.length).sum
theorem tsum_snoc (L : List (List Nat)) (p : List Nat) : tsum (L ++ [p]) = tsum L + p.length := by simp [tsum]
theorem tsum_take_le (L : List (List Nat)) (k : Nat) : tsum (L.take k) ≤ tsum L := by
  have e : tsum L = tsum (L.take k) + tsum (L.drop k) := by
    unfold tsum
    rw [← List.sum_append, ← List.map_append, List.take_append_drop]
  omega
theorem tsum_take {L : List (List Nat)} {k : Nat} (hk : k < L.length) : tsum (L.take (k + 1)) = tsum (L.take k) + (L.getD k []).length := by
  rw [take_snoc _ k [] hk, tsum_snoc]
theorem tsum_le {L : List (List Nat)} {M : Nat} (h : ∀ p ∈ L, p.length ≤ M) : tsum L ≤ L.length * M := by
  induction L with
  | nil => simp [tsum]
  | cons p L ih =>
    have h1 := ih fun q hq => h q (by simp [hq])
    have h2 := h p (by simp)
    simp only [tsum, List.map_cons, List.sum_cons, List.length_cons, Nat.succ_mul] at *
    omega
def fewT (L : List (List Nat)) : Bool := decide (L.length ≤ 260 ∧ tsum L ≤ 1500)
theorem mem_getD {L : List (List Nat)} {k : Nat} (hk : k < L.length) : L.getD k [] ∈ L := by
  rw [List.getD_eq_getElem?_getD, List.getElem?_eq_getElem hk]
  exact List.getElem_mem hk

end Go.Hm

namespace Go.Proofs.YtgfemjpeegbhhaaDoor
open Go.RowKit Go.Hm

end Go.Proofs.YtgfemjpeegbhhaaDoor
/- Contracts on tag.Frame, hypostyleref02.Frame. -/

namespace Go.Hm
open Go Go.RowKit
/-- What stands in a frame ahead of its parts, and so many of them. -/
def headL (s : List Nat) (n : Nat) : List Nat := s.length :: (s ++ [n])
def upL (s : List Nat) (L : List (List Nat)) (k : Nat) : List Nat := headL s L.length ++ (L.take k).flatMap partL
theorem headL_len (s : List Nat) (n : Nat) : (headL s n).length = s.length + 2 := by simp [headL]
theorem upL_zero (s : List Nat) (L : List (List Nat)) : upL s L 0 = headL s L.length := by simp [upL]
theorem upL_all (s : List Nat) (L : List (List Nat)) : upL s L L.length = frameL s L := by simp [upL, headL, frameL]
theorem upL_snoc (s : List Nat) (L : List (List Nat)) {k : Nat} (hk : k < L.length) : upL s L (k + 1) = upL s L k ++ partL (L.getD k []) := by
  rw [upL, upL, take_snoc _ k [] hk, List.flatMap_append, List.append_assoc]; simp
theorem upL_len (s : List Nat) (L : List (List Nat)) {k : Nat} (hk : k ≤ L.length) : (upL s L k).length = 2 + s.length + 8 * k + tsum (L.take k) := by
  rw [upL, List.length_append, headL_len, parts_len, List.length_take, Nat.min_eq_left hk]
  unfold tsum
  omega

end Go.Hm

namespace Go.Proofs.YtgfemjpeegbhhaaDoor
open Go.RowKit Go.Hm
set_option maxHeartbeats 2000000 in
set_option maxRecDepth 100000 in
theorem frame_any {w : World} {s : List Nat} {A : Option Addr} {n c : Nat} {D : List PartS} (h : RowsAt w A n c D) (hn : n ≤ 9223372036854775806) (hs8 : ∀ x ∈ s, x < 256) (hs : s.length ≤ 140737488351232) (ht : tsum (bytesOf D) ≤ 1099511627776) :
    Calls Tryd.prog 57 #[.string (bstr s), .slice A n c] w (OptB (frameO s (bytesOf D)) w) := by
  obtain rfl := h.len
  have hz := bstr_size s
  have hB := bytesOf_len D
  have HR := Lib.hid h
  have H8 := Lib.hid hs8
  have HT := Lib.hid ht
  by_cases h1 : s.length = 0
  · have hO : frameO s (bytesOf D) = none := by unfold frameO; exact if_neg (by omega)
    rw [hO]
    obtain rfl := List.eq_nil_of_length_eq_zero h1
    clear h hs8 ht hO
    go_enter Tryd.func57, Tryd.ntmps57
    go_wp2
    go_ret2
    exact ⟨rfl, Below.refl _ _⟩
  by_cases h2 : 255 < s.length
  · have hO : frameO s (bytesOf D) = none := by unfold frameO; exact if_neg (by omega)
    rw [hO]
    have d0 : ((s.length : Int) == 0) = false := by rw [beq_eq_false_iff_ne]; omega
    have d1 : decide ((255 : Int) < (s.length : Int)) = true := by simp; omega
    clear h hs8 ht hO
    go_enter Tryd.func57, Tryd.ntmps57
    go_wp2
    go_ret2
    exact ⟨rfl, Below.refl _ _⟩
  by_cases h3 : 255 < D.length
  · have hO : frameO s (bytesOf D) = none := by unfold frameO; exact if_neg (by omega)
    rw [hO]
    have d0 : ((s.length : Int) == 0) = false := by rw [beq_eq_false_iff_ne]; omega
    have d1 : decide ((255 : Int) < (s.length : Int)) = false := by simp; omega
    have d2 : decide ((255 : Int) < (D.length : Int)) = true := by simp; omega
    clear h hs8 ht hO
    go_enter Tryd.func57, Tryd.ntmps57
    go_wp2
    go_ret2
    exact ⟨rfl, Below.refl _ _⟩
  have hO : frameO s (bytesOf D) = some (frameL s (bytesOf D)) := by unfold frameO; exact if_pos (by omega)
  rw [hO]
  have d0 : ((s.length : Int) == 0) = false := by rw [beq_eq_false_iff_ne]; omega
  have d1 : decide ((255 : Int) < (s.length : Int)) = false := by simp; omega
  have d2 : decide ((255 : Int) < (D.length : Int)) = false := by simp; omega
  have hD : D.length ≤ 255 := by omega
  have hs2 : s.length ≤ 255 := by omega
  have HB := Lib.hid hB
  have a1 : IntKind.u8.wrap (s.length : Int) = (s.length : Int) := by simp [IntKind.wrap, IntKind.bits, IntKind.signed]; omega
  clear h hs8 ht hO h1 h2 h3 hB
  go_enter Tryd.func57, Tryd.ntmps57
  go_wp2
  go_loop [6, 31] (fun z i => ∃ (k m : Nat), k ≤ D.length ∧ i = .int .i64 (k : Int) ∧ z = .int .i64 (m : Int) ∧ m ≤ 1099511640000 ∧ Hid (m = 2 + s.length + 8 * k + tsum ((bytesOf D).take k))) (fun _ i => D.length - (intOf i).toNat)
  case atStart => exact ⟨0, 2 + s.length, by omega, rfl, by go_num, by omega, Lib.hid (by simp [tsum])⟩
  case round =>
    obtain ⟨k, m, hk, rfl, rfl, hm, HM⟩ := hrel
    by_cases hlt : k < D.length
    · obtain ⟨ad, rfl, hb, hc⟩ := HR.out.at_ hlt
      have e1 := bytesOf_at D k
      generalize D.getD k (none, 0, []) = d at *
      have h4 := tsum_take (L := bytesOf D) (k := k) (by rw [HB.out]; exact hlt)
      rw [e1] at h4
      have h6 := tsum_take_le (bytesOf D) (k + 1)
      have hm3 : m + (8 + d.2.2.length) = 2 + s.length + 8 * (k + 1) + tsum ((bytesOf D).take (k + 1)) := by rw [h4, HM.out]; omega
      have hd : d.2.2.length ≤ 1099511627776 := by have := HT.out; omega
      have hm4 : m + (8 + d.2.2.length) ≤ 1099511640000 := by have := HT.out; omega
      have HM3 := Lib.hid hm3
      clear e1 h4 h6 hm3
      obtain ⟨m2, hm2⟩ : ∃ x, x = m + (8 + d.2.2.length) := ⟨_, rfl⟩
      have i1 : (m : Int) + (8 + (d.2.2.length : Int)) = (m2 : Int) := by omega
      rw [← hm2] at HM3 hm4
      clear hm2
      go_wp2
      go_round
      case rel => exact ⟨k + 1, m2, by omega, by go_num, by go_num, hm4, HM3⟩
      case measure => simp [intOf]; omega
    · obtain rfl : k = D.length := by omega
      clear HM
      have a1 : (s.length : Int) % 256 = (s.length : Int) := by omega
      have a2 : (D.length : Int) % 256 = (D.length : Int) := by omega
      go_wp2_with (first
        | (refine wpList_mk elB rfl (.const (.int .i64 0)) (.tmp 41) rfl (W := w) (B := w.heap.size) 0 m rfl rfl rfl rfl (by omega) (Below.refl _ _) (Nat.le_refl _) rfl (by omega) (by simp only [maxLen]; omega) ?_
           intro w1 o1 g1 b1 s1
           have z1 := b1.size
           clear g1 s1)
        | (refine wpList_pushN elB rfl (.tmp 43) (.tmp 47) rfl (W := w) (B := w.heap.size) (k := .u8) (l := []) o1 rfl rfl s.length rfl b1 (Nat.le_refl _) z1 (by omega) (by simp only [maxLen]; omega) ?_
           intro A2 c2 w2 _ _ o2 _ b2 _ _
           have z2 := b2.size)
        | (refine wpList_pushStr elB strT rfl (.tmp 49) (.tmp 50) rfl (W := w) (B := w.heap.size) o2 H8.out rfl rfl b2 (Nat.le_refl _) z2 (by omega) ?_
           intro A3 c3 w3 _ _ o3 _ b3
           have z3 := b3.size)
        | (refine wpList_pushN elB rfl (.tmp 52) (.tmp 56) rfl (W := w) (B := w.heap.size) o3 rfl rfl D.length rfl b3 (Nat.le_refl _) z3 (by omega) (by simp only [maxLen]; omega) ?_
           intro A4 c4 w4 _ _ o4 _ b4 _ _))
      have B4 := Lib.hid b4
      have O4 := Lib.hid (show Own w4 w.heap.size 5 (.slice A4 (0 + 1 + s.length + 1) c4) (nums .u8 (upL s (bytesOf D) 0)) by rw [upL_zero, headL, HB.out]; simpa using o4)
      clear o1 b1 z1 o2 b2 z2 o3 b3 z3 o4 b4
      have R4 := Lib.hid (HR.out)
      obtain ⟨q4, hq4⟩ : ∃ q, q = 0 + 1 + s.length + 1 := ⟨_, rfl⟩
      rw [← hq4] at O4 ⊢
      have HQ4 := Lib.hid (show q4 = 2 + s.length + 8 * 0 + tsum ((bytesOf D).take 0) by rw [hq4]; simp [tsum]; omega)
      clear hq4
      go_loopw [9, 60] (fun v i wr => ∃ (k q c : Nat) (A : Option Addr), k ≤ D.length ∧ i = .int .i64 (k : Int) ∧ v = .slice A q c ∧ Hid (q = 2 + s.length + 8 * k + tsum ((bytesOf D).take k)) ∧ Hid (Own wr w.heap.size 5 (.slice A q c) (nums .u8 (upL s (bytesOf D) k))) ∧ Hid (New w wr)) (fun _ i _ => D.length - (intOf i).toNat)
      case atStart => exact ⟨0, q4, c4, A4, by omega, rfl, rfl, HQ4, O4, B4⟩
      case round =>
        clear HQ4 O4 B4
        obtain ⟨k, q, cq, Aq, hk, rfl, rfl, HQ, O, b⟩ := hrel
        by_cases hlt : k < D.length
        · obtain ⟨ad, rfl, hb, hc⟩ := (HR.out.later b.out).at_ hlt
          have RD := Lib.hid (fun (W : World) (hW : New w W) => ((HR.out.later hW).parts.at_ hlt).1)
          have e1 := bytesOf_at D k
          have US := upL_snoc s (bytesOf D) (k := k) (by rw [HB.out]; exact hlt)
          have h4 := tsum_take (L := bytesOf D) (k := k) (by rw [HB.out]; exact hlt)
          have h6 := tsum_take_le (bytesOf D) (k + 1)
          rw [e1] at h4 US
          generalize D.getD k (none, 0, []) = d at *
          have hp : d.2.2.length ≤ 1099511627776 := by have := HT.out; omega
          have hq : q ≤ 1099511640000 := by have := HT.out; have := HQ.out; omega
          have HQ2 := Lib.hid (show q + 8 + d.2.2.length = 2 + s.length + 8 * (k + 1) + tsum ((bytesOf D).take (k + 1)) by rw [h4, HQ.out]; omega)
          have HUS := Lib.hid US
          have O2 := Lib.hid (show Own wr w.heap.size 5 (.slice Aq (q + 0) cq) (nums .u8 (upL s (bytesOf D) k ++ low d.2.2.length 0)) by simpa [low] using O.out)
          have hlow := Lib.hid (fun j => show (upL s (bytesOf D) k ++ low d.2.2.length j).length = (upL s (bytesOf D) k).length + j by rw [List.length_append, low_len])
          clear e1 US h4 h6 HQ O
          go_wp2
          go_loopw [9, 64] (fun v i wr => ∃ (j c : Nat) (A : Option Addr), j ≤ 8 ∧ i = .int .i64 (j : Int) ∧ v = .slice A (q + j) c ∧ Hid (Own wr w.heap.size 5 (.slice A (q + j) c) (nums .u8 (upL s (bytesOf D) k ++ low d.2.2.length j))) ∧ Hid (New w wr)) (fun _ i _ => 8 - (intOf i).toNat)
          case atStart => exact ⟨0, cq, Aq, by omega, rfl, rfl, O2, b⟩
          case round =>
            clear O2 b hc hb
            obtain ⟨j, cj, Aj, hj, rfl, rfl, O, b⟩ := hrel
            by_cases hlj : j < 8
            · have S := Lib.hid (byte_at d.2.2.length j)
              have j1 : (8 : Int) * (j : Int) < 64 := by omega
              have o := O.out
              have b0 := b.out
              have hz := b0.size
              clear O b
              go_wp2_with (refine wpList_pushN elB rfl (.tmp 67) (.tmp 75) rfl (W := w) (B := w.heap.size) o rfl rfl (d.2.2.length / 256 ^ j % 256) (by rw [S.out]) b0 (Nat.le_refl _) (by omega) (by omega) (by simp only [maxLen]; omega) ?_
                           intro A3 c3 w3 _ _ o3 _ b3 _ _)
              have O3 := Lib.hid (show Own w3 w.heap.size 5 (.slice A3 (q + (j + 1)) c3) (nums .u8 (upL s (bytesOf D) k ++ low d.2.2.length (j + 1))) by rw [List.append_assoc] at o3; exact o3)
              have B3 := Lib.hid b3
              clear o o3 b0 b3
              go_roundw
              case rel => exact ⟨j + 1, c3, A3, by omega, by go_num, rfl, O3, B3⟩
              case measure => simp [intOf]; omega
            · obtain rfl : j = 8 := by omega
              have o := O.out
              have b0 := b.out
              have r0 := RD.out _ b0
              have hz := b0.size
              clear O b
              go_wp2_with (refine wpList_pushesN elB rfl (.tmp 78) (.tmp 79) rfl (W := w) (B := w.heap.size) (base := w.heap.size) o r0 rfl rfl b0 (Nat.le_refl _) (by omega) (by omega) (by simp only [maxLen]; omega) ?_
                           intro A3 c3 w3 _ _ o3 _ b3 _)
              have O3 := Lib.hid (show Own w3 w.heap.size 5 (.slice A3 (q + 8 + d.2.2.length) c3) (nums .u8 (upL s (bytesOf D) (k + 1))) by rw [HUS.out, partL, ← List.append_assoc]; exact o3)
              have B3 := Lib.hid b3
              clear o o3 b0 b3 r0
              go_roundw
              case rel => exact ⟨k + 1, q + 8 + d.2.2.length, c3, A3, by omega, by go_num, rfl, HQ2, O3, B3⟩
              case measure => simp [intOf]; omega
        · obtain rfl : k = D.length := by omega
          have o := O.out
          rw [← HB.out, upL_all] at o
          have O5 := Lib.hid o
          clear o O
          go_wp2
          go_ret2
          exact ⟨_, _, _, rfl, O5.out, b.out⟩

end Go.Proofs.YtgfemjpeegbhhaaDoor
/- Contracts on hypostyleref02.Frame, Same. -/

namespace Go.Proofs.YtgfemjpeegbhhaaDoor
open Go.RowKit Go.Hm
set_option maxHeartbeats 1000000 in
theorem long_any {w : World} (x : Nat) (hx : x ≤ 9223372036854775807) :
    Calls Tryd.prog 67 #[.int .i64 (x : Int)] w (BytesPost (low x 8) w) := by
  go_enter Tryd.func67, Tryd.ntmps67
  go_wp2
  go_loopw [0, 3, 4] (fun n v i wr => ∃ (k c : Nat) (A : Option Addr), k ≤ 8 ∧ i = .int .i64 (k : Int) ∧ n = .int .i64 ((x / 256 ^ k : Nat) : Int) ∧ v = .slice A k c ∧ Hid (Own wr w.heap.size 5 (.slice A k c) (nums .u8 (low x k))) ∧ Hid (New w wr)) (fun _ _ i _ => 8 - (intOf i).toNat)
  case atStart => exact ⟨0, 0, none, by omega, rfl, by simp, rfl, Lib.hid Own.nil_, Lib.hid (Below.refl _ _)⟩
  case round =>
    obtain ⟨k, c, A, hk, rfl, rfl, rfl, O, b⟩ := hrel
    by_cases hlt : k < 8
    · obtain ⟨y, hy⟩ : ∃ y, y = x / 256 ^ k := ⟨_, rfl⟩
      have S := Lib.hid (show (y : Int) % 256 = ((x / 256 ^ k % 256 : Nat) : Int) by rw [← hy]; omega)
      have hyx : y ≤ x := by rw [hy]; exact Nat.div_le_self _ _
      have HY := Lib.hid (show x / 256 ^ (k + 1) = y / 256 by rw [hy, Nat.pow_succ, Nat.div_div_eq_div_mul])
      have o := O.out
      have b0 := b.out
      have hz := b0.size
      rw [← hy]
      obtain ⟨z, hz2⟩ : ∃ z, z = y / 256 := ⟨_, rfl⟩
      have q1 : (y : Int).tdiv 256 = (z : Int) := by rw [Int.tdiv_eq_ediv_of_nonneg (by omega)]; omega
      have q2 : (y : Int) / 256 = (z : Int) := by omega
      rw [← hz2] at HY
      clear O b hy hz2
      go_wp2_with (refine wpList_pushN elB rfl (.tmp 9) (.tmp 12) rfl (W := w) (B := w.heap.size) o rfl rfl (x / 256 ^ k % 256) (by rw [S.out]) b0 (Nat.le_refl _) (by omega) (by omega) (by simp only [maxLen]; omega) ?_
                   intro A3 c3 w3 _ _ o3 _ b3 _ _)
      have O3 := Lib.hid (show Own w3 w.heap.size 5 (.slice A3 (k + 1) c3) (nums .u8 (low x (k + 1))) from o3)
      have B3 := Lib.hid b3
      clear o o3 b0 b3
      go_roundw
      case rel => exact ⟨k + 1, c3, A3, by omega, by go_num, by rw [HY.out], rfl, O3, B3⟩
      case measure => simp [intOf]; omega
    · obtain rfl : k = 8 := by omega
      go_wp2
      go_ret
      exact ⟨A, 8, c, rfl, O.out, b.out⟩
set_option maxHeartbeats 2000000 in
set_option maxRecDepth 100000 in
theorem rframe_any {w : World} {s : List Nat} {A : Option Addr} {n c : Nat} {D : List PartS} (h : RowsAt w A n c D) (hn : n ≤ 9223372036854775806) (hs8 : ∀ x ∈ s, x < 256) (hs : s.length ≤ 140737488351232) (ht : tsum (bytesOf D) ≤ 1099511627776) :
    Calls Tryd.prog 59 #[.string (bstr s), .slice A n c] w (OptB (frameO s (bytesOf D)) w) := by
  obtain rfl := h.len
  have hz := bstr_size s
  have hB := bytesOf_len D
  have HR := Lib.hid h
  have H8 := Lib.hid hs8
  have HT := Lib.hid ht
  by_cases h1 : s.length < 1
  · have hO : frameO s (bytesOf D) = none := by unfold frameO; exact if_neg (by omega)
    rw [hO]
    obtain rfl := List.eq_nil_of_length_eq_zero (show s.length = 0 by omega)
    clear h hs8 ht hO
    go_enter Tryd.func59, Tryd.ntmps59
    go_wp2
    go_ret2
    exact ⟨rfl, Below.refl _ _⟩
  by_cases h2 : 255 < s.length
  · have hO : frameO s (bytesOf D) = none := by unfold frameO; exact if_neg (by omega)
    rw [hO]
    have d0 : decide ((s.length : Int) < 1) = false := decide_eq_false (by omega)
    have d1 : decide ((255 : Int) < (s.length : Int)) = true := decide_eq_true (by omega)
    clear h hs8 ht hO
    go_enter Tryd.func59, Tryd.ntmps59
    go_wp2
    go_ret2
    exact ⟨rfl, Below.refl _ _⟩
  by_cases h3 : 255 < D.length
  · have hO : frameO s (bytesOf D) = none := by unfold frameO; exact if_neg (by omega)
    rw [hO]
    have d0 : decide ((s.length : Int) < 1) = false := decide_eq_false (by omega)
    have d1 : decide ((255 : Int) < (s.length : Int)) = false := decide_eq_false (by omega)
    have d2 : decide ((255 : Int) < (D.length : Int)) = true := decide_eq_true (by omega)
    clear h hs8 ht hO
    go_enter Tryd.func59, Tryd.ntmps59
    go_wp2
    go_ret2
    exact ⟨rfl, Below.refl _ _⟩
  have hO : frameO s (bytesOf D) = some (frameL s (bytesOf D)) := by unfold frameO; exact if_pos (by omega)
  rw [hO]
  have d0 : decide ((s.length : Int) < 1) = false := decide_eq_false (by omega)
  have d1 : decide ((255 : Int) < (s.length : Int)) = false := decide_eq_false (by omega)
  have d2 : decide ((255 : Int) < (D.length : Int)) = false := decide_eq_false (by omega)
  have hD : D.length ≤ 255 := by omega
  have hs2 : s.length ≤ 255 := by omega
  have HB := Lib.hid hB
  have a1 : (s.length : Int) % 256 = (s.length : Int) := by omega
  have a2 : (D.length : Int) % 256 = (D.length : Int) := by omega
  have o1 : Own (w.alloc (.cells #[.int .u8 (s.length : Int)] 5)) w.heap.size 5 (.slice (some ⟨w.heap.size, 0, none⟩) 1 1) (nums .u8 [s.length]) := own_lit w 5 .u8 [s.length] (by simp [maxLen])
  have b1 : New w (w.alloc (.cells #[.int .u8 (s.length : Int)] 5)) := (Below.refl _ _).alloc (Nat.le_refl _) _
  have z1 := b1.size
  clear h hs8 ht hO h1 h2 h3 hB
  go_enter Tryd.func59, Tryd.ntmps59
  go_wp2_with (first
    | (refine wpList_pushStr elB strT rfl (.tmp 25) (.tmp 26) rfl (W := w) (B := w.heap.size) o1 H8.out rfl rfl b1 (Nat.le_refl _) z1 (by omega) ?_
       intro A3 c3 w3 _ _ o3 _ b3
       have z3 := b3.size
       clear o1 b1 z1)
    | (refine wpList_pushN elB rfl (.tmp 28) (.tmp 32) rfl (W := w) (B := w.heap.size) o3 rfl rfl D.length rfl b3 (Nat.le_refl _) z3 (by omega) (by simp only [maxLen]; omega) ?_
       intro A4 c4 w4 _ _ o4 _ b4 _ _
       clear o3 z3 b3))
  have B4 := Lib.hid b4
  have O4 := Lib.hid (show Own w4 w.heap.size 5 (.slice A4 (1 + s.length + 1) c4) (nums .u8 (upL s (bytesOf D) 0)) by rw [upL_zero, headL, HB.out]; simpa using o4)
  clear o4 b4
  obtain ⟨q4, hq4⟩ : ∃ q, q = 1 + s.length + 1 := ⟨_, rfl⟩
  rw [← hq4] at O4 ⊢
  have HQ4 := Lib.hid (show q4 = 2 + s.length + 8 * 0 + tsum ((bytesOf D).take 0) by rw [hq4]; simp [tsum]; omega)
  clear hq4
  go_loopw [6, 7] (fun v i wr => ∃ (k q c : Nat) (A : Option Addr), k ≤ D.length ∧ i = .int .i64 (k : Int) ∧ v = .slice A q c ∧ Hid (q = 2 + s.length + 8 * k + tsum ((bytesOf D).take k)) ∧ Hid (Own wr w.heap.size 5 (.slice A q c) (nums .u8 (upL s (bytesOf D) k))) ∧ Hid (New w wr)) (fun _ i _ => D.length - (intOf i).toNat)
  case atStart => exact ⟨0, q4, c4, A4, by omega, rfl, rfl, HQ4, O4, B4⟩
  case round =>
    clear HQ4 O4 B4
    obtain ⟨k, q, cq, Aq, hk, rfl, rfl, HQ, O, b⟩ := hrel
    by_cases hlt : k < D.length
    · obtain ⟨ad, rfl, hb, hc⟩ := (HR.out.later b.out).at_ hlt
      have RD := Lib.hid (fun (W : World) (hW : New w W) => ((HR.out.later hW).parts.at_ hlt).1)
      have RC := Lib.hid (fun (W : World) (hW : New w W) => show W.cell? (ad.add k) = some (.slice (D.getD k (none, 0, [])).1 (D.getD k (none, 0, [])).2.2.length (D.getD k (none, 0, [])).2.1) by
        obtain ⟨ad2, e2, _, h2⟩ := (HR.out.later hW).at_ hlt
        obtain rfl := Option.some.inj e2
        exact h2)
      have e1 := bytesOf_at D k
      have US := upL_snoc s (bytesOf D) (k := k) (by rw [HB.out]; exact hlt)
      have h4 := tsum_take (L := bytesOf D) (k := k) (by rw [HB.out]; exact hlt)
      have h6 := tsum_take_le (bytesOf D) (k + 1)
      rw [e1] at h4 US
      generalize D.getD k (none, 0, []) = d at *
      have hp : d.2.2.length ≤ 1099511627776 := by have := HT.out; omega
      have hq : q ≤ 1099511640000 := by have := HT.out; have := HQ.out; omega
      have HQ2 := Lib.hid (show q + 8 + d.2.2.length = 2 + s.length + 8 * (k + 1) + tsum ((bytesOf D).take (k + 1)) by rw [h4, HQ.out]; omega)
      have HUS := Lib.hid US
      have LG := Lib.hid (long_any (w := wr) d.2.2.length (by omega))
      have o := O.out
      have b0 := b.out
      clear e1 US h4 h6 HQ O
      go_wp2_with (first
        | (go_at_call 67; refine LG.out.mono ?_; rintro e w5 ⟨A5, n5, c5, rfl, k5, b5⟩
           have b05 := New.trans b0 b5
           have o5 := o.later b5
           have r5 := k5.reads
           obtain rfl : n5 = 8 := by have := k5.len; rw [nums_length, low_len] at this; exact this
           have o5 := o5
           have r5 := r5
           have z5 := b05.size
           clear o b0 hc hb)
        | (refine wpList_pushesN elB rfl (.tmp 40) (.tmp 46) rfl (W := w) (B := w.heap.size) (base := w.heap.size) o5 r5 rfl rfl b05 (Nat.le_refl _) z5 (by omega) (by simp only [maxLen]; omega) ?_
           intro A6 c6 w6 _ _ o6 _ b6 _
           have hc6 := RC.out _ b6
           have r6 := RD.out _ b6
           have z6 := b6.size
           clear o5 r5 b05 z5 k5 b5)
        | (refine wpList_pushesN elB rfl (.tmp 48) (.tmp 52) rfl (W := w) (B := w.heap.size) (base := w.heap.size) o6 r6 rfl rfl b6 (Nat.le_refl _) z6 (by omega) (by simp only [maxLen]; omega) ?_
           intro A7 c7 w7 _ _ o7 _ b7 _
           clear o6 r6 z6 hc6 b6))
      have O7 := Lib.hid (show Own w7 w.heap.size 5 (.slice A7 (q + 8 + d.2.2.length) c7) (nums .u8 (upL s (bytesOf D) (k + 1))) by rw [HUS.out, partL, ← List.append_assoc]; exact o7)
      have B7 := Lib.hid b7
      clear o7 b7
      go_roundw
      case rel => exact ⟨k + 1, q + 8 + d.2.2.length, c7, A7, by omega, by go_num, rfl, HQ2, O7, B7⟩
      case measure => simp [intOf]; omega
    · obtain rfl : k = D.length := by omega
      have o := O.out
      rw [← HB.out, upL_all] at o
      have O5 := Lib.hid o
      clear o O
      go_wp2
      go_ret2
      exact ⟨_, _, _, rfl, O5.out, b.out⟩

end Go.Proofs.YtgfemjpeegbhhaaDoor
/- Contract on hypostyleref02.Same. -/

namespace Go.Hm
open Go Go.RowKit
theorem take_eq_snoc {α : Type} {l m : List α} {k : Nat} (d : α) (h1 : k < l.length) (h2 : k < m.length) : l.take (k + 1) = m.take (k + 1) ↔ l.take k = m.take k ∧ l.getD k d = m.getD k d := by
  rw [take_snoc _ k d h1, take_snoc _ k d h2]
  constructor
  · intro h
    have := List.append_inj' h rfl
    exact ⟨this.1, by simpa using this.2⟩
  · rintro ⟨h, k⟩
    rw [h, k]
/-- A cell of rows, in each later world. -/
theorem RowsAt.cells {w : World} {ad : Addr} {n c : Nat} {D : List PartS} (h : RowsAt w (some ad) n c D) {k : Nat} (hk : k < D.length) (W : World) (hW : New w W) : W.cell? (ad.add k) = some (.slice (D.getD k (none, 0, [])).1 (D.getD k (none, 0, [])).2.2.length (D.getD k (none, 0, [])).2.1) := by
  obtain ⟨ad2, e2, _, h2⟩ := (h.later hW).at_ hk
  obtain rfl := Option.some.inj e2
  exact h2

end Go.Hm

namespace Go.Proofs.YtgfemjpeegbhhaaDoor
open Go.RowKit Go.Hm
set_option maxHeartbeats 1000000 in
theorem same_any {w : World} {A B : Option Addr} {n m c e : Nat} {D E : List PartS} (h : RowsAt w A n c D) (k : RowsAt w B m e E) (h8 : ∀ p ∈ bytesOf D, ∀ x ∈ p, x < 256) (k8 : ∀ p ∈ bytesOf E, ∀ x ∈ p, x < 256) (hn : n ≤ 9223372036854775806) (hm : m ≤ 9223372036854775806) :
    Calls Tryd.prog 21 #[.slice A n c, .slice B m e] w (NewPost (.bool (decide (bytesOf D = bytesOf E))) w) := by
  obtain rfl := h.len
  obtain rfl := k.len
  have HD := Lib.hid h
  have HE := Lib.hid k
  have H8 := Lib.hid h8
  have K8 := Lib.hid k8
  have LD := Lib.hid (bytesOf_len D)
  have LE := Lib.hid (bytesOf_len E)
  clear h k h8 k8
  by_cases hl : D.length = E.length
  · have d1 : ((D.length : Int) == (E.length : Int)) = true := by rw [beq_iff_eq]; omega
    have HL := Lib.hid hl
    have e1 : (D.length : Int) = (E.length : Int) := by omega
    clear hl
    go_enter Tryd.func21, Tryd.ntmps21
    go_wp2
    go_loopw [5] (fun i wr => ∃ k : Nat, k ≤ D.length ∧ i = .int .i64 (k : Int) ∧ Hid ((bytesOf D).take k = (bytesOf E).take k) ∧ Hid (New w wr)) (fun i _ => D.length - (intOf i).toNat)
    case atStart => exact ⟨0, by omega, rfl, Lib.hid (by simp), Lib.hid (Below.refl _ _)⟩
    case round =>
      obtain ⟨k, hk, rfl, T, b⟩ := hrel
      by_cases hlt : k < D.length
      · have k1 := hlt
        have k2 : k < E.length := by have := HL.out; omega
        obtain ⟨ad, rfl, _⟩ := HD.out.at_ k1
        obtain ⟨ae, rfl, _⟩ := HE.out.at_ k2
        have C1 := Lib.hid (fun (W : World) (hW : New w W) => HD.out.cells k1 W hW)
        have C2 := Lib.hid (fun (W : World) (hW : New w W) => HE.out.cells k2 W hW)
        have R1 := ((HD.out.later b.out).parts.at_ k1).1
        have R2 := ((HE.out.later b.out).parts.at_ k2).1
        have e1 := bytesOf_at D k
        have e2 := bytesOf_at E k
        have g1 := H8.out _ (mem_getD (L := bytesOf D) (k := k) (by rw [LD.out]; exact hlt))
        have g2 := K8.out _ (mem_getD (L := bytesOf E) (k := k) (by rw [LE.out]; exact k2))
        have TS := take_eq_snoc (l := bytesOf D) (m := bytesOf E) (k := k) [] (by rw [LD.out]; exact hlt) (by rw [LE.out]; exact k2)
        rw [e1, e2] at TS
        rw [e1] at g1
        rw [e2] at g2
        have BB := bstr_beq g1 g2
        generalize D.getD k (none, 0, []) = d at *
        generalize E.getD k (none, 0, []) = x at *
        have HT := Lib.hid TS
        have HB := Lib.hid BB
        have R1 := Lib.hid R1
        have R2 := Lib.hid R2
        clear e1 e2 g1 g2 TS BB
        go_wp2
        refine wp_region_up New [(true, 0), (true, 1), (true, 2), (true, 3), (true, 4), (true, 5), (true, 6), (true, 7), (true, 8), (true, 9), (true, 10)]
          New.refl New.trans (by kernel_rfl) (by kernel_rfl) (by kernel_rfl) (by kernel_rfl) ?_
        have hU := New.drew wr
        have bU := New.trans b.out hU
        iterate 4 (
          refine up_quiet rfl rfl (v := ?_) (fun W hW => ?_) ?_
          rotate_left
          · have c1 := C1.out W (New.trans bU hW)
            go_simp <;> with_reducible rfl
          simp only [Act.put, List.setIfInBounds_toArray, List.set_cons_zero, List.set_cons_succ])
        refine up_str (e := 5) (by kernel_rfl) (by kernel_rfl) (by kernel_rfl) rfl rfl rfl R1.out hU ?_
        simp only [Act.put, List.setIfInBounds_toArray, List.set_cons_zero, List.set_cons_succ]
        iterate 4 (
          refine up_quiet rfl rfl (v := ?_) (fun W hW => ?_) ?_
          rotate_left
          · have c2 := C2.out W (New.trans bU hW)
            go_simp <;> with_reducible rfl
          simp only [Act.put, List.setIfInBounds_toArray, List.set_cons_zero, List.set_cons_succ])
        refine up_str (e := 5) (by kernel_rfl) (by kernel_rfl) (by kernel_rfl) rfl rfl rfl R2.out hU ?_
        simp only [Act.put, List.setIfInBounds_toArray, List.set_cons_zero, List.set_cons_succ]
        refine up_quiet rfl rfl (v := ?_) (fun W hW => ?_) ?_
        rotate_left
        · skip
          go_simp <;> with_reducible rfl
        simp only [Act.put, List.setIfInBounds_toArray, List.set_cons_zero, List.set_cons_succ]
        refine up_nil ?_
        have B3 := Lib.hid bU
        generalize hbb : (!((bstr d.2.2).toList == (bstr x.2.2).toList)) = tb
        by_cases hq : d.2.2 = x.2.2
        · have T3 := Lib.hid (HT.out.2 ⟨T.out, hq⟩)
          obtain rfl : tb = false := by rw [← hbb, HB.out, decide_eq_true hq]; rfl
          clear hbb
          clear T hq
          go_wp2
          go_roundw
          case rel => exact ⟨k + 1, by omega, by go_num, T3, B3⟩
          case measure => simp [intOf]; omega
        · have HN : Hid (decide (bytesOf D = bytesOf E) = false) := Lib.hid (decide_eq_false fun he => hq (HT.out.1 (by rw [he])).2)
          obtain rfl : tb = true := by rw [← hbb, HB.out, decide_eq_false hq]; rfl
          clear hbb
          clear T hq
          go_wp2
          go_ret
          exact ⟨by simp [HN.out], B3.out⟩
      · obtain rfl : k = D.length := by omega
        have t := T.out
        rw [List.take_of_length_le (by rw [LD.out]; omega), List.take_of_length_le (by rw [LE.out]; have := HL.out; omega)] at t
        have HN : Hid (decide (bytesOf D = bytesOf E) = true) := Lib.hid (decide_eq_true t)
        clear t T
        go_wp2
        go_ret
        exact ⟨by simp [HN.out], b.out⟩
  · have d1 : ((D.length : Int) == (E.length : Int)) = false := by rw [beq_eq_false_iff_ne]; omega
    have HN : Hid (decide (bytesOf D = bytesOf E) = false) := Lib.hid (decide_eq_false fun he => hl (by rw [← LD.out, ← LE.out, he]))
    have d2 : ¬ (D.length : Int) = (E.length : Int) := by omega
    go_enter Tryd.func21, Tryd.ntmps21
    go_wp2
    go_ret
    exact ⟨by simp [HN.out], Below.refl _ _⟩

end Go.Proofs.YtgfemjpeegbhhaaDoor
/- Contracts on tag.first, tag.Parse. -/

namespace Go.Hm
open Go Go.RowKit
theorem slice_lk {P : Program} {t : TypeId} (ht : P.underlying t = some (.slice (P.elem t))) (hs : ∀ w, (sizeOf (P.elem t)).run P w = .ok 1 w) (A : Option Addr) (n c k : Nat) (q : IntKind) (hk : k ≤ n) (w : World) :
    (Instr.sliceAt t (.slice A n c) (some (.int q (k : Int))) none none).run P w = .ok (.slice (if c = k then A else A.map (·.add k)) (n - k) (c - k)) w := by
  rw [run_sliceAt_slice w t _ _ _ _ ht, run_slice_l w t A n c ht q (k : Int) (by omega) (by omega), hs]
  simp [Result.andThen, sliced]
theorem slice_lhk {P : Program} {t : TypeId} (ht : P.underlying t = some (.slice (P.elem t))) (hs : ∀ w, (sizeOf (P.elem t)).run P w = .ok 1 w) (A : Option Addr) (n c k m : Nat) (q r : IntKind) (hk : k ≤ m) (hc : m ≤ c) (w : World) :
    (Instr.sliceAt t (.slice A n c) (some (.int q (k : Int))) (some (.int r (m : Int))) none).run P w = .ok (.slice (if c = k then A else A.map (·.add k)) (m - k) (c - k)) w := by
  rw [run_sliceAt_slice w t _ _ _ _ ht, run_slice_lh w t A n c ht q r (k : Int) (m : Int) (by omega) (by omega) (by omega), hs]
  simp [Result.andThen, sliced]

end Go.Hm

namespace Go.Proofs.YtgfemjpeegbhhaaDoor
open Go.RowKit Go.Hm
set_option maxHeartbeats 400000 in
theorem bclone_any {w : World} {A : Option Addr} {n c : Nat} {l : List Nat} (h : Reads w w.heap.size 1 A n (nums .u8 l)) (hl : n ≤ 140737488355328) :
    Calls Tryd.prog 40 #[.slice A n c] w (BytesPost l w) := by
  obtain rfl := h.len
  rcases A with _ | ad
  · have hl0 : l.length = 0 := by
      rcases Nat.eq_zero_or_pos l.length with h0 | h0
      · exact h0
      · obtain ⟨ad, h', _⟩ := h.2 h0
        cases h'
    obtain rfl : l = [] := List.eq_nil_of_length_eq_zero hl0
    have hq := fun W : World => Lib.run_eql_slice_nil (P := Tryd.prog) W 22 5 none 0 c 0 0 elB.ht
    go_enter Tryd.func40, Tryd.ntmps40
    go_wp2
    go_ret
    exact ⟨none, 0, 0, rfl, Own.nil_, Below.refl _ _⟩
  · have hq := fun W : World => Lib.run_eql_slice_nil (P := Tryd.prog) W 22 5 (some ad) l.length c 0 0 elB.ht
    go_enter Tryd.func40, Tryd.ntmps40
    go_wp2_with (first
      | (refine wpList_pushesN elB rfl (.tmp 5) (.tmp 6) rfl (W := w) (B := w.heap.size) (k := .u8) (l := []) (l2 := l) (c2 := c) (Own.empty _ _) ((h.alloc (Nat.le_refl _) _).more (by simp)) rfl rfl ((Below.refl _ _).alloc (Nat.le_refl _) _) (Nat.le_refl _) (by simp) (by omega) (by simp only [maxLen]; omega) ?_
         simp only [Nat.zero_add, List.nil_append]
         intro A' c' w' k1 k2 k3 k4 k5 k6))
    go_ret
    exact ⟨A', _, c', rfl, k3, k5⟩

/-- The first part, a copy, and what is behind it. -/
def FirstPost (l : List Nat) (A : Option Addr) (c : Nat) (w : World) (e : Ending) (w' : World) : Prop :=
  match firstO l with
  | none => e = .returned (.tuple #[.slice none 0 0, .slice none 0 0, .bool false]) ∧ New w w'
  | some (p, r) => ∃ A5 c5, e = .returned (.tuple #[.slice A5 p.length c5, .slice (if c = 8 + p.length then A else A.map (·.add (8 + p.length))) r.length (c - (8 + p.length)), .bool true]) ∧ Own w' w.heap.size 5 (.slice A5 p.length c5) (nums .u8 p) ∧ r = l.drop (8 + p.length) ∧ 8 + p.length ≤ l.length ∧ New w w'
set_option maxHeartbeats 2000000 in
set_option maxRecDepth 100000 in
theorem first_part_any {w : World} {A : Option Addr} {n c : Nat} {l : List Nat} (h : Reads w w.heap.size 1 A n (nums .u8 l)) (h8 : ∀ x ∈ l, x < 256) (hc : n ≤ c) (hm : n ≤ 140737488355328) :
    Calls Tryd.prog 46 #[.slice A n c] w (FirstPost l A c w) := by
  obtain rfl := h.len
  have HR := Lib.hid h
  have H8 := Lib.hid h8
  by_cases h1 : l.length < 8
  · have hO : firstO l = none := by unfold firstO; exact if_neg (by omega)
    have HO := Lib.hid hO
    have d0 : decide ((l.length : Int) < 8) = true := decide_eq_true (by omega)
    clear h h8 hO
    go_enter Tryd.func46, Tryd.ntmps46
    go_wp2
    go_ret3
    unfold FirstPost
    rw [HO.out]
    exact ⟨rfl, Below.refl _ _⟩
  have d0 : decide ((l.length : Int) < 8) = false := decide_eq_false (by omega)
  have hl8 : 8 ≤ l.length := by omega
  clear h h8 h1
  go_enter Tryd.func46, Tryd.ntmps46
  go_wp2
  go_loop [5, 10] (fun v i => ∃ k : Nat, k ≤ 8 ∧ i = .int .i64 (k : Int) ∧ v = .int .u64 (num (l.take k) : Int)) (fun _ i => 8 - (intOf i).toNat)
  case atStart => exact ⟨0, by omega, rfl, by simp [num]⟩
  case round =>
    obtain ⟨k, hk, rfl, rfl⟩ := hrel
    by_cases hlt : k < 8
    · obtain ⟨ad, rfl, hb, hcell⟩ := HR.out.num (i := k) (by omega)
      have T8 : (l.take 8).length = 8 := by rw [List.length_take]; omega
      have S := num_step_u64 (l.take 8) k (by omega) (by omega) (fun x hx => H8.out x (List.mem_of_mem_take hx))
      have hg : (l.take 8).getD k 0 = l.getD k 0 := by
        rw [List.getD_eq_getElem?_getD, List.getElem?_take, if_pos hlt, ← List.getD_eq_getElem?_getD]
      rw [hg, List.take_take, List.take_take, Nat.min_eq_left (by omega), Nat.min_eq_left (by omega)] at S
      have S := Lib.hid S
      have j1 : (8 : Int) * (k : Int) < 64 := by omega
      clear T8 hg
      generalize l.getD k 0 = x at *
      go_wp2
      go_round
      case rel => exact ⟨k + 1, by omega, by go_num, rfl⟩
      case measure => simp [intOf]; omega
    · obtain rfl : k = 8 := by omega
      have hn := num_lt (l.take 8) (fun x hx => H8.out x (List.mem_of_mem_take hx))
      rw [List.length_take, Nat.min_eq_left hl8] at hn
      have HO2 : firstO l = firstO l := rfl
      conv at HO2 => rhs; unfold firstO
      generalize num (l.take 8) = N at *
      have e1 : (l.length : Int) - 8 = ((l.length - 8 : Nat) : Int) := by omega
      have hu : IntKind.u64.wrap ((l.length - 8 : Nat) : Int) = ((l.length - 8 : Nat) : Int) := by rw [IntKind.wrap_u64]; omega
      obtain ⟨L8, hL8⟩ : ∃ x, x = l.length - 8 := ⟨_, rfl⟩
      rw [← hL8] at e1 hu HO2
      by_cases h2 : L8 < N
      · have d1 : decide ((L8 : Int) < (N : Int)) = true := decide_eq_true (by omega)
        rw [if_neg (by omega)] at HO2
        have HO3 := Lib.hid HO2
        clear HO2
        go_wp2
        go_ret3
        unfold FirstPost
        rw [HO3.out]
        exact ⟨rfl, Below.refl _ _⟩
      · have d1 : decide ((L8 : Int) < (N : Int)) = false := decide_eq_false (by omega)
        rw [if_pos (by omega)] at HO2
        have HO3 := Lib.hid HO2
        obtain ⟨E8, hE⟩ : ∃ x, x = 8 + N := ⟨_, rfl⟩
        have a1 : IntKind.u64.wrap (8 + (N : Int)) = (E8 : Int) := by rw [IntKind.wrap_u64]; omega
        have a2 : (8 + (N : Int)) % 18446744073709551616 = (E8 : Int) := by omega
        have hEl : E8 ≤ l.length := by omega
        have SL1 := slice_lhk (P := Tryd.prog) sB zB A l.length c 8 E8 .i64 .u64 (by omega) (by omega)
        have SL2 := slice_lk (P := Tryd.prog) sB zB A l.length c E8 .u64 hEl
        rw [show E8 - 8 = N by omega] at SL1
        have r1 := (HR.out.cut (k := 8) (cap := c) hl8 hc).take (k := N) (by omega)
        have r2 := HR.out.cut (k := E8) (cap := c) hEl hc
        rw [Nat.mul_one, Nat.mul_one, nums_drop, nums_take] at r1
        rw [Nat.mul_one, nums_drop] at r2
        rw [show 8 + N = E8 from hE.symm] at HO3
        generalize (if c = 8 then A else A.map (·.add 8)) = A1 at *
        generalize hA2 : (if c = E8 then A else A.map (·.add E8)) = A2 at *
        have HA2 := Lib.hid hA2
        have HE := Lib.hid hE
        have SL1 := Lib.hid SL1
        have SL2 := Lib.hid SL2
        have hNl : ((l.drop 8).take N).length = N := by rw [List.length_take, List.length_drop]; omega
        have CLN := Lib.hid (fun (W : World) (hW : New w W) => bclone_any (c := c - 8) (Reads.later r1 hW) (by omega))
        have HNL := Lib.hid hNl
        clear hE r1 r2 hNl HO2 hL8 hA2
        go_wp2
        refine wp_region_up New [(true, 0), (true, 1), (true, 2), (true, 3), (true, 5), (true, 6), (true, 7), (true, 8), (false, 4), (true, 9), (true, 10), (true, 11)]
          New.refl New.trans (by kernel_rfl) (by kernel_rfl) (by kernel_rfl) (by kernel_rfl) ?_
        have hU := New.drew w
        iterate 3 (
          refine up_quiet rfl rfl (v := ?_) (fun W hW => ?_) ?_
          rotate_left
          · skip
            go_simp <;> with_reducible rfl
          simp only [Act.put, List.setIfInBounds_toArray, List.set_cons_zero, List.set_cons_succ])
        refine up_quiet rfl rfl (v := .slice A1 N (c - 8)) (fun W hW => exec_slice (SL1.out W)) ?_
        simp only [Act.put, List.setIfInBounds_toArray, List.set_cons_zero, List.set_cons_succ]
        iterate 3 (
          refine up_quiet rfl rfl (v := ?_) (fun W hW => ?_) ?_
          rotate_left
          · skip
            go_simp <;> with_reducible rfl
          simp only [Act.put, List.setIfInBounds_toArray, List.set_cons_zero, List.set_cons_succ])
        refine up_quiet rfl rfl (v := .slice A2 (l.length - E8) (c - E8)) (fun W hW => exec_slice (SL2.out W)) ?_
        simp only [Act.put, List.setIfInBounds_toArray, List.set_cons_zero, List.set_cons_succ]
        refine up_call rfl rfl (fun K hK => ?_)
        go_simp
        (with_reducible refine (CLN.out _ hU).mono ?_)
        rintro e u ⟨A5, n5, c5, rfl, o5, b5⟩
        refine hK _ _ b5 ?_
        clear hK
        replace hU := New.trans hU b5
        iterate 3 (
          refine up_quiet rfl rfl (v := ?_) (fun W hW => ?_) ?_
          rotate_left
          · skip
            go_simp <;> with_reducible rfl
          simp only [Act.put, List.setIfInBounds_toArray, List.set_cons_zero, List.set_cons_succ])
        refine up_nil ?_
        have O5 := Lib.hid o5
        have HU := Lib.hid hU
        clear o5 hU b5
        go_wp2
        go_ret3
        unfold FirstPost
        rw [HO3.out]
        have o5 := O5.out
        obtain rfl : n5 = ((l.drop 8).take N).length := by have := o5.len; rwa [nums_length] at this
        have hE2 : 8 + ((l.drop 8).take N).length = E8 := by rw [HNL.out]; exact HE.out.symm
        refine ⟨A5, c5, ?_, o5, by rw [hE2], by omega, HU.out⟩
        show _ = Ending.returned (.tuple #[_, .slice (if c = 8 + ((l.drop 8).take N).length then A else A.map (·.add (8 + ((l.drop 8).take N).length))) _ _, _])
        rw [hE2, HA2.out, List.length_drop]
        simp

end Go.Proofs.YtgfemjpeegbhhaaDoor
/- Contract on tag.Parse. -/

namespace Go.Hm
open Go Go.RowKit
theorem TR.push {w w' : World} {e t : TypeId} {A : Option Addr} {n base : Nat} {xs ys : List Value} {v : Value} (h : TR w e A n xs) (o : Own w base t v ys) (hg : w.grownBy w' v.ownBlock) (hne : e ≠ t) : TR w' e A n xs := by
  rcases o.2 with ⟨rfl, _⟩ | ⟨g, cap, cur, rfl, _, hh, _⟩
  · exact h.grown hg (fun ad g _ hr => by cases hr)
  · exact h.keep (g := g) hg hh hne
/-- Rows of bytes in blocks of bytes. -/
def PartsT (e : TypeId) (w : World) (D : List PartS) : Prop := ∀ d ∈ D, TR w e d.1 d.2.2.length (nums .u8 d.2.2) ∧ d.2.2.length ≤ d.2.1 ∧ d.2.1 ≤ 9223372036854775807
theorem PartsT.ins {e : TypeId} {w : World} {D : List PartS} (h : PartsT e w D) : PartsIn w D := fun d hd => ⟨(h d hd).1.1, (h d hd).2⟩
theorem PartsT.below {e : TypeId} {w w' : World} {D : List PartS} (h : PartsT e w D) (hb : New w w') : PartsT e w' D := fun d hd => ⟨(h d hd).1.below hb, (h d hd).2⟩
theorem PartsT.push {e t : TypeId} {w w' : World} {D : List PartS} {base : Nat} {v : Value} {ys : List Value} (h : PartsT e w D) (o : Own w base t v ys) (hg : w.grownBy w' v.ownBlock) (hne : e ≠ t) : PartsT e w' D := fun d hd => ⟨(h d hd).1.push o hg hne, (h d hd).2⟩
theorem PartsT.snoc {e : TypeId} {w : World} {D : List PartS} {d : PartS} (h : PartsT e w D) (k : TR w e d.1 d.2.2.length (nums .u8 d.2.2)) (h1 : d.2.2.length ≤ d.2.1) (h2 : d.2.1 ≤ 9223372036854775807) : PartsT e w (D ++ [d]) := by
  intro x hx
  rcases List.mem_append.1 hx with hx | hx
  · exact h x hx
  · obtain rfl := List.mem_singleton.1 hx
    exact ⟨k, h1, h2⟩
theorem bytesOf_snoc (D : List PartS) (d : PartS) : bytesOf (D ++ [d]) = bytesOf D ++ [d.2.2] := by simp [bytesOf]
theorem recsP_len (D : List PartS) : (recs partV D).length = D.length := by rw [recs_length (sz := 1) (fun _ => rfl), Nat.mul_one]
theorem recsP_snoc (D : List PartS) (d : PartS) : recs partV (D ++ [d]) = recs partV D ++ [.slice d.1 d.2.2.length d.2.1] := by rw [recs_append]; rfl
theorem parts_step {N k : Nat} (hk : k < N) (R : List Nat) : partsO (N - k) R = (firstO R).bind fun p => (partsO (N - (k + 1)) p.2).map fun q => (p.1 :: q.1, q.2) := by
  rw [show N - k = (N - (k + 1)) + 1 by omega, partsO]

end Go.Hm

namespace Go.Proofs.YtgfemjpeegbhhaaDoor
open Go.RowKit Go.Hm
theorem elR : ElT Tryd.prog 28 22 (.slice none 0 0) 1 24 := ⟨by kernel_rfl, by kernel_rfl, rfl, by omega⟩
/-- A tag and parts, or none. -/
def ParsePost (o : Option (List Nat × List (List Nat))) (w : World) (e : Ending) (w' : World) : Prop :=
  ∃ A n c D, e = .returned (.tuple #[.string (bstr ((o.map Prod.fst).getD [])), .slice A n c, .bool o.isSome]) ∧ RowsAt w' A n c D ∧ bytesOf D = (o.map Prod.snd).getD [] ∧ New w w'
theorem ParsePost.none_ {w w' : World} (h : New w w') : ParsePost none w (.returned (.tuple #[.string (bstr []), .slice none 0 0, .bool false])) w' :=
  ⟨none, 0, 0, [], rfl, ⟨⟨by simp [recs], fun h => absurd h (by omega)⟩, (fun d hd => nomatch hd), Nat.le_refl _⟩, rfl, h⟩
set_option maxHeartbeats 2000000 in
set_option maxRecDepth 100000 in
theorem parse_any {w : World} {A : Option Addr} {n c : Nat} {l : List Nat} (h : Reads w w.heap.size 1 A n (nums .u8 l)) (h8 : ∀ x ∈ l, x < 256) (hc : n ≤ c) (hm : n ≤ 140737488355328) :
    Calls Tryd.prog 29 #[.slice A n c] w (ParsePost (parseO l) w) := by
  obtain rfl := h.len
  have HR := Lib.hid h
  have H8 := Lib.hid h8
  by_cases h0 : l.length = 0
  · obtain rfl := List.eq_nil_of_length_eq_zero h0
    clear h h8
    go_enter Tryd.func29, Tryd.ntmps29
    go_wp2
    go_ret3
    exact ParsePost.none_ (Below.refl _ _)
  have d0 : ((l.length : Int) == 0) = false := by rw [beq_eq_false_iff_ne]; omega
  obtain ⟨ad, rfl, hb, hcell⟩ := HR.out.num (i := 0) (by omega)
  have hcell0 : w.cell? ad = some (.int .u8 ((l.getD 0 0 : Nat) : Int)) := by rw [add_zero'] at hcell; exact hcell
  have hx8 : l.getD 0 0 < 256 := getD_lt l 0 h8
  obtain ⟨o, ho⟩ : ∃ o, o = parseO l := ⟨_, rfl⟩
  have HO : parseO l = parseO l := rfl
  conv at HO => rhs; unfold parseO
  rw [← ho] at HO ⊢
  generalize hx : l.getD 0 0 = x at *
  have HX := Lib.hid hx
  clear hcell hx ho h h8
  by_cases h1 : x = 0
  · subst h1
    rw [if_neg (by omega)] at HO
    replace HO := Lib.hid HO
    go_enter Tryd.func29, Tryd.ntmps29
    go_wp2
    go_ret3
    rw [HO.out]
    exact ParsePost.none_ (Below.refl _ _)
  have d1 : ((x : Int) == 0) = false := by rw [beq_eq_false_iff_ne]; omega
  by_cases h2 : l.length < 2 + x
  · rw [if_neg (by omega)] at HO
    replace HO := Lib.hid HO
    have d2 : decide ((l.length : Int) < 2 + (x : Int)) = true := decide_eq_true (by omega)
    go_enter Tryd.func29, Tryd.ntmps29
    go_wp2
    go_ret3
    rw [HO.out]
    exact ParsePost.none_ (Below.refl _ _)
  have d2 : decide ((l.length : Int) < 2 + (x : Int)) = false := decide_eq_false (by omega)
  rw [if_pos (by omega)] at HO
  replace HO := Lib.hid HO
  have hB1 : 1 + x < l.length := by omega
  have CB : ∀ W : World, New w W → W.cell? (ad.add (1 + x)) = some (.int .u8 ((l.getD (1 + x) 0 : Nat) : Int)) := fun W hW => by
    obtain ⟨_, e1, _, hcB⟩ := (Reads.later HR.out hW).num (i := 1 + x) hB1
    obtain rfl := Option.some.inj e1
    exact hcB
  have hcB := CB w (Below.refl _ _)
  have hN8 : l.getD (1 + x) 0 < 256 := getD_lt l _ H8.out
  obtain ⟨B1, hB⟩ : ∃ y, y = 1 + x := ⟨_, rfl⟩
  rw [← hB] at HO hcB hB1 hN8 CB
  generalize l.getD B1 0 = N at *
  obtain ⟨B2, hB2⟩ : ∃ y, y = 2 + x := ⟨_, rfl⟩
  rw [← hB2] at HO
  have i1 : (1 : Int) + (x : Int) = (B1 : Int) := by omega
  have a3 : IntKind.i64.wrap ((B1 : Int) + 1) = (B2 : Int) := by rw [IntKind.wrap_i64]; omega
  have a4 : (B1 : Int) + 1 = (B2 : Int) := by omega
  have a5 : IntKind.i64.wrap (B2 : Int) = (B2 : Int) := by rw [IntKind.wrap_i64]; omega
  have a6 : IntKind.i64.wrap (N : Int) = (N : Int) := by rw [IntKind.wrap_i64]; omega
  have hB2l : B2 ≤ l.length := by omega
  have j1 : (B1 : Int) < (l.length : Int) := by omega
  have SL1 := slice_lh (P := Tryd.prog) sB zB (some ad) l.length c 1 B1 (by omega) (by omega)
  have SL2 := slice_l (P := Tryd.prog) sB zB (some ad) l.length c B2 hB2l
  rw [show B1 - 1 = x by omega] at SL1
  have r1 := (HR.out.cut (k := 1) (cap := c) (by omega) hc).take (k := x) (by omega)
  have r2 := HR.out.cut (k := B2) (cap := c) hB2l hc
  rw [Nat.mul_one, Nat.mul_one, nums_drop, nums_take] at r1
  rw [Nat.mul_one, nums_drop] at r2
  generalize (if c = 1 then some ad else (some ad).map (·.add 1)) = A1 at *
  generalize (if c = B2 then some ad else (some ad).map (·.add B2)) = A2 at *
  have CB := Lib.hid CB
  have hR8 : ∀ x ∈ l.drop B2, x < 256 := fun x hx => H8.out x (List.mem_of_mem_drop hx)
  have hRl : l.length - B2 = (l.drop B2).length := by rw [List.length_drop]
  rw [hRl] at r2 SL2
  have hc2 : (l.drop B2).length ≤ c - B2 := by rw [← hRl]; omega
  have HL2 := Lib.hid (show (l.drop B2).length ≤ 140737488355328 by rw [← hRl]; omega)
  generalize l.drop B2 = R at *
  generalize (l.drop 1).take x = s at *
  have SL1 := Lib.hid SL1
  have SL2 := Lib.hid SL2
  have R1 := Lib.hid r1
  have R2 := Lib.hid r2
  have HR8 := Lib.hid hR8
  have HC2 := Lib.hid hc2
  have HN8 := Lib.hid hN8
  clear hRl r1 r2 hR8 hB2 hB hc2 hN8
  go_enter Tryd.func29, Tryd.ntmps29
  go_wp2
  refine wp_region_up New [(true, 0), (true, 1), (true, 2), (true, 3), (true, 4), (true, 5), (true, 6), (true, 7), (true, 8), (true, 9), (true, 10), (true, 11), (true, 12), (true, 13), (true, 14), (true, 15)]
    New.refl New.trans (by kernel_rfl) (by kernel_rfl) (by kernel_rfl) (by kernel_rfl) ?_
  have hU := New.drew w
  iterate 2 (
    refine up_quiet rfl rfl (v := ?_) (fun W hW => ?_) ?_
    rotate_left
    · skip
      go_simp <;> with_reducible rfl
    simp only [Act.put, List.setIfInBounds_toArray, List.set_cons_zero, List.set_cons_succ])
  refine up_quiet rfl rfl (v := .slice A1 x (c - 1)) (fun W hW => exec_slice (SL1.out W)) ?_
  simp only [Act.put, List.setIfInBounds_toArray, List.set_cons_zero, List.set_cons_succ]
  refine up_str (e := 5) (by kernel_rfl) (by kernel_rfl) (by kernel_rfl) rfl rfl rfl R1.out hU ?_
  simp only [Act.put, List.setIfInBounds_toArray, List.set_cons_zero, List.set_cons_succ]
  iterate 8 (
    refine up_quiet rfl rfl (v := ?_) (fun W hW => ?_) ?_
    rotate_left
    · have cb := CB.out W (New.trans hU hW)
      go_simp <;> with_reducible rfl
    simp only [Act.put, List.setIfInBounds_toArray, List.set_cons_zero, List.set_cons_succ])
  refine up_quiet rfl rfl (v := .slice A2 R.length (c - B2)) (fun W hW => exec_slice (SL2.out W)) ?_
  simp only [Act.put, List.setIfInBounds_toArray, List.set_cons_zero, List.set_cons_succ]
  iterate 3 (
    refine up_quiet rfl rfl (v := ?_) (fun W hW => ?_) ?_
    rotate_left
    · skip
      go_simp <;> with_reducible rfl
    simp only [Act.put, List.setIfInBounds_toArray, List.set_cons_zero, List.set_cons_succ])
  refine up_nil ?_
  have z0 : w.heap.size ≤ w.drew.heap.size := hU.size
  clear CB SL1 SL2 R1 i1 a3 a4 a5 a6 j1 d0 d1 d2 hcell0 hcB hB2l
  go_wp2_with (refine wpList_mk elR rfl (.const (.int .i64 0)) (.tmp 50) rfl (W := w) (B := w.heap.size) 0 N rfl rfl rfl rfl (by omega) hU (Nat.le_refl _) rfl (by have := HN8.out; omega) (by have := HN8.out; simp only [maxLen]; omega) ?_
               intro w1 o1 g1 b1 s1
               have O1 := Lib.hid (show Own w1 w.heap.size 22 (.slice (some ⟨w.drew.heap.size, 0, none⟩) 0 N) (recs partV []) from o1)
               have B1' := Lib.hid b1
               clear o1 g1 s1 b1)
  clear hU z0
  have HP := Lib.hid (show partsO N R = (partsO (N - 0) R).map fun q => (bytesOf [] ++ q.1, q.2) by simp [bytesOf])
  obtain ⟨R0, hR0⟩ : ∃ R0, R0 = partsO N R := ⟨_, rfl⟩
  rw [← hR0] at HP HO
  have T0 : Hid (PartsT 5 w1 []) := Lib.hid (fun d hd => nomatch hd)
  clear hR0
  go_loopw [8, 9, 53] (fun vr vp i wr => ∃ (k cr c2 : Nat) (Ar A2 : Option Addr) (R : List Nat) (D : List PartS), k ≤ N ∧ i = .int .i64 (k : Int) ∧ vr = .slice Ar R.length cr ∧ vp = .slice A2 k c2 ∧ Hid (D.length = k) ∧ Hid (Own wr w.heap.size 22 (.slice A2 k c2) (recs partV D)) ∧ Hid (PartsT 5 wr D) ∧ Hid (Reads w w.heap.size 1 Ar R.length (nums .u8 R)) ∧ Hid (∀ x ∈ R, x < 256) ∧ R.length ≤ cr ∧ R.length ≤ 140737488355328 ∧ Hid (R0 = (partsO (N - k) R).map fun q => (bytesOf D ++ q.1, q.2)) ∧ Hid (New w wr)) (fun _ _ i _ => N - (intOf i).toNat)
  case atStart => exact ⟨0, c - B2, N, A2, _, R, [], by omega, rfl, rfl, rfl, Lib.hid rfl, O1, T0, R2, HR8, HC2.out, HL2.out, HP, B1'⟩
  case round =>
    clear O1 T0 R2 HR8 HC2 HP B1'
    obtain ⟨k, cr, c2, Ar, A3, R, D, hk, rfl, rfl, rfl, HD, O, T, RR, R8, hcr, hcm, HP, b⟩ := hrel
    by_cases hlt : k < N
    · have FP := Lib.hid (first_part_any (w := wr) (Reads.later RR.out b.out) R8.out hcr hcm)
      have hst := parts_step hlt R
      cases hf : firstO R with
      | none =>
        have HN : Hid (o = none) := Lib.hid (by rw [HO.out, HP.out, hst, hf]; rfl)
        have HF := Lib.hid hf
        clear HP hst O T RR hf
        go_wp2_with (go_at_call 46; refine FP.out.mono ?_; rintro e w5 hfp
                     unfold FirstPost at hfp
                     rw [HF.out] at hfp
                     obtain ⟨rfl, b5⟩ := hfp
                     clear FP)
        go_ret3
        rw [HN.out]
        exact ParsePost.none_ (New.trans b.out b5)
      | some q =>
        obtain ⟨p, r⟩ := q
        have HF := Lib.hid hf
        have HP2 := Lib.hid (show R0 = (partsO (N - (k + 1)) r).map fun q => ((bytesOf D ++ [p]) ++ q.1, q.2) by
          rw [HP.out, hst, hf, Option.bind_some]
          show (Option.map _ (partsO (N - (k + 1)) r)).map _ = _
          generalize partsO (N - (k + 1)) r = z
          cases z <;> simp)
        have hfb := first_back R8.out hf
        have HB := Lib.hid hfb
        have o0 := O.out
        have t0 := T.out
        have rr := RR.out
        have hN9 := HN8.out
        clear HP hst hf hfb O T
        go_wp2_with (first
          | (go_at_call 46; refine FP.out.mono ?_; rintro e w5 hfp
             unfold FirstPost at hfp
             rw [HF.out] at hfp
             obtain ⟨A5, c5, rfl, o5, hr, hl5, b5⟩ := hfp
             have b05 := New.trans b.out b5
             have o6 := o0.later b5
             have z5 := b05.size
             have t5 := t0.below b5
             have u5 := TR.of_own o5
             have cp5 := o5.cap
             have rr2 := rr.cut (k := 8 + p.length) (cap := cr) hl5 hcr
             rw [Nat.mul_one, nums_drop, ← hr, show R.length - (8 + p.length) = r.length by rw [hr, List.length_drop]] at rr2
             have hr2 := Lib.hid hr
             generalize (if cr = 8 + p.length then Ar else Ar.map (·.add (8 + p.length))) = A6 at *
             have RR2 := Lib.hid rr2
             have hcr2 : r.length ≤ cr - (8 + p.length) := by have := HB.out.2.2.2; omega
             clear FP o0 t0 rr rr2 hr)
          | ((refine wpList_push elR rfl (.tmp 63) (.tmp 65) rfl (W := w) (B := w.heap.size) o6 rfl rfl b05 (Nat.le_refl _) z5 rfl (by rw [recsP_len, HD.out]; have := HN8.out; omega) (by rw [recsP_len, HD.out]; have := HN8.out; simp only [maxLen]; omega) ?_)
             intro A7 c7 w7 _ _ o7 g7 b7 _ _
             have t7 := (t5.push o6 g7 (by decide)).snoc (d := (A5, c5, p)) (u5.push o6 g7 (by decide)) cp5.1 (by have := cp5.2; simp only [maxLen] at this; omega)
             have e7 : (recs partV D).length + 1 = k + 1 := by rw [recsP_len, HD.out]
             rw [e7] at o7 ⊢
             have O7 := Lib.hid (show Own w7 w.heap.size 22 (.slice A7 (k + 1) c7) (recs partV (D ++ [(A5, c5, p)])) by rw [recsP_snoc]; exact o7)
             have T7 := Lib.hid t7
             have B7 := Lib.hid b7
             clear o6 o7 t7 e7 t5 u5 g7 b7 b05 z5 o5 b5))
        have HD2 := Lib.hid (show (D ++ [(A5, c5, p)] : List PartS).length = k + 1 by rw [List.length_append, HD.out]; rfl)
        have HP3 := Lib.hid (show R0 = (partsO (N - (k + 1)) r).map fun q => (bytesOf (D ++ [(A5, c5, p)]) ++ q.1, q.2) by rw [bytesOf_snoc]; exact HP2.out)
        have HR8 := Lib.hid HB.out.2.2.1
        go_roundw
        case rel => exact ⟨k + 1, cr - (8 + p.length), c7, A6, A7, r, _, by omega, by go_num, rfl, rfl, HD2, O7, T7, RR2, HR8, hcr2, (by have := HB.out.2.2.2; omega), HP3, B7⟩
        case measure => simp [intOf]; omega
    · obtain rfl : k = N := by omega
      have hp := HP.out
      rw [Nat.sub_self] at hp
      have hp2 : R0 = some (bytesOf D, R) := by rw [hp]; simp [partsO]
      have ho := HO.out
      rw [hp2, Option.bind_some] at ho
      by_cases hR : R = []
      · subst hR
        rw [if_pos rfl] at ho
        have HN := Lib.hid ho
        have row := O.out
        clear hp hp2 ho HP O RR
        go_wp2
        go_ret3
        rw [HN.out]
        exact ⟨A3, k, c2, D, rfl, ⟨row.reads, T.out.ins, row.cap.1⟩, rfl, b.out⟩
      · rw [if_neg hR] at ho
        have HN := Lib.hid ho
        have d3 : decide ((0 : Int) < (R.length : Int)) = true := decide_eq_true (by have := List.length_pos_iff.2 hR; omega)
        have d4 : 0 < R.length := List.length_pos_iff.2 hR
        clear hp hp2 ho HP O RR hR
        go_wp2
        go_ret3
        rw [HN.out]
        exact ParsePost.none_ b.out

end Go.Proofs.YtgfemjpeegbhhaaDoor
/- Maps keyed by digests, of pairs of places: laws for the walk. No program is named here. -/

namespace Go.Hm
open Go Go.RowKit Go.Maps
abbrev DW := DataW Unit
def pairV (p : Int × Int) : Value := .agg #[.int .i64 p.1, .int .i64 p.2]
def pairD (p : Int × Int) : DW := .agg [.lit (.int .i64 p.1), .lit (.int .i64 p.2)]
def pairR : Value → Option (DW × List MemPlace)
  | .agg ⟨[.int .i64 a, .int .i64 b]⟩ => some (pairD (a, b), [])
  | _ => none
theorem pairR_mk (p : Int × Int) : pairR (pairV p) = some (pairD p, []) := rfl
theorem pairR_inv {v : Value} {z : DW × List MemPlace} (h : pairR v = some z) : ∃ p, v = pairV p ∧ z = (pairD p, []) := by
  unfold pairR at h
  split at h
  · rename_i a b
    exact ⟨(a, b), rfl, (Option.some.inj h).symm⟩
  · cases h
theorem pairD_inj {p q : Int × Int} (h : pairD p = pairD q) : p = q := by
  simp only [pairD, DataW.agg.injEq, List.cons.injEq, DataW.lit.injEq, Lit.int.injEq, true_and, and_true] at h
  exact Prod.ext h.1 h.2
/-- A digest as a key. -/
def digV (l : List Int) : Value := .agg (ints .u8 l).toArray
theorem digV_inj {l m : List Int} (h : digV l = digV m) : l = m := by
  simp only [digV, Value.agg.injEq, Array.mk.injEq, ints] at h
  exact (List.map_inj_right (f := Value.int .u8) (by simp)).1 h
def DigOk (l : List Int) : Prop := l.length = 32 ∧ ∀ x ∈ l, 0 ≤ x ∧ x < 256
theorem mapM_some {α β : Type} {f : α → Option β} {g : α → β} {L : List α} (h : ∀ x ∈ L, f x = some (g x)) : L.mapM f = some (L.map g) := by
  induction L with
  | nil => rfl
  | cons x L ih => rw [List.mapM_cons, h x (by simp), ih fun y hy => h y (by simp [hy])]; rfl

section
variable {P : Program} {k e u : TypeId}
theorem key_dig (A : WideMaps.ArrKey P k u 32) (hu : P.underlying u = some (.int .u8)) (hc : P.cellsOf u = 1) (hk : P.cellsOf k = 32) (hsz : ∃ m, P.types.size = m + 1) {l : List Int} (h : DigOk l) : ∃ kl, keyOf P k (digV l) = some kl := by
  have hT := A.keyType hsz
  obtain ⟨m, hm⟩ := hsz
  have hlen : (ints .u8 l).length = 32 := by simp [ints, h.1]
  have hf : (digV l).formed P k = true := by
    simp [digV, Value.formed, A.hu, hk, hlen]
  have hl : P.keyLits (P.types.size + 1) k (digV l).cells.toList = some ((List.range 32).map fun i => [Lit.int .u8 (l.getD i 0)]).flatten := by
    have hcs : (digV l).cells.toList = ints .u8 l := by simp [digV, Value.cells]
    rw [hcs, hm]
    unfold Program.keyLits
    simp only [A.hu, hlen, hk, if_true]
    rw [mapM_some (g := fun i => [Lit.int .u8 (l.getD i 0)])]
    · rfl
    · intro i hi
      have hi := List.mem_range.1 hi
      have hil : i < l.length := by rw [h.1]; exact hi
      rw [hc, Nat.mul_one]
      have h1 : ((ints .u8 l).drop i).take 1 = [.int .u8 (l.getD i 0)] := by
        rw [List.drop_eq_getElem_cons (by omega)]
        simp [ints, List.getD_eq_getElem?_getD, hil]
      have hx := h.2 (l.getD i 0) (by rw [List.getD_eq_getElem?_getD, List.getElem?_eq_getElem hil]; exact List.getElem_mem _)
      rw [h1]
      generalize l.getD i 0 = x at *
      have hw : (Lit.int .u8 x).wf = true := by
        simp [Lit.wf, IntKind.min, IntKind.max, IntKind.signed, IntKind.bits]
        omega
      unfold Program.keyLits
      simp [hu, hw]
  unfold keyOf
  rw [A.hu]
  simp only [hT, hf, hl]
  exact ⟨_, rfl⟩
/-- A map of the call's own reads as a function. -/
def MapF (P : Program) (k : TypeId) (w : World) (b n : Nat) (f : List Int → Option (Int × Int)) : Prop :=
  ∃ D : DW, w.ownsMap P k pairR b n D ∧ IsMap D ∧ ∀ l kl, keyOf P k (digV l) = some kl → ∀ zd, D.atKey kl zd = ((f l).map pairD).getD zd
theorem MapF.made (w : World) : MapF P k (w.alloc (.map #[] 0)) w.heap.size 0 fun _ => none :=
  ⟨.map [], World.ownsMap_made _ _ _ _, isMap_empty, fun _ _ _ _ => rfl⟩
variable {w : World} {b n : Nat} {f : List Int → Option (Int × Int)}
theorem MapF.kept {w' : World} {row : Option Nat} (h : MapF P k w b n f) (hg : w.grownBy w' row) (hne : some b ≠ row) : MapF P k w' b n f := by
  obtain ⟨D, h1, h2, h3⟩ := h
  exact ⟨D, h1.kept hg hne, h2, h3⟩
theorem MapF.lt (h : MapF P k w b n f) : b < w.heap.size := by
  obtain ⟨D, h1, _⟩ := h
  exact h1.lt
theorem MapF.look {t : TypeId} (h : MapF P k w b n f) (K : Keyed P k) (ht : P.underlying t = some (.map k e)) (hz : (zeroValue e).run P w = .ok (pairV (0, 0)) w) {l : List Int} (hkey : ∃ kl, keyOf P k (digV l) = some kl) :
    (Instr.lookup t (.map (some b)) (digV l) true).run P w = .ok (.tuple #[pairV ((f l).getD (0, 0)), .bool (f l).isSome]) w := by
  obtain ⟨D, ⟨es, clock, hb, F, _, rfl⟩, h2, h3⟩ := h
  obtain ⟨kl, hkey⟩ := hkey
  have h4 := h3 l kl hkey
  rcases fit_look true K ht hz hb F hkey with ⟨hrun, _, hat⟩ | ⟨e0, y, _, _, hrun, hRv, hat, _⟩
  · cases hf : f l with
    | none => exact hrun
    | some p =>
      rw [hf] at h4
      have h5 := (hat .nil).symm.trans (h4 .nil)
      cases h5
  · obtain ⟨p, hp, rfl⟩ := pairR_inv hRv
    rw [hp] at hrun
    cases hf : f l with
    | none =>
      rw [hf] at h4
      have h5 := (hat .nil).symm.trans (h4 .nil)
      cases h5
    | some q =>
      rw [hf] at h4
      have h5 : pairD p = pairD q := (hat .nil).symm.trans (h4 .nil)
      rw [pairD_inj h5] at hrun
      exact hrun
theorem MapF.put {t : TypeId} (h : MapF P k w b n f) (K : Keyed P k) (ht : P.underlying t = some (.map k e)) (hn : n < maxLen) {l : List Int} (hkey : ∃ kl, keyOf P k (digV l) = some kl) (p : Int × Int) :
    ∃ w', (Instr.mapUpdate t (.map (some b)) (digV l) (pairV p)).run P w = .ok () w' ∧ MapF P k w' b (n + 1) (fun m => if m = l then some p else f m) ∧ w.grownBy w' (some b) := by
  obtain ⟨D, h1, h2, h3⟩ := h
  obtain ⟨kl, hkey⟩ := hkey
  obtain ⟨w', hrun, ho, hg⟩ := h1.update K ht hn hkey (pairR_mk p)
  refine ⟨w', hrun, ⟨_, ho, h2.put _ _, fun m km hm zd => ?_⟩, hg⟩
  by_cases he : m = l
  · subst he
    rw [hm] at hkey
    obtain rfl := Option.some.inj hkey
    show _ = ((if m = m then some p else f m).map pairD).getD zd
    rw [if_pos rfl, atKey_put_same h2 (K.key hm)]
    rfl
  · show _ = ((if m = l then some p else f m).map pairD).getD zd
    rw [if_neg he, atKey_put_other, h3 m km hm]
    intro hk
    subst hk
    exact he (digV_inj (K.inj hm hkey))
theorem wpList_lookF {ops : Array Oper} {rest : List Oper} {o : Oper} {a : Act} {Q : Exit → Act → World → Prop} (hg : o.guard = none) (m x : Operand) (t : TypeId) (hop : o.op = Op.lookup t m x true)
    (K : Keyed P k) (ht : P.underlying t = some (.map k e)) (hz : (zeroValue e).run P w = .ok (pairV (0, 0)) w) (hown : MapF P k w b n f) {l : List Int} (hkey : ∃ kl, keyOf P k (digV l) = some kl) (hm : a.eval m = .map (some b)) (hx : a.eval x = digV l)
    (h : wpList P ops Q rest (a.put o.dst (.tuple #[pairV ((f l).getD (0, 0)), .bool (f l).isSome])) w) : wpList P ops Q (o :: rest) a w := by
  refine wpList_plain hg fun K' hK' => ?_
  have hrun := hown.look K ht hz hkey
  unfold Oper.wp
  simp [execOp, hop, hm, hx, hrun, Result.andThen]
  exact hK' _ _ h
theorem wpList_putF {ops : Array Oper} {rest : List Oper} {o : Oper} {a : Act} {Q : Exit → Act → World → Prop} (hg : o.guard = none) (m x v : Operand) (t : TypeId) (hop : o.op = Op.mapUpdate t m x v)
    (K : Keyed P k) (ht : P.underlying t = some (.map k e)) (hown : MapF P k w b n f) (hn : n < maxLen) {l : List Int} (hkey : ∃ kl, keyOf P k (digV l) = some kl) (p : Int × Int)
    (hm : a.eval m = .map (some b)) (hx : a.eval x = digV l) (hv : a.eval v = pairV p)
    (h : ∀ w', MapF P k w' b (n + 1) (fun m => if m = l then some p else f m) → w.grownBy w' (some b) → wpList P ops Q rest (a.put o.dst undef) w') : wpList P ops Q (o :: rest) a w := by
  refine wpList_plain hg fun K' hK' => ?_
  obtain ⟨w', hrun, r1, r2⟩ := hown.put K ht hn hkey p
  unfold Oper.wp
  simp [execOp, hop, hm, hx, hv, hrun, Result.andThen]
  exact hK' _ _ (h w' r1 r2)
end

end Go.Hm
/- Contracts on tag.Hash, hypostyleref02.Hash, tag.New. -/

namespace Go.Proofs.YtgfemjpeegbhhaaDoor
open Go.RowKit Go.Hm
theorem sumI_len2 (l : List Nat) : (sumI l).length = 32 := digI_len _
theorem frameO_len {s : List Nat} {L : List (List Nat)} {f : List Nat} (h : frameO s L = some f) (ht : tsum L ≤ 990000) : f.length ≤ 1000000 := by
  unfold frameO at h
  split at h
  · rename_i hc
    obtain rfl := Option.some.inj h
    rw [frameL_len]
    unfold tsum at ht
    omega
  · cases h
set_option maxHeartbeats 1000000 in
set_option maxRecDepth 100000 in
theorem hash_any {w : World} {s : List Nat} {A : Option Addr} {n c : Nat} {D : List PartS} (h : RowsAt w A n c D) (hn : n ≤ 9223372036854775806) (hs8 : ∀ x ∈ s, x < 256) (hs : s.length ≤ 140737488351232) (ht : tsum (bytesOf D) ≤ 990000) (hD8 : ∀ p ∈ bytesOf D, ∀ x ∈ p, x < 256) (hC : ConstIn w) :
    Calls Tryd.prog 35 #[.string (bstr s), .slice A n c] w (NewPost (digV (hashO s (bytesOf D))) w) := by
  have c0 : New w (w.alloc (.cells (ints .u8 zero32).toArray 32)) := (Below.refl _ _).alloc (Nat.le_refl _) _
  have FR := Lib.hid (frame_any (h.later c0) hn hs8 hs (by omega))
  have HC := Lib.hid hC
  have G0 := Lib.hid (Blk.new w 32 (ints .u8 zero32).toArray)
  have HO : hashO s (bytesOf D) = hashO s (bytesOf D) := rfl
  conv at HO => rhs; unfold hashO
  replace HO := Lib.hid HO
  have HF8 := Lib.hid (fun f (hf : frameO s (bytesOf D) = some f) => And.intro (frameO_lt hs8 hD8 hf) (frameO_len hf ht))
  generalize frameO s (bytesOf D) = o at *
  generalize hashO s (bytesOf D) = ho at *
  obtain ⟨W0, hW0⟩ : ∃ W, W = w.alloc (.cells (ints .u8 zero32).toArray 32) := ⟨_, rfl⟩
  rw [← hW0] at FR c0 G0
  have HW := Lib.hid hW0
  have C0 := Lib.hid c0
  clear h hs8 hs ht hD8 hC hW0 c0
  go_enter Tryd.func35, Tryd.ntmps35
  go_wp2_with fail
  have F := FR.out
  rw [HW.out] at F
  refine F.mono ?_
  rintro e w1 hf
  obtain ⟨A1, n1, c1, rfl, o1, b1⟩ := hf.u
  have b1 : New W0 w1 := by rw [HW.out]; exact b1
  have o1 : Own w1 W0.heap.size 5 (.slice A1 n1 c1) (nums .u8 (o.getD [])) := by rw [HW.out]; exact o1
  have G1 := Lib.hid (G0.out.below b1 G0.out.lt)
  have B1 := Lib.hid (New.trans C0.out b1)
  clear F FR hf HW C0 G0
  cases o with
  | none =>
    have hh : ho = zero32 := by rw [HO.out]; rfl
    subst hh
    have H := Lib.hid (And.intro (row_of_blk G1.out) (And.intro (i32d (l := zero32) (by simp [zero32])) (And.intro (ints_one .u8 zero32) (blk_setRow G1.out (ints .u8 zero32).toArray))))
    have BE := Lib.hid (New.far B1.out (far_setRow (g := w.heap.size) w1 (ints .u8 zero32).toArray) (Nat.le_refl _))
    clear G1 B1 b1 o1 HO
    go_wp2_with (refine wpList_store_row rfl 32 (.tmp 4) (.tmp 15) rfl w.heap.size (ints .u8 zero32).toArray rfl rfl _ _ H.out.1 H.out.2.1 rfl H.out.2.2.1 ?_)
    exact bodyPost_ret (results_cell_row rfl _ _ w.heap.size _ (ints .u8 zero32).toArray (0, 0) _ rfl H.out.2.2.2 digarr rfl H.out.2.1) rfl ⟨rfl, BE.out⟩
  | some f =>
    have hh : ho = sumI f := by rw [HO.out, Option.map_some, Option.getD_some]
    subst hh
    obtain ⟨f8, fl⟩ := HF8.out f rfl
    obtain rfl : n1 = f.length := by have := o1.len; rwa [nums_length] at this
    have SU := Lib.hid (sum_any (l := f) (c := c1) o1.reads f8 o1.cap.1 (by omega) (HC.out.new B1.out))
    clear o1 b1 HO HF8 HC
    go_wp2_with fail
    (with_reducible refine SU.out.mono ?_)
    rintro e w2 ⟨rfl, b2⟩
    have G2 := G1.out.below b2 G1.out.lt
    have B2 := New.trans B1.out b2
    have hz : (ints .u8 zero32).toArray.size = (ints .u8 (sumI f)).toArray.size := by simp [ints, zero32, sumI_len2]
    have H := Lib.hid (And.intro (row_of_blk G2) (And.intro (i32d (sumI_len2 f)) (And.intro hz (And.intro (ints_one .u8 (sumI f)) (blk_setRow G2 (ints .u8 (sumI f)).toArray)))))
    have BE := Lib.hid (New.far B2 (far_setRow (g := w.heap.size) w2 (ints .u8 (sumI f)).toArray) (Nat.le_refl _))
    obtain ⟨cs, hcs⟩ : ∃ cs, cs = (ints .u8 (sumI f)).toArray := ⟨_, rfl⟩
    have hdv : digV (sumI f) = .agg cs := by rw [hcs]; rfl
    have HV := Lib.hid hdv
    rw [← hcs] at H BE ⊢
    clear hcs hdv
    clear G1 B1 G2 B2 b2 SU hz
    go_wp2_with (refine wpList_store_row rfl 32 (.tmp 4) (.tmp 17) rfl w.heap.size cs rfl rfl _ _ H.out.1 H.out.2.1 H.out.2.2.1 H.out.2.2.2.1 ?_)
    rw [HV.out]
    exact bodyPost_ret (results_cell_row rfl _ _ w.heap.size _ cs (0, 0) _ rfl H.out.2.2.2.2 digarr rfl H.out.2.1) rfl ⟨rfl, BE.out⟩
set_option maxHeartbeats 1000000 in
set_option maxRecDepth 100000 in
theorem rhash_any {w : World} {s : List Nat} {A : Option Addr} {n c : Nat} {D : List PartS} (h : RowsAt w A n c D) (hn : n ≤ 9223372036854775806) (hs8 : ∀ x ∈ s, x < 256) (hs : s.length ≤ 140737488351232) (ht : tsum (bytesOf D) ≤ 990000) (hD8 : ∀ p ∈ bytesOf D, ∀ x ∈ p, x < 256) :
    Calls Tryd.prog 60 #[.string (bstr s), .slice A n c] w (NewPost (digV (hashO s (bytesOf D))) w) := by
  have c0 : New w (w.alloc (.cells (ints .u8 zero32).toArray 32)) := (Below.refl _ _).alloc (Nat.le_refl _) _
  have FR := Lib.hid (rframe_any (h.later c0) hn hs8 hs (by omega))
  have G0 := Lib.hid (Blk.new w 32 (ints .u8 zero32).toArray)
  have HO : hashO s (bytesOf D) = hashO s (bytesOf D) := rfl
  conv at HO => rhs; unfold hashO
  replace HO := Lib.hid HO
  have HF8 := Lib.hid (fun f (hf : frameO s (bytesOf D) = some f) => And.intro (frameO_lt hs8 hD8 hf) (frameO_len hf ht))
  generalize frameO s (bytesOf D) = o at *
  generalize hashO s (bytesOf D) = ho at *
  obtain ⟨W0, hW0⟩ : ∃ W, W = w.alloc (.cells (ints .u8 zero32).toArray 32) := ⟨_, rfl⟩
  rw [← hW0] at FR c0 G0
  have HW := Lib.hid hW0
  have C0 := Lib.hid c0
  clear h hs8 hs ht hD8 hW0 c0
  go_enter Tryd.func60, Tryd.ntmps60
  go_wp2_with fail
  have F := FR.out
  rw [HW.out] at F
  refine F.mono ?_
  rintro e w1 hf
  obtain ⟨A1, n1, c1, rfl, o1, b1⟩ := hf.u
  have b1 : New W0 w1 := by rw [HW.out]; exact b1
  have o1 : Own w1 W0.heap.size 5 (.slice A1 n1 c1) (nums .u8 (o.getD [])) := by rw [HW.out]; exact o1
  have G1 := Lib.hid (G0.out.below b1 G0.out.lt)
  have B1 := Lib.hid (New.trans C0.out b1)
  clear F FR hf HW C0 G0
  cases o with
  | none =>
    have hh : ho = zero32 := by rw [HO.out]; rfl
    subst hh
    have H := Lib.hid (And.intro (row_of_blk G1.out) (And.intro (i32d (l := zero32) (by simp [zero32])) (And.intro (ints_one .u8 zero32) (blk_setRow G1.out (ints .u8 zero32).toArray))))
    have BE := Lib.hid (New.far B1.out (far_setRow (g := w.heap.size) w1 (ints .u8 zero32).toArray) (Nat.le_refl _))
    clear G1 B1 b1 o1 HO
    go_wp2_with (refine wpList_store_row rfl 32 (.tmp 4) (.tmp 15) rfl w.heap.size (ints .u8 zero32).toArray rfl rfl _ _ H.out.1 H.out.2.1 rfl H.out.2.2.1 ?_)
    exact bodyPost_ret (results_cell_row rfl _ _ w.heap.size _ (ints .u8 zero32).toArray (0, 0) _ rfl H.out.2.2.2 digarr rfl H.out.2.1) rfl ⟨rfl, BE.out⟩
  | some f =>
    have hh : ho = sumI f := by rw [HO.out, Option.map_some, Option.getD_some]
    subst hh
    obtain ⟨f8, fl⟩ := HF8.out f rfl
    obtain rfl : n1 = f.length := by have := o1.len; rwa [nums_length] at this
    have SU := Lib.hid (rsum_any (l := f) (c := c1) o1.reads f8 (by omega))
    clear o1 b1 HO HF8
    go_wp2_with fail
    (with_reducible refine SU.out.mono ?_)
    rintro e w2 ⟨rfl, b2⟩
    have G2 := G1.out.below b2 G1.out.lt
    have B2 := New.trans B1.out b2
    have hz : (ints .u8 zero32).toArray.size = (ints .u8 (sumI f)).toArray.size := by simp [ints, zero32, sumI_len2]
    have H := Lib.hid (And.intro (row_of_blk G2) (And.intro (i32d (sumI_len2 f)) (And.intro hz (And.intro (ints_one .u8 (sumI f)) (blk_setRow G2 (ints .u8 (sumI f)).toArray)))))
    have BE := Lib.hid (New.far B2 (far_setRow (g := w.heap.size) w2 (ints .u8 (sumI f)).toArray) (Nat.le_refl _))
    obtain ⟨cs, hcs⟩ : ∃ cs, cs = (ints .u8 (sumI f)).toArray := ⟨_, rfl⟩
    have hdv : digV (sumI f) = .agg cs := by rw [hcs]; rfl
    have HV := Lib.hid hdv
    rw [← hcs] at H BE ⊢
    clear hcs hdv
    clear G1 B1 G2 B2 b2 SU hz
    go_wp2_with (refine wpList_store_row rfl 32 (.tmp 4) (.tmp 17) rfl w.heap.size cs rfl rfl _ _ H.out.1 H.out.2.1 H.out.2.2.1 H.out.2.2.2.1 ?_)
    rw [HV.out]
    exact bodyPost_ret (results_cell_row rfl _ _ w.heap.size _ cs (0, 0) _ rfl H.out.2.2.2.2 digarr rfl H.out.2.1) rfl ⟨rfl, BE.out⟩
/-- A log of nothing. -/
theorem new_any {w : World} : Calls Tryd.prog 14 #[] w fun e w' => e = .returned (.pointer (some ⟨w.heap.size, 0, none⟩)) ∧ w' = w.alloc (.cells #[.slice none 0 0] 62) := by
  go_enter Tryd.func14, Tryd.ntmps14
  go_wp2
  go_ret
  exact ⟨rfl, rfl⟩

end Go.Proofs.YtgfemjpeegbhhaaDoor
/- Contracts on bytes.Equal, tag.pairs. -/

namespace Go.Proofs.YtgfemjpeegbhhaaDoor
open Go.RowKit Go.Hm
theorem arrK : WideMaps.ArrKey Tryd.prog 32 5 32 := ⟨by kernel_rfl, by kernel_rfl, by kernel_rfl, by kernel_rfl⟩
theorem rowK : (32 : TypeId) < Tryd.prog.types.size := of_decide_eq_true (by kernel_rfl)
theorem keyedK : Maps.Keyed Tryd.prog 32 := Maps.Keyed.of_law (deep_law_laid Tryd.laidOut (m := 2) (by omega) rowK (by kernel_rfl) (by kernel_rfl))
theorem sizeK : ∃ m, Tryd.prog.types.size = m + 1 := ⟨Tryd.prog.types.size - 1, by have := Nat.lt_of_le_of_lt (Nat.zero_le _) rowK; omega⟩
theorem digOk (l : List Nat) : DigOk (sumI l) := by
  refine ⟨sumI_len2 l, fun x hx => ?_⟩
  unfold sumI digI at hx
  obtain ⟨k, _, rfl⟩ := List.mem_map.1 hx
  unfold digB
  omega
theorem keyAt (l : List Nat) : ∃ kl, keyOf Tryd.prog 32 (digV (sumI l)) = some kl := key_dig arrK (by kernel_rfl) (by kernel_rfl) (by kernel_rfl) sizeK (digOk l)
theorem mapT : Tryd.prog.underlying 86 = some (.map 32 89) := by kernel_rfl
theorem zeroPair (w : World) : (zeroValue 89).run Tryd.prog w = .ok (pairV (0, 0)) w := by kernel_rfl
theorem equal_any {w : World} {A B : Option Addr} {n m c e : Nat} {l k : List Nat} (h : Reads w w.heap.size 1 A n (nums .u8 l)) (hk : Reads w w.heap.size 1 B m (nums .u8 k)) (h8 : ∀ x ∈ l, x < 256) (k8 : ∀ x ∈ k, x < 256) :
    Calls Tryd.prog 64 #[.slice A n c, .slice B m e] w (ValPost (.bool (decide (l = k))) w) := by
  have BB := Lib.hid (bstr_beq h8 k8)
  have q1 := run_strB (c := c) h
  have q2 := run_strB (c := e) hk
  clear h8 k8 h hk
  go_enter Tryd.func64, Tryd.ntmps64
  go_wp2
  go_ret
  exact ⟨by simp [BB.out], rfl⟩

end Go.Proofs.YtgfemjpeegbhhaaDoor
/- Contract on tag.pairs. -/

namespace Go.Hm
open Go Go.RowKit
theorem MapF.mono {P : Program} {k : TypeId} {w : World} {b n m : Nat} {f : List Int → Option (Int × Int)} (h : MapF P k w b n f) (hn : n ≤ m) : MapF P k w b m f := by
  obtain ⟨D, h1, h2⟩ := h
  exact ⟨D, h1.mono hn, h2⟩
theorem MapF.new {P : Program} {k : TypeId} {w w' : World} {b n : Nat} {f : List Int → Option (Int × Int)} (h : MapF P k w b n f) (hb : New w w') : MapF P k w' b n f :=
  h.kept (row := none) ⟨hb.os, hb.tape, hb.output, hb.size, fun j hj _ => hb.block j hj⟩ (by simp)

end Go.Hm

namespace Go.Proofs.YtgfemjpeegbhhaaDoor
open Go.RowKit Go.Hm
theorem run_mkMap (W : World) (n : Int) : (Instr.makeMap 86 (some (.int .i64 n))).run Tryd.prog W = .ok (.map (some W.heap.size)) (W.alloc (.map #[] 0)) := by
  simp [Instr.makeMap, run_underlying mapT, asInt, asIntOf, Result.andThen]
set_option maxHeartbeats 2000000 in
set_option maxRecDepth 100000 in
theorem pairs_any {w : World} {A : Option Addr} {n c : Nat} {D : List PartS} (h : RowsAt w A n c D) (hn : n ≤ 9223372036854775806) (h8 : ∀ p ∈ bytesOf D, (∀ x ∈ p, x < 256) ∧ p.length ≤ 1000000) (hC : ConstIn w) :
    Calls Tryd.prog 63 #[.slice A n c, .func (.func 28) #[] #[]] w fun e w' => e = .returned (.map (some w.heap.size)) ∧ MapF Tryd.prog 32 w' w.heap.size n (pairsF (bytesOf D) D.length) ∧ New w w' := by
  obtain rfl := h.len
  have HR := Lib.hid h
  have H8 := Lib.hid h8
  have HC := Lib.hid hC
  have HB := Lib.hid (bytesOf_len D)
  have hmm := run_mkMap
  have b0 : New w (w.alloc (.map #[] 0)) := (Below.refl _ _).alloc (Nat.le_refl _) _
  have M0 : Hid (MapF Tryd.prog 32 (w.alloc (.map #[] 0)) w.heap.size 0 (pairsF (bytesOf D) 0)) := Lib.hid (MapF.made w)
  have B0 := Lib.hid b0
  clear h h8 hC b0
  go_enter Tryd.func63, Tryd.ntmps63
  go_wp2
  go_loopw [16] (fun i wr => ∃ k : Nat, k ≤ D.length ∧ i = .int .i64 (k : Int) ∧ Hid (MapF Tryd.prog 32 wr w.heap.size k (pairsF (bytesOf D) k)) ∧ Hid (New w wr)) (fun i _ => D.length - (intOf i).toNat)
  case atStart => exact ⟨0, by omega, rfl, M0, B0⟩
  case round =>
    clear M0 B0
    obtain ⟨k, hk, rfl, M, b⟩ := hrel
    by_cases hlt : k < D.length
    · obtain ⟨ad, rfl, _⟩ := HR.out.at_ hlt
      have hc := HR.out.cells hlt wr b.out
      have RD := ((HR.out.later b.out).parts.at_ hlt)
      have e1 := bytesOf_at D k
      have g1 := H8.out _ (mem_getD (L := bytesOf D) (k := k) (by rw [HB.out]; exact hlt))
      rw [e1] at g1
      have HE1 := Lib.hid e1
      generalize D.getD k (none, 0, []) = d at *
      have SU := Lib.hid (sum_any (c := d.2.1) RD.1 g1.1 RD.2.1 g1.2 (HC.out.new b.out))
      go_wp2_with fail
      refine SU.out.mono ?_
      rintro e w1 ⟨rfl, b1⟩
      have M1 := M.out.new b1
      obtain ⟨cs, hcs⟩ : ∃ cs, cs = (ints .u8 (sumI d.2.2)).toArray := ⟨_, rfl⟩
      have hz : (ints .u8 zero32).toArray.size = cs.size := by rw [hcs]; simp [ints, zero32, sumI_len2]
      have hi : (Tryd.prog.info? 32).map (·.size) = some cs.size := by rw [hcs]; exact i32d (sumI_len2 _)
      have ho := ints_one .u8 (sumI d.2.2)
      rw [← hcs] at ho ⊢
      have HD := Lib.hid (show .agg cs = digV (sumI d.2.2) by rw [hcs]; rfl)
      have M2 := Lib.hid (M1.new (w' := (w1.alloc (.cells cs 32))) ((Below.refl _ _).alloc (Nat.le_refl _) _))
      have G2 := Lib.hid (row_of_blk (Blk.new w1 32 cs))
      have KY := Lib.hid (keyAt d.2.2)
      have RDD := Lib.hid RD.1
      have G8 := Lib.hid g1.1
      clear hcs M1 RD e1
      have hPF : ∀ m, pairsF (bytesOf D) (k + 1) m = if m = sumI d.2.2 then (match pairsF (bytesOf D) k m with | none => some ((k : Int), -1) | some p => if p.2 = -1 ∧ (bytesOf D).getD p.1.toNat [] ≠ d.2.2 then some (p.1, (k : Int)) else some p) else pairsF (bytesOf D) k m := fun m => by
        rw [pairsF, HE1.out]
        all_goals
          by_cases hm : m = sumI d.2.2
          · rw [if_pos hm, if_pos hm]
            cases pairsF (bytesOf D) k m <;> rfl
          · rw [if_neg hm, if_neg hm]
      cases hf : pairsF (bytesOf D) k (sumI d.2.2) with
      | none =>
        have HF := Lib.hid hf
        have HP := Lib.hid (show (fun m => if m = sumI d.2.2 then some ((k : Int), (-1 : Int)) else pairsF (bytesOf D) k m) = pairsF (bytesOf D) (k + 1) from funext fun m => by
          rw [hPF]
          by_cases hm : m = sumI d.2.2
          · rw [if_pos hm, if_pos hm, hm, hf]
          · rw [if_neg hm, if_neg hm])
        have c3 : New (w1.alloc (.cells cs 32)) ((w1.alloc (.cells cs 32)).alloc (.cells #[.int .i64 0, .int .i64 0] 89)) := (Below.refl _ _).alloc (Nat.le_refl _) _
        have M3 := Lib.hid (M2.out.new c3)
        have G3 := Lib.hid (row_of_blk ((Blk.new w1 32 cs).alloc (.cells #[.int .i64 0, .int .i64 0] 89)))
        have B3 := Lib.hid (New.trans (New.trans b.out b1) (New.trans ((Below.refl _ _).alloc (Nat.le_refl _) (.cells cs 32)) c3))
        clear hf hPF c3 b1
        go_wp2_with (first
          | (refine wpList_store_row rfl 32 (.tmp 8) (.tmp 23) rfl w1.heap.size cs rfl rfl _ _ (heap_alloc_new _ _) hi hz ho ?_; rw [alloc_setRow])
          | (refine wpList_load_row rfl 32 (.tmp 8) rfl w1.heap.size rfl _ cs _ _ G2.out digarr rfl hi ?_)
          | (refine wpList_load_row rfl 32 (.tmp 8) rfl w1.heap.size rfl _ cs _ _ G3.out digarr rfl hi ?_)
          | (rw [HD.out]; refine wpList_lookF rfl (.tmp 25) (.tmp 26) 86 rfl keyedK mapT (zeroPair _) M2.out KY.out rfl rfl ?_; rw [HF.out]; simp only [pairV, Option.getD_none, Option.isSome_none])
          | (rw [HD.out]; refine wpList_putF rfl (.tmp 32) (.tmp 33) (.tmp 35) 86 rfl keyedK mapT M3.out (by simp only [maxLen]; omega) KY.out ((k : Int), -1) rfl rfl rfl ?_
             intro w4 M4 g4)
          | fail)
        rw [HP.out] at M4
        have M5 := Lib.hid M4
        have B5 := Lib.hid (below_gr B3.out g4 (Nat.le_refl _) (Nat.le_refl _))
        clear M4 g4
        go_roundw
        case rel => exact ⟨k + 1, by omega, by go_num, M5, B5⟩
        case measure => simp [intOf]; omega
      | some p =>
        have hpi := pairsF_is (bytesOf D) k (sumI d.2.2)
        rw [hf] at hpi
        obtain ⟨a, ha, h1, _⟩ := hpi
        obtain ⟨p1, p2⟩ := p
        obtain rfl : p1 = (a : Int) := h1
        have hal : a < D.length := by omega
        have c3 : New (w1.alloc (.cells cs 32)) ((w1.alloc (.cells cs 32)).alloc (.cells #[.int .i64 (a : Int), .int .i64 p2] 89)) := (Below.refl _ _).alloc (Nat.le_refl _) _
        have M3 := Lib.hid (M2.out.new c3)
        have G3 := Lib.hid (row_of_blk ((Blk.new w1 32 cs).alloc (.cells #[.int .i64 (a : Int), .int .i64 p2] 89)))
        have b3 := New.trans (New.trans b.out b1) (New.trans ((Below.refl _ _).alloc (Nat.le_refl _) (.cells cs 32)) c3)
        have ca := HR.out.cells hal _ b3
        have Ra := ((HR.out.later b3).parts.at_ hal).1
        have Rd := Lib.hid (Reads.later RDD.out (New.trans b1 (New.trans ((Below.refl _ _).alloc (Nat.le_refl _) (.cells cs 32)) c3)))
        have ga := (H8.out _ (mem_getD (L := bytesOf D) (k := a) (by rw [HB.out]; exact hal))).1
        have ea := bytesOf_at D a
        have hPF2 := hPF (sumI d.2.2)
        rw [if_pos rfl, hf] at hPF2
        simp only [Int.toNat_natCast] at hPF2
        rw [ea] at ga hPF2
        generalize D.getD a (none, 0, []) = x at *
        have EQ := Lib.hid (equal_any (c := x.2.1) (e := d.2.1) Ra Rd.out ga G8.out)
        have HF := Lib.hid hf
        have B3 := Lib.hid b3
        by_cases hp2 : p2 = -1
        · skip
          have d1 : (p2 == (-1 : Int)) = true := by rw [beq_iff_eq]; exact hp2
          subst hp2
          by_cases hx : x.2.2 = d.2.2
          · rw [decide_eq_true hx] at EQ
            rw [if_neg (fun h => h.2 hx)] at hPF2
            have HP := Lib.hid (show pairsF (bytesOf D) k = pairsF (bytesOf D) (k + 1) from funext fun m => by
              by_cases hm : m = sumI d.2.2
              · rw [hm, hf, hPF2]
              · rw [hPF, if_neg hm])
            clear hf hPF hPF2 c3 b1 Ra ga ea b3 hx
            go_wp2_with (first
              | (refine wpList_store_row rfl 32 (.tmp 8) (.tmp 23) rfl w1.heap.size cs rfl rfl _ _ (heap_alloc_new _ _) hi hz ho ?_; rw [alloc_setRow])
              | (refine wpList_load_row rfl 32 (.tmp 8) rfl w1.heap.size rfl _ cs _ _ G2.out digarr rfl hi ?_)
              | (refine wpList_load_row rfl 32 (.tmp 8) rfl w1.heap.size rfl _ cs _ _ G3.out digarr rfl hi ?_)
              | (rw [HD.out]; refine wpList_lookF rfl (.tmp 25) (.tmp 26) 86 rfl keyedK mapT (zeroPair _) M2.out KY.out rfl rfl ?_; rw [HF.out]; simp only [pairV, Option.getD_some, Option.isSome_some])
              | (go_at_call 64; (with_reducible refine EQ.out.mono ?_); rintro e5 w5 ⟨rfl, rfl⟩)
              | fail)
            have M5 := Lib.hid (show MapF Tryd.prog 32 _ w.heap.size (k + 1) (pairsF (bytesOf D) (k + 1)) by rw [← HP.out]; exact M3.out.mono (by omega))
            go_roundw
            case rel => exact ⟨k + 1, by omega, by go_num, M5, B3⟩
            case measure => simp [intOf]; omega
          · rw [decide_eq_false hx] at EQ
            rw [if_pos ⟨rfl, hx⟩] at hPF2
            have HP := Lib.hid (show (fun m => if m = sumI d.2.2 then some ((a : Int), (k : Int)) else pairsF (bytesOf D) k m) = pairsF (bytesOf D) (k + 1) from funext fun m => by
              by_cases hm : m = sumI d.2.2
              · rw [if_pos hm, hm, hPF2]
              · rw [hPF, if_neg hm, if_neg hm])
            clear hf hPF hPF2 c3 b1 Ra ga ea b3 hx
            go_wp2_with (first
              | (refine wpList_store_row rfl 32 (.tmp 8) (.tmp 23) rfl w1.heap.size cs rfl rfl _ _ (heap_alloc_new _ _) hi hz ho ?_; rw [alloc_setRow])
              | (refine wpList_load_row rfl 32 (.tmp 8) rfl w1.heap.size rfl _ cs _ _ G2.out digarr rfl hi ?_)
              | (refine wpList_load_row rfl 32 (.tmp 8) rfl w1.heap.size rfl _ cs _ _ G3.out digarr rfl hi ?_)
              | (rw [HD.out]; refine wpList_lookF rfl (.tmp 25) (.tmp 26) 86 rfl keyedK mapT (zeroPair _) M2.out KY.out rfl rfl ?_; rw [HF.out]; simp only [pairV, Option.getD_some, Option.isSome_some])
              | (go_at_call 64; (with_reducible refine EQ.out.mono ?_); rintro e5 w5 ⟨rfl, rfl⟩)
              | (rw [HD.out]; refine wpList_putF rfl (.tmp 49) (.tmp 50) (.tmp 54) 86 rfl keyedK mapT M3.out (by simp only [maxLen]; omega) KY.out ((a : Int), (k : Int)) rfl rfl rfl ?_
                 intro w4 M4 g4)
              | fail)
            rw [HP.out] at M4
            have M5 := Lib.hid M4
            have B5 := Lib.hid (below_gr B3.out g4 (Nat.le_refl _) (Nat.le_refl _))
            clear M4 g4
            go_roundw
            case rel => exact ⟨k + 1, by omega, by go_num, M5, B5⟩
            case measure => simp [intOf]; omega
        · have d1 : (p2 == (-1 : Int)) = false := by rw [beq_eq_false_iff_ne]; exact hp2
          rw [if_neg (fun h => hp2 h.1)] at hPF2
          have HP := Lib.hid (show pairsF (bytesOf D) k = pairsF (bytesOf D) (k + 1) from funext fun m => by
            by_cases hm : m = sumI d.2.2
            · rw [hm, hf, hPF2]
            · rw [hPF, if_neg hm])
          clear hf hPF hPF2 c3 b1 Ra ga ea b3
          go_wp2_with (first
            | (refine wpList_store_row rfl 32 (.tmp 8) (.tmp 23) rfl w1.heap.size cs rfl rfl _ _ (heap_alloc_new _ _) hi hz ho ?_; rw [alloc_setRow])
            | (refine wpList_load_row rfl 32 (.tmp 8) rfl w1.heap.size rfl _ cs _ _ G2.out digarr rfl hi ?_)
            | (rw [HD.out]; refine wpList_lookF rfl (.tmp 25) (.tmp 26) 86 rfl keyedK mapT (zeroPair _) M2.out KY.out rfl rfl ?_; rw [HF.out]; simp only [pairV, Option.getD_some, Option.isSome_some])
            | fail)
          have M5 := Lib.hid (show MapF Tryd.prog 32 _ w.heap.size (k + 1) (pairsF (bytesOf D) (k + 1)) by rw [← HP.out]; exact M3.out.mono (by omega))
          go_roundw
          case rel => exact ⟨k + 1, by omega, by go_num, M5, B3⟩
          case measure => simp [intOf]; omega
    · obtain rfl : k = D.length := by omega
      go_wp2
      go_ret
      exact ⟨rfl, M.out, b.out⟩

end Go.Proofs.YtgfemjpeegbhhaaDoor
/- Contract on hypostyleref02.Parse. -/

namespace Go.Hm
open Go Go.RowKit
theorem num8 {l : List Nat} (h : 8 ≤ l.length) : num (l.take 8) = l.getD 0 0 + 256 * l.getD 1 0 + 65536 * l.getD 2 0 + 16777216 * l.getD 3 0 + 4294967296 * (l.getD 4 0 + 256 * l.getD 5 0 + 65536 * l.getD 6 0 + 16777216 * l.getD 7 0) := by
  match l, h with
  | a :: b :: c :: d :: e :: f :: g :: i :: r, _ =>
    simp [num]
    omega
theorem recsP_at (D : List PartS) (d : PartS) (N : Nat) (h : D.length = N) : recs partV (D ++ [d]) = recs partV D ++ [.slice d.1 d.2.2.length d.2.1] ∧ (recs partV D).length = N := ⟨recsP_snoc D d, by rw [recsP_len, h]⟩

end Go.Hm

namespace Go.Proofs.YtgfemjpeegbhhaaDoor
open Go.RowKit Go.Hm

end Go.Proofs.YtgfemjpeegbhhaaDoor
