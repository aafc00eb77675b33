/- Texts merged, for a claim has at most 60 files: OpenQ, PicT, PicU, PicV. -/
import Derived.Test.YthmjbdpkdomofaaBun3
import Derived.Test.YthmjbdpkdomofaaBun5
import Derived.Test.YthmjbdpkdomofaaBun6
/- Queries and footers opened. -/
set_option maxRecDepth 100000

namespace Go.Proofs.Ythmjbdpkdomofaa
open Go.RowKit Go.Hm Go.WideShapes Go.ChangeShapes

section
variable {H : Type} {enc : TypeId × Value → H} {W : World} {base : Nat} {v : Value} {d : DataW H} {ps : List MemPlace}
theorem open_Q (hval : Value.okWide Try.prog W .any base 28 v) (h : DataW.Trod enc Try.prog W 0 (fun _ => true) true 28 v d ps) (hlt : ∀ p ∈ ps, p.block < W.heap.size) (hw : ∀ n ∈ d.weights Try.prog 28, n ≤ reachBytes) :
    ∃ A c, ∃ l : List Int, ∃ f t : Int, v = Qv A l.length c f t ∧ l.length ≤ c ∧ c * 8 ≤ 140737488351232 ∧ Reads W W.heap.size 1 A l.length (ints .i64 l) ∧ ∀ x ∈ l, -9223372036854775808 ≤ x ∧ x ≤ 9223372036854775807 := by
  have ht : Try.prog.underlying 28 = some (.struct (fieldsOf Try.prog 28)) := by kernel_rfl
  obtain ⟨⟨cs⟩, rfl, hsz⟩ := okWide_struct ht hval
  have hh := Held.of h hlt hw
  simp only [Value.cells] at hh
  obtain ⟨x0, x1, x2, rfl⟩ := list3 (hh.partLen ht (n := 3) (by kernel_rfl))
  have p0 := hh.part ht 0 0 1 (ft := 26) (by kernel_rfl) (by kernel_rfl)
  have p1 := hh.part ht 1 1 1 (ft := 3) (by kernel_rfl) (by kernel_rfl)
  have p2 := hh.part ht 2 2 1 (ft := 3) (by kernel_rfl) (by kernel_rfl)
  obtain ⟨A, c, l, h1, h2, h4, h5, h6⟩ := p0.ints_ (te := 3) (by kernel_rfl) (by kernel_rfl) (by kernel_rfl) (by kernel_rfl)
  obtain ⟨f, h7, _⟩ := p1.i64 (by kernel_rfl)
  obtain ⟨g, h8, _⟩ := p2.i64 (by kernel_rfl)
  simp only [List.drop_succ_cons, List.drop_zero, List.take_succ_cons, List.take_zero, List.cons.injEq, and_true] at h1 h7 h8
  subst h1 h7 h8
  exact ⟨A, c, l, f, g, rfl, h2, h4, h5, h6⟩

theorem open_F (hval : Value.okWide Try.prog W .any base 25 v) (h : DataW.Trod enc Try.prog W 0 (fun _ => true) true 25 v d ps) (hlt : ∀ p ∈ ps, p.block < W.heap.size) (hw : ∀ n ∈ d.weights Try.prog 25, n ≤ reachBytes) :
    ∃ A n c rows A2 n2 c2, v = Fv A n c rows A2 n2 c2 ∧ n ≤ c ∧ c ≤ maxLen := by
  have ht : Try.prog.underlying 25 = some (.struct (fieldsOf Try.prog 25)) := by kernel_rfl
  obtain ⟨⟨cs⟩, rfl, hsz⟩ := okWide_struct ht hval
  have hh := Held.of h hlt hw
  simp only [Value.cells] at hh
  obtain ⟨x0, x1, x2, rfl⟩ := list3 (hh.partLen ht (n := 3) (by kernel_rfl))
  have p0 := hh.part ht 0 0 1 (ft := 22) (by kernel_rfl) (by kernel_rfl)
  have p1 := hh.part ht 1 1 1 (ft := 3) (by kernel_rfl) (by kernel_rfl)
  have p2 := hh.part ht 2 2 1 (ft := 23) (by kernel_rfl) (by kernel_rfl)
  obtain ⟨A, n, c, h1, h2, h3⟩ := p0.head (te := 61) (by kernel_rfl)
  obtain ⟨f, h7, _⟩ := p1.i64 (by kernel_rfl)
  obtain ⟨A2, n2, c2, h8, _⟩ := p2.head (te := 49) (by kernel_rfl)
  simp only [List.drop_succ_cons, List.drop_zero, List.take_succ_cons, List.take_zero, List.cons.injEq, and_true] at h1 h7 h8
  subst h1 h7 h8
  exact ⟨A, n, c, f, A2, n2, c2, rfl, h2, h3⟩
end

end Go.Proofs.Ythmjbdpkdomofaa
/- Plain: the rows of parts, step by step. -/

namespace Go.Proofs.Ythmjbdpkdomofaa
open Go Go.RowKit Go.Hm
theorem clamp_in {f t : Int} (h : f ≤ t) (u : Int) : f ≤ clampI f t u ∧ clampI f t u ≤ t := by
  unfold clampI
  repeat' split
  all_goals omega
noncomputable def rowP (F : FootS) (f t c : Int) (p : PartS) : Int := if p.2.1 = c then clampI f t (aheadR F.groups (p.1.toNat + 1)) - clampI f t (aheadR F.groups p.1.toNat) else 0
noncomputable def rowsTo (F : FootS) (f t c : Int) (l : List PartS) (k : Nat) : Int := ((l.take k).map (rowP F f t c)).sum
theorem rowsTo_zero (F : FootS) (f t c : Int) (l : List PartS) : rowsTo F f t c l 0 = 0 := by simp [rowsTo]
theorem rowsTo_succ (F : FootS) (f t c : Int) (l : List PartS) {k : Nat} (h : k < l.length) : rowsTo F f t c l (k + 1) = rowsTo F f t c l k + rowP F f t c (l.getD k partZ) := by
  unfold rowsTo
  rw [take_snoc l k partZ h, List.map_append, List.sum_append]
  simp
theorem rowP_bnd (F : FootS) {f t : Int} (h : f ≤ t) (c : Int) (p : PartS) : f - t ≤ rowP F f t c p ∧ rowP F f t c p ≤ t - f := by
  have h1 := clamp_in h (aheadR F.groups (p.1.toNat + 1))
  have h2 := clamp_in h (aheadR F.groups p.1.toNat)
  unfold rowP
  split <;> omega
theorem rowsTo_bnd (F : FootS) {f t : Int} (h : f ≤ t) (ht : t - f ≤ 65536) (c : Int) (l : List PartS) : ∀ k, k ≤ l.length → -65536 * (k : Int) ≤ rowsTo F f t c l k ∧ rowsTo F f t c l k ≤ 65536 * (k : Int)
  | 0, _ => by rw [rowsTo_zero]; omega
  | k + 1, hk => by
    have ih := rowsTo_bnd F h ht c l k (by omega)
    have b := rowP_bnd F h c (l.getD k partZ)
    rw [rowsTo_succ F f t c l (by omega)]
    omega
theorem one_sum (v c : Int) : ∀ Q : List Int, Q.Nodup → (Q.map fun q => if q = c then v else 0).sum = if c ∈ Q then v else 0
  | [], _ => by simp
  | q :: Q, h => by
    have ih := one_sum v c Q (List.nodup_cons.1 h).2
    have hn := (List.nodup_cons.1 h).1
    rw [List.map_cons, List.sum_cons, ih]
    by_cases e : q = c
    · subst e
      rw [if_pos rfl, if_neg hn, if_pos (by simp)]
      omega
    · rw [if_neg e, Int.zero_add]
      by_cases e2 : c ∈ Q
      · rw [if_pos e2, if_pos (by simp [e2])]
      · rw [if_neg e2, if_neg (by
          intro h2
          rcases List.mem_cons.1 h2 with h2 | h2
          · exact e h2.symm
          · exact e2 h2)]
theorem rows_parts (F : FootS) {Q : List Int} (hQ : Q.Nodup) {c : Int} (hc : c ∈ Q) (f t : Int) (a : Nat) : ∀ n, ((partsTo F Q f t a n).map (rowP F f t c)).sum = clampI f t (aheadR F.groups (a + n)) - clampI f t (aheadR F.groups a)
  | 0 => by simp [partsTo]
  | n + 1 => by
    rw [partsTo_snoc, List.map_append, List.sum_append, rows_parts F hQ hc f t a n, List.map_map]
    have e : (rowP F f t c ∘ partG F f t (a + n)) = fun q => if q = c then clampI f t (aheadR F.groups (a + n + 1)) - clampI f t (aheadR F.groups (a + n)) else 0 := by
      funext q
      unfold rowP partG
      simp only [Function.comp]
      rw [Int.toNat_natCast]
    rw [e, one_sum _ c Q hQ, if_pos hc, ← Nat.add_assoc]
    omega
theorem foot_all {F : FootS} (h : FootOk F) : aheadR F.groups F.groups.length = F.rows := by
  unfold aheadR
  rw [List.take_length]
  exact h.2.2.1
theorem rowsG_step (G : List GroupS) (k : Nat) : stepT 0 (rowsG G) k = aheadR G k := by
  unfold stepT
  rw [rowsG_take]
  omega
theorem rows_all {F : FootS} {Q : List Int} {f t : Int} (h : okQ F Q f t = true) {c : Int} (hc : c ∈ Q) : rowsTo F f t c (partsQ (okQ F Q f t) F Q f t) (partsQ (okQ F Q f t) F Q f t).length = t - f := by
  have hF := okQ_foot h
  obtain ⟨-, hQ, h0, h1, h2, -⟩ := okQ_cols h
  unfold rowsTo
  rw [List.take_length, h]
  have hle := groupsQ_le h
  unfold partsQ
  rw [rows_parts F hQ hc f t]
  have ho : IsOver (stepsI 0 (rowsG F.groups)) f t (groupsQ true F f t).1 (groupsQ true F f t).2 := by
    unfold groupsQ
    rw [if_pos rfl]
    exact ovr_spec (gSpans_up hF) f t
  have hk := clamp_over (rowsG_pos hF) h1 ho
  rw [rowsG_step, rowsG_step] at hk
  have hs : (0 : Int) + (rowsG F.groups).sum = F.rows := by
    have := hF.2.2.1
    unfold rowsG
    omega
  rw [hs, clamp_ends h0 h1 h2] at hk
  rw [show (groupsQ true F f t).1 + ((groupsQ true F f t).2 - (groupsQ true F f t).1) = (groupsQ true F f t).2 by omega]
  exact hk
theorem part_in {F : FootS} {Q : List Int} {f t : Int} (h : okQ F Q f t = true) {p : PartS} (hp : p ∈ partsQ (okQ F Q f t) F Q f t) :
    ∃ g c : Nat, p = partG F f t g (c : Int) ∧ g < F.groups.length ∧ c < F.cols.length ∧ (c : Int) ∈ Q ∧ hasS (aheadR F.groups g, aheadR F.groups (g + 1)) f t := by
  have hle := groupsQ_le h
  have hF := okQ_foot h
  have ho : IsOver (gSpans F) f t (groupsQ true F f t).1 (groupsQ true F f t).2 := by
    unfold groupsQ
    rw [if_pos rfl]
    exact ovr_spec (gSpans_up hF) f t
  rw [h] at hp
  unfold partsQ partsTo at hp
  rw [List.mem_flatMap] at hp
  obtain ⟨g, hg, hp⟩ := hp
  rw [List.mem_map] at hp
  obtain ⟨c, hc, rfl⟩ := hp
  rw [List.mem_range'_1] at hg
  obtain ⟨c0, c1⟩ := (okQ_cols h).1 c hc
  obtain ⟨c, rfl⟩ := Int.eq_ofNat_of_zero_le c0
  have hgl : g < F.groups.length := by omega
  have hh := (ho.2.2.2 g (by rw [gSpans_len]; exact hgl)).1 (by omega)
  rw [gSpans_at hgl] at hh
  exact ⟨g, c, rfl, hgl, by omega, hc, hh⟩
/-- What a page of a part has of the rows asked for. -/
def rowsIn (f t : Int) (s : Int × Int) : Int := (if t < s.2 then t else s.2) - (if s.1 < f then f else s.1)
theorem rows_step {F : FootS} {Q : List Int} {f t : Int} (h : okQ F Q f t = true) {k : Nat} (hk : k < (partsQ (okQ F Q f t) F Q f t).length) :
    ∃ g c x y : Nat, (partsQ (okQ F Q f t) F Q f t).getD k partZ = ((g : Int), (c : Int), (x : Int), (y : Int)) ∧ g < F.groups.length ∧ c < F.cols.length ∧ x < y ∧ y ≤ (spansF F (g : Int) (c : Int)).length ∧
      (∀ cc, (c : Int) ≠ cc → rowsTo F f t cc (partsQ (okQ F Q f t) F Q f t) (k + 1) = rowsTo F f t cc (partsQ (okQ F Q f t) F Q f t) k) ∧
      ∃ V : Nat → Int, V x = rowsTo F f t c (partsQ (okQ F Q f t) F Q f t) k ∧ V y = rowsTo F f t c (partsQ (okQ F Q f t) F Q f t) (k + 1) ∧
      ∀ q, x ≤ q → q < y → V (q + 1) = V q + rowsIn f t ((spansF F (g : Int) (c : Int)).getD q (0, 0)) ∧ 1 ≤ rowsIn f t ((spansF F (g : Int) (c : Int)).getD q (0, 0)) ∧ rowsIn f t ((spansF F (g : Int) (c : Int)).getD q (0, 0)) ≤ 65536 ∧ -1000000000000 ≤ V q ∧ V q ≤ 1000000000000 := by
  have hF := okQ_foot h
  obtain ⟨-, hQ, h0, h1, h2, -⟩ := okQ_cols h
  have hr := hF.2.2.2.1
  obtain ⟨g, c, hp, hg, hc, hcQ, hh⟩ := part_in h (mem_getDF partZ hk)
  have hb := fun cc => rowsTo_bnd F h1 (by omega) cc (partsQ (okQ F Q f t) F Q f t) k (Nat.le_of_lt hk)
  have hl := parts_len h
  have hs := fun cc => rowsTo_succ F f t cc (partsQ (okQ F Q f t) F Q f t) hk
  rw [hp] at hs
  obtain ⟨hck, hgl⟩ := foot_chunk hF hg hc
  have hin := spansF_in hF hg (c := (c : Int)) (by omega) (by omega)
  rw [Int.toNat_natCast] at hin
  have hpos := pages_pos hck
  have hsum : ((pagesAt F.groups g c).map (·.2.1)).sum = (F.groups.getD g groupZ).1 := hck.2
  have ha := foot_ahead hF hg
  rw [spansL_steps] at hin
  have ho := ovr_spec (stepsI_up hpos (aheadR F.groups g)) f t
  rw [← hin] at ho
  obtain ⟨x, hx⟩ : ∃ x, x = (ovr (spansF F (g : Int) (c : Int)) f t).1 := ⟨_, rfl⟩
  obtain ⟨y, hy⟩ : ∃ y, y = (ovr (spansF F (g : Int) (c : Int)) f t).2 := ⟨_, rfl⟩
  rw [← hx, ← hy] at ho
  have hP : partG F f t g (c : Int) = ((g : Int), (c : Int), (x : Int), (y : Int)) := by unfold partG; rw [← hx, ← hy]
  have hrow : rowP F f t (c : Int) (partG F f t g (c : Int)) = clampI f t (aheadR F.groups (g + 1)) - clampI f t (aheadR F.groups g) := by
    unfold rowP partG
    dsimp only
    rw [if_pos rfl, Int.toNat_natCast]
  have hrown : ∀ cc, (c : Int) ≠ cc → rowP F f t cc (partG F f t g (c : Int)) = 0 := by
    intro cc hne
    unfold rowP partG
    dsimp only
    rw [if_neg hne]
  rw [hin] at ho
  obtain ⟨R, hR⟩ : ∃ R, R = (pagesAt F.groups g c).map (·.2.1) := ⟨_, rfl⟩
  rw [← hR] at ho hpos hsum hin
  have hov := clamp_over hpos h1 ho
  rw [hsum, show aheadR F.groups g + (F.groups.getD g groupZ).1 = aheadR F.groups (g + 1) by omega] at hov
  have hone := ((clamp_has (x := (aheadR F.groups g, aheadR F.groups (g + 1))) (by dsimp only; omega) h1).1 hh).2
  dsimp only at hone
  have hxy : x < y := by
    rcases Nat.lt_or_ge x y with e | e
    · exact e
    · have : x = y := by have := ho.1; omega
      rw [this] at hov
      omega
  refine ⟨g, c, x, y, by rw [hp, hP], hg, hc, hxy, by rw [hin]; exact ho.2.1, fun cc hne => by rw [hs cc, hrown cc hne]; omega, fun q => rowsTo F f t c (partsQ (okQ F Q f t) F Q f t) k + (clampI f t (stepT (aheadR F.groups g) R q) - clampI f t (stepT (aheadR F.groups g) R x)), ?_, ?_, ?_⟩
  · dsimp only
    omega
  · dsimp only
    rw [hs, hrow]
    omega
  · intro q hq1 hq2
    have hyl := ho.2.1
    rw [stepsI_len] at hyl
    have hqh := (ho.2.2.2 q (by rw [stepsI_len]; omega)).1 ⟨hq1, hq2⟩
    rw [hin, stepsI_T (by omega)]
    rw [stepsI_T (by omega)] at hqh
    have hc1 := (clamp_has (stepT_lt hpos (a := aheadR F.groups g) (i := q) (by omega)) h1).1 hqh
    dsimp only at hc1
    have i1 := clamp_in h1 (stepT (aheadR F.groups g) R q)
    have i2 := clamp_in h1 (stepT (aheadR F.groups g) R (q + 1))
    have i3 := clamp_in h1 (stepT (aheadR F.groups g) R x)
    have hbc := hb (c : Int)
    have e : rowsIn f t (stepT (aheadR F.groups g) R q, stepT (aheadR F.groups g) R (q + 1)) = clampI f t (stepT (aheadR F.groups g) R (q + 1)) - clampI f t (stepT (aheadR F.groups g) R q) := hc1.1
    rw [e]
    dsimp only
    have hone1 := hc1.2
    clear hc1 hs hb hov hone e hqh
    generalize (partsQ (okQ F Q f t) F Q f t).length = n at *
    generalize rowsTo F f t c (partsQ (okQ F Q f t) F Q f t) k = rk at *
    generalize clampI f t (stepT (aheadR F.groups g) R (q + 1)) = z1 at *
    generalize clampI f t (stepT (aheadR F.groups g) R q) = z2 at *
    generalize clampI f t (stepT (aheadR F.groups g) R x) = z3 at *
    refine ⟨?_, ?_, ?_, ?_, ?_⟩ <;> omega

end Go.Proofs.Ythmjbdpkdomofaa
/- Plain: pages that have rows beside, and how many digests are needed at most. -/

namespace Go.Proofs.Ythmjbdpkdomofaa
open Go Go.RowKit Go.Hm
theorem few_fitK {n f t : Nat} (h1 : f < t) (h2 : t ≤ n) : cnt (evs f t 0 n) ≤ 2 * depthN n ∧ (t - f = 1 → cnt (evs f t 0 n) ≤ depthN n) := by
  have a := cnt_few h1 0 n (Nat.zero_le n) (by omega)
  rw [Nat.sub_zero] at a
  exact a
theorem few_noneK (n : Nat) : cnt (evs 0 0 0 n) ≤ 1 := by
  by_cases h : n = 0
  · subst h
    rw [evs_among (.inl rfl)]
    simp [cnt, besideB]
  · rw [evs_beside (by omega) (by omega)]
    simp [cnt, besideB]
theorem needI_fitK {n f t : Nat} (h1 : f ≤ t) (h2 : t ≤ n) (h3 : n ≤ 65536) : needI (n : Int) (f : Int) (t : Int) = (cnt (evs f t 0 n) : Nat) := by
  unfold needI
  rw [if_neg (by omega), Int.toNat_natCast, Int.toNat_natCast, Int.toNat_natCast]
theorem depth_few {n : Nat} (h : n ≤ 65536) : depthN n ≤ 16 := by
  have h1 := depthN_mono h
  have h2 := depthN_pow 16
  rw [show (2 : Nat) ^ 16 = 65536 from rfl] at h2
  omega
/-- Has a page rows beside? -/
def besI (f t : Int) (s : Int × Int) : Int := if s.1 < f ∨ t < s.2 then 1 else 0
noncomputable def besTo (f t : Int) (s : List (Int × Int)) (x q : Nat) : Int := ((List.range' x (q - x)).map fun i => besI f t (s.getD i (0, 0))).sum
theorem besTo_zero (f t : Int) (s : List (Int × Int)) (x : Nat) : besTo f t s x x = 0 := by simp [besTo]
theorem besTo_succ (f t : Int) (s : List (Int × Int)) {x q : Nat} (h : x ≤ q) : besTo f t s x (q + 1) = besTo f t s x q + besI f t (s.getD q (0, 0)) := by
  unfold besTo
  rw [show q + 1 - x = (q - x) + 1 by omega, List.range'_concat, List.map_append, List.sum_append]
  rw [show x + 1 * (q - x) = q by omega]
  simp
theorem bes_few {l : List Int} (h : ∀ n ∈ l, 1 ≤ n) {a f t : Int} {x y : Nat} (ho : IsOver (stepsI a l) f t x y) :
    ∀ d, x + d ≤ y → 0 ≤ besTo f t (stepsI a l) x (x + d) ∧ besTo f t (stepsI a l) x (x + d) ≤ (if 0 < d then 1 else 0) + (if x + d = y ∧ 1 < y - x then 1 else 0)
  | 0, _ => by
    rw [Nat.add_zero, besTo_zero]
    refine ⟨by omega, ?_⟩
    repeat' split
    all_goals omega
  | d + 1, hd => by
    have ih := bes_few h ho d (by omega)
    have hy := ho.2.1
    have hy2 := hy
    rw [stepsI_len] at hy2
    have hb : 0 ≤ besI f t ((stepsI a l).getD (x + d) (0, 0)) ∧ besI f t ((stepsI a l).getD (x + d) (0, 0)) ≤ 1 := by
      unfold besI
      split <;> omega
    rw [show x + (d + 1) = x + d + 1 by omega, besTo_succ f t _ (by omega)]
    have hmid : 0 < d → x + d + 1 < y → besI f t ((stepsI a l).getD (x + d) (0, 0)) = 0 := by
      intro h1 h2
      have p1 := (ho.2.2.2 (x + d - 1) (by omega)).1 (by omega)
      have p2 := (ho.2.2.2 (x + d + 1) (by omega)).1 (by omega)
      rw [stepsI_T (by omega)] at p1 p2 ⊢
      rw [show x + d - 1 + 1 = x + d by omega] at p1
      obtain ⟨-, q1, -⟩ := p1
      obtain ⟨q2, -, -⟩ := p2
      dsimp only at q1 q2
      unfold besI
      rw [if_neg (by dsimp only; omega)]
    have e1 : (0 < d + 1) = True := by simp
    rw [if_pos (Nat.succ_pos d)]
    by_cases hd0 : 0 < d
    · rw [if_pos hd0, if_neg (by omega)] at ih
      by_cases hl : x + d + 1 < y
      · rw [hmid hd0 hl, if_neg (by omega)]
        omega
      · rw [if_pos (by omega)]
        omega
    · obtain rfl : d = 0 := by omega
      rw [Nat.add_zero] at ih hb ⊢
      rw [if_neg (by omega), if_neg (by omega)] at ih
      refine ⟨by omega, ?_⟩
      split <;> omega
noncomputable def depP (F : FootS) (p : PartS) : Int := 2 * (depthN (pagesAt F.groups p.1.toNat p.2.1.toNat).length : Nat) + (depthN F.cols.length : Nat)
noncomputable def mostTo (F : FootS) (m : Int) (l : List PartS) (k : Nat) : Int := m + ((l.take k).map (depP F)).sum
theorem mostTo_zero (F : FootS) (m : Int) (l : List PartS) : mostTo F m l 0 = m := by simp [mostTo]
theorem mostTo_succ (F : FootS) (m : Int) (l : List PartS) {k : Nat} (h : k < l.length) : mostTo F m l (k + 1) = mostTo F m l k + depP F (l.getD k partZ) := by
  unfold mostTo
  rw [take_snoc l k partZ h, List.map_append, List.sum_append]
  simp only [List.map_cons, List.map_nil, List.sum_cons, List.sum_nil]
  omega
theorem cols_few {F : FootS} (h : FootOk F) : F.cols.length ≤ 64 := h.1.1
theorem pages_few {F : FootS} (h : FootOk F) {g c : Nat} (hg : g < F.groups.length) (hc : c < F.cols.length) : (pagesAt F.groups g c).length ≤ 65536 := by
  have h1 := rowsL_pos (foot_chunk h hg hc).1.1
  have h2 := (foot_chunk h hg hc).1.2
  have h3 := foot_ahead h hg
  omega
theorem depP_bnd {F : FootS} (h : FootOk F) {p : PartS} (hp : IsPart F p) : 0 ≤ depP F p ∧ depP F p ≤ 48 := by
  obtain ⟨g, c, x, y, rfl, hg, hc, hxy, hy⟩ := hp
  have h1 := depth_few (pages_few h hg hc)
  have h2 := depth_few (n := F.cols.length) (by have := cols_few h; omega)
  unfold depP
  dsimp only
  rw [Int.toNat_natCast, Int.toNat_natCast]
  omega
theorem mostTo_bnd {F : FootS} (h : FootOk F) (m : Int) {l : List PartS} (hl : ∀ p ∈ l, IsPart F p) : ∀ k, k ≤ l.length → m ≤ mostTo F m l k ∧ mostTo F m l k ≤ m + 48 * (k : Int)
  | 0, _ => by rw [mostTo_zero]; omega
  | k + 1, hk => by
    have ih := mostTo_bnd h m hl k (by omega)
    have := depP_bnd h (hl _ (mem_getDF partZ (show k < l.length by omega)))
    rw [mostTo_succ F m l (by omega)]
    omega
theorem few_step {F : FootS} {Q : List Int} {f t : Int} (h : okQ F Q f t = true) (m : Int) {k : Nat} (hk : k < (partsQ (okQ F Q f t) F Q f t).length) :
    ∃ g c x y : Nat, (partsQ (okQ F Q f t) F Q f t).getD k partZ = ((g : Int), (c : Int), (x : Int), (y : Int)) ∧ g < F.groups.length ∧ c < F.cols.length ∧ x ≤ y ∧ y ≤ (spansF F (g : Int) (c : Int)).length ∧ (spansF F (g : Int) (c : Int)).length ≤ 65536 ∧
      (∀ q, x ≤ q → q < y → besTo f t (spansF F (g : Int) (c : Int)) x (q + 1) = besTo f t (spansF F (g : Int) (c : Int)) x q + besI f t ((spansF F (g : Int) (c : Int)).getD q (0, 0))) ∧
      (∀ q, x ≤ q → q ≤ y → 0 ≤ besTo f t (spansF F (g : Int) (c : Int)) x q ∧ besTo f t (spansF F (g : Int) (c : Int)) x q ≤ 2) ∧
      mostTo F m (partsQ (okQ F Q f t) F Q f t) (k + 1) = mostTo F m (partsQ (okQ F Q f t) F Q f t) k + 2 * (depthN (spansF F (g : Int) (c : Int)).length : Nat) + (depthN F.cols.length : Nat) ∧
      m ≤ mostTo F m (partsQ (okQ F Q f t) F Q f t) k ∧ mostTo F m (partsQ (okQ F Q f t) F Q f t) k ≤ m + 201326592 ∧ depthN (spansF F (g : Int) (c : Int)).length ≤ 16 ∧ depthN F.cols.length ≤ 16 := by
  have hF := okQ_foot h
  obtain ⟨-, hQ, h0, h1, h2, -⟩ := okQ_cols h
  obtain ⟨g, c, hp, hg, hc, hcQ, hh⟩ := part_in h (mem_getDF partZ hk)
  have hl := parts_len h
  have hs := mostTo_succ F m (partsQ (okQ F Q f t) F Q f t) hk
  have hb := mostTo_bnd hF m (fun p hp => parts_is h hp) k (Nat.le_of_lt hk)
  rw [hp] at hs
  obtain ⟨hck, hgl⟩ := foot_chunk hF hg hc
  have hin := spansF_in hF hg (c := (c : Int)) (by omega) (by omega)
  rw [Int.toNat_natCast] at hin
  have hln : (spansF F (g : Int) (c : Int)).length = (pagesAt F.groups g c).length := by rw [hin, spansL_len]
  have hpos := pages_pos hck
  rw [spansL_steps] at hin
  have ho := ovr_spec (stepsI_up hpos (aheadR F.groups g)) f t
  rw [← hin] at ho
  have hpf := pages_few hF hg hc
  refine ⟨g, c, _, _, by rw [hp]; rfl, hg, hc, ho.1, ho.2.1, by omega, fun q hq _ => besTo_succ f t _ hq, fun q q1 q2 => ?_, ?_, hb.1, by generalize (partsQ (okQ F Q f t) F Q f t).length = z at *; omega, by rw [hln]; exact depth_few hpf, depth_few (by have := cols_few hF; omega)⟩
  · rw [hin] at ho q1 q2 ⊢
    have := bes_few hpos ho (q - (ovr (stepsI (aheadR F.groups g) ((pagesAt F.groups g c).map (·.2.1))) f t).1) (by omega)
    rw [show (ovr (stepsI (aheadR F.groups g) ((pagesAt F.groups g c).map (·.2.1))) f t).1 + (q - (ovr (stepsI (aheadR F.groups g) ((pagesAt F.groups g c).map (·.2.1))) f t).1) = q by omega] at this
    refine ⟨this.1, Int.le_trans this.2 ?_⟩
    repeat' split
    all_goals omega
  · rw [hs, hln]
    unfold depP partG
    dsimp only
    rw [Int.toNat_natCast, Int.toNat_natCast]
    omega
theorem dig_few {F : FootS} {Q : List Int} {f t : Int} (h : okQ F Q f t = true) {p : PartS} (hp : p ∈ partsQ (okQ F Q f t) F Q f t) : 0 ≤ digP F p ∧ digP F p ≤ depP F p := by
  have hF := okQ_foot h
  obtain ⟨-, hQ, h0, h1, h2, -⟩ := okQ_cols h
  obtain ⟨g, c, rfl, hg, hc, hcQ, hh⟩ := part_in h hp
  obtain ⟨hck, hgl⟩ := foot_chunk hF hg hc
  have hin := spansF_in hF hg (c := (c : Int)) (by omega) (by omega)
  rw [Int.toNat_natCast] at hin
  have hln : (spansF F (g : Int) (c : Int)).length = (pagesAt F.groups g c).length := by rw [hin, spansL_len]
  have hpos := pages_pos hck
  have hsum : ((pagesAt F.groups g c).map (·.2.1)).sum = (F.groups.getD g groupZ).1 := hck.2
  have ha := foot_ahead hF hg
  rw [spansL_steps] at hin
  have ho := ovr_spec (stepsI_up hpos (aheadR F.groups g)) f t
  have hov := clamp_over hpos h1 ho
  rw [hsum, show aheadR F.groups g + (F.groups.getD g groupZ).1 = aheadR F.groups (g + 1) by omega] at hov
  have hone := ((clamp_has (x := (aheadR F.groups g, aheadR F.groups (g + 1))) (by dsimp only; omega) h1).1 hh).2
  dsimp only at hone
  have hpf := pages_few hF hg hc
  have hcf := cols_few hF
  rw [← hin] at ho hov
  have hxy : (ovr (spansF F (g : Int) (c : Int)) f t).1 < (ovr (spansF F (g : Int) (c : Int)) f t).2 := by
    rcases Nat.lt_or_ge (ovr (spansF F (g : Int) (c : Int)) f t).1 (ovr (spansF F (g : Int) (c : Int)) f t).2 with e | e
    · exact e
    · have : (ovr (spansF F (g : Int) (c : Int)) f t).1 = (ovr (spansF F (g : Int) (c : Int)) f t).2 := by have := ho.1; omega
      rw [this] at hov
      omega
  have hy := ho.2.1
  rw [hln] at hy
  unfold digP digA digB depP partG
  dsimp only
  rw [Int.toNat_natCast, Int.toNat_natCast]
  have n1 := needI_fitK (Nat.le_of_lt hxy) hy hpf
  have n2 := needI_fitK (n := F.cols.length) (f := c) (t := c + 1) (by omega) (by omega) (by omega)
  rw [Int.natCast_add] at n2
  have f1 := few_fitK hxy hy
  have f2 := (few_fitK (n := F.cols.length) (f := c) (t := c + 1) (by omega) (by omega)).2 (by omega)
  rw [n1]
  rw [show (c : Int) + 1 = (c : Int) + ((1 : Nat) : Int) from rfl, n2]
  omega
theorem few_all {F : FootS} {Q : List Int} {f t : Int} (h : okQ F Q f t = true) :
    0 ≤ digestsQ (okQ F Q f t) F Q f t ∧ digestsQ (okQ F Q f t) F Q f t ≤ mostTo F (2 * (depthN F.groups.length : Nat) + 1 + (((groupsQ (okQ F Q f t) F f t).2 : Nat) - ((groupsQ (okQ F Q f t) F f t).1 : Nat))) (partsQ (okQ F Q f t) F Q f t) (partsQ (okQ F Q f t) F Q f t).length := by
  have hF := okQ_foot h
  have hle := groupsQ_le h
  have hgf := rows_sum_le hF
  have ho : IsOver (gSpans F) f t (groupsQ true F f t).1 (groupsQ true F f t).2 := by
    unfold groupsQ
    rw [if_pos rfl]
    exact ovr_spec (gSpans_up hF) f t
  have hn := needI_fitK hle.1 hle.2 hgf
  have hn2 : cnt (evs (groupsQ true F f t).1 (groupsQ true F f t).2 0 F.groups.length) ≤ 2 * depthN F.groups.length + 1 := by
    rcases ho.2.2.1 with e | e
    · have := (few_fitK e hle.2).1
      omega
    · rw [e.1, e.2]
      have := few_noneK F.groups.length
      omega
  have hd := fun p hp => dig_few h (p := p) hp
  unfold digestsQ
  rw [h] at hd ⊢
  rw [if_pos rfl]
  by_cases hq : Q.length = 0
  · rw [if_pos hq, hn]
    have hm : partsQ true F Q f t = [] := by
      have : (partsQ true F Q f t).length = 0 := by
        unfold partsQ
        rw [partsTo_len, hq, Nat.mul_zero]
      exact List.eq_nil_of_length_eq_zero this
    rw [hm]
    show _ ∧ _ ≤ mostTo F _ [] 0
    rw [mostTo_zero]
    omega
  · rw [if_neg hq]
    unfold digTo mostTo
    rw [List.take_length, hn]
    generalize partsQ true F Q f t = l at *
    have key : ∀ l : List PartS, (∀ p ∈ l, 0 ≤ digP F p ∧ digP F p ≤ depP F p) → 0 ≤ (l.map (digP F)).sum ∧ (l.map (digP F)).sum ≤ (l.map (depP F)).sum := by
      intro l
      induction l with
      | nil => intro _; simp
      | cons p l ih =>
        intro hp
        have i1 := ih (fun q hq => hp q (by simp [hq]))
        have i2 := hp p (by simp)
        rw [List.map_cons, List.map_cons, List.sum_cons, List.sum_cons]
        omega
    have := key l hd
    omega

end Go.Proofs.Ythmjbdpkdomofaa
/- Plain: the bytes of pages that a row is within, step by step. -/

namespace Go.Proofs.Ythmjbdpkdomofaa
open Go Go.RowKit Go.Hm
theorem okQ_cut {F : FootS} {Q : List Int} {f m t : Int} (h : okQ F Q f t = true) (h1 : f ≤ m) (h2 : m ≤ t) : okQ F Q f m = true ∧ okQ F Q m t = true := by
  unfold okQ at h ⊢
  rw [Bool.and_eq_true] at h
  obtain ⟨a1, a2, a3⟩ := (qfits_iff _ _ _ _ _).1 h.2
  obtain ⟨⟨b1, b2, b3⟩, b4⟩ := (qmay_iff _ _ _).1 a1
  rw [Bool.and_eq_true, Bool.and_eq_true]
  exact ⟨⟨h.1, (qfits_iff _ _ _ _ _).2 ⟨(qmay_iff _ _ _).2 ⟨⟨b1, h1, by omega⟩, b4⟩, by omega, a3⟩⟩, ⟨h.1, (qfits_iff _ _ _ _ _).2 ⟨(qmay_iff _ _ _).2 ⟨⟨by omega, h2, b3⟩, b4⟩, a2, a3⟩⟩⟩
theorem bytesI_few {F : FootS} {Q : List Int} {f t : Int} (h : okQ F Q f t = true) : 0 ≤ bytesI F Q f t ∧ bytesI F Q f t ≤ 4503599627370496 := by
  have e := bytes_parts h
  have b := byTo_bnd (okQ_foot h) (fun p hp => parts_is h hp) _ (Nat.le_refl _)
  have l := parts_len h
  rw [e] at b
  have e2 : bytesQ (okQ F Q f t) F Q f t = bytesI F Q f t := by rw [h]; rfl
  rw [e2] at b
  clear e e2
  omega
/-- The page p of column c in group g, where m is within. -/
def cutP (F : FootS) (f m t c : Int) (g p : Nat) : Int := midI f m t ((spansL (aheadR F.groups g) (pagesAt F.groups g c.toNat)).getD p (0, 0), (pagesAt F.groups g c.toNat).getD p pageZ)
def cutC (F : FootS) (f m t c : Int) (g p : Nat) : Int := ((List.range p).map (cutP F f m t c g)).sum
def cutG (F : FootS) (f m t c : Int) (g : Nat) : Int := ((List.range g).map (midChunk F f m t c)).sum
def cutA (F : FootS) (f m t : Int) (Q : List Int) (i : Nat) : Int := ((Q.take i).map fun c => cutG F f m t c F.groups.length).sum
theorem sum_range_succ (h : Nat → Int) (n : Nat) : ((List.range (n + 1)).map h).sum = ((List.range n).map h).sum + h n := by
  rw [List.range_succ, List.map_append, List.sum_append]
  simp
theorem cutC_zero (F : FootS) (f m t c : Int) (g : Nat) : cutC F f m t c g 0 = 0 := by simp [cutC]
theorem cutC_succ (F : FootS) (f m t c : Int) (g p : Nat) : cutC F f m t c g (p + 1) = cutC F f m t c g p + cutP F f m t c g p := sum_range_succ _ _
theorem cutG_zero (F : FootS) (f m t c : Int) : cutG F f m t c 0 = 0 := by simp [cutG]
theorem cutG_succ (F : FootS) (f m t c : Int) (g : Nat) : cutG F f m t c (g + 1) = cutG F f m t c g + midChunk F f m t c g := sum_range_succ _ _
theorem cutA_zero (F : FootS) (f m t : Int) (Q : List Int) : cutA F f m t Q 0 = 0 := by simp [cutA]
theorem cutA_succ (F : FootS) (f m t : Int) {Q : List Int} {i : Nat} (h : i < Q.length) : cutA F f m t Q (i + 1) = cutA F f m t Q i + cutG F f m t (Q.getD i 0) F.groups.length := by
  unfold cutA
  rw [take_snoc Q i 0 h, List.map_append, List.sum_append]
  simp
theorem zip_sum (h : (Int × Int) × PageS → Int) : ∀ (s : List (Int × Int)) (l : List PageS), s.length = l.length → ((s.zip l).map h).sum = ((List.range l.length).map fun p => h (s.getD p (0, 0), l.getD p pageZ)).sum
  | [], [], _ => by simp
  | [], _ :: _, e => by simp at e
  | _ :: _, [], e => by simp at e
  | x :: s, p :: l, e => by
    have ih := zip_sum h s l (by simpa using e)
    rw [List.zip_cons_cons, List.map_cons, List.sum_cons, ih, List.length_cons, List.range_succ_eq_map, List.map_cons, List.sum_cons, List.map_map]
    rfl
theorem cutC_all (F : FootS) (f m t c : Int) (g : Nat) : cutC F f m t c g (pagesAt F.groups g c.toNat).length = midChunk F f m t c g := by
  unfold cutC midChunk
  rw [zip_sum _ _ _ (spansL_len _ _)]
  rfl
theorem cutP_size {F : FootS} (h : FootOk F) (f m t : Int) {g c p : Nat} (hg : g < F.groups.length) (hc : c < F.cols.length) (hp : p < (pagesAt F.groups g c).length) :
    0 ≤ cutP F f m t (c : Int) g p ∧ cutP F f m t (c : Int) g p ≤ ((pagesAt F.groups g c).getD p pageZ).1 := by
  have h1 := (placeV_page h hg hc hp).2.2.2
  unfold cutP midI
  dsimp only
  rw [Int.toNat_natCast]
  split <;> omega
theorem cutC_bnd {F : FootS} (h : FootOk F) (f m t : Int) {g c : Nat} (hg : g < F.groups.length) (hc : c < F.cols.length) : ∀ p, p ≤ (pagesAt F.groups g c).length →
    0 ≤ cutC F f m t (c : Int) g p ∧ cutC F f m t (c : Int) g p ≤ sizesL ((pagesAt F.groups g c).take p)
  | 0, _ => by rw [cutC_zero]; simp [sizesL]
  | p + 1, hp => by
    have ih := cutC_bnd h f m t hg hc p (by omega)
    have h1 := cutP_size h f m t hg hc (p := p) (by omega)
    have h2 := sizesL_take_succ (l := pagesAt F.groups g c) (k := p) (by omega)
    rw [cutC_succ, h2]
    omega
theorem cutC_few {F : FootS} (h : FootOk F) (f m t : Int) {g c : Nat} (hg : g < F.groups.length) (hc : c < F.cols.length) {p : Nat} (hp : p ≤ (pagesAt F.groups g c).length) :
    0 ≤ cutC F f m t (c : Int) g p ∧ cutC F f m t (c : Int) g p ≤ 1073741824 := by
  have h1 := cutC_bnd h f m t hg hc p hp
  have h2 := sizes_most h hg hc p hp
  omega
theorem cutG_few {F : FootS} (h : FootOk F) (f m t : Int) {c : Nat} (hc : c < F.cols.length) : ∀ g, g ≤ F.groups.length → 0 ≤ cutG F f m t (c : Int) g ∧ cutG F f m t (c : Int) g ≤ 1073741824 * (g : Int)
  | 0, _ => by rw [cutG_zero]; omega
  | g + 1, hg => by
    have ih := cutG_few h f m t hc g (by omega)
    have h1 := cutC_few h f m t (g := g) (by omega) hc (Nat.le_refl _)
    have h2 := cutC_all F f m t (c : Int) g
    rw [Int.toNat_natCast] at h2
    rw [cutG_succ, ← h2]
    omega
theorem cutA_few {F : FootS} (h : FootOk F) {Q : List Int} (hQ : ∀ c ∈ Q, 0 ≤ c ∧ c < (F.cols.length : Int)) (f m t : Int) : ∀ i, i ≤ Q.length → 0 ≤ cutA F f m t Q i ∧ cutA F f m t Q i ≤ 70368744177664 * (i : Int)
  | 0, _ => by rw [cutA_zero]; omega
  | i + 1, hi => by
    have ih := cutA_few h hQ f m t i (by omega)
    obtain ⟨c0, c1⟩ := hQ _ (mem_getDF (0 : Int) (show i < Q.length by omega))
    obtain ⟨c, hc⟩ := Int.eq_ofNat_of_zero_le c0
    rw [hc] at c1
    have h1 := cutG_few h f m t (c := c) (by omega) F.groups.length (Nat.le_refl _)
    have h2 := rows_sum_le h
    rw [cutA_succ F f m t (by omega), hc]
    omega
theorem cut_all {F : FootS} {Q : List Int} {f m t : Int} (h : okQ F Q f t = true) (h1 : f ≤ m) (h2 : m ≤ t) : bytesI F Q f m + bytesI F Q m t = bytesI F Q f t + cutA F f m t Q Q.length := by
  unfold cutA cutG
  rw [List.take_length]
  exact bytes_cut (okQ_foot h) (okQ_cols h).1 h1 h2

section
variable {Ac : Option Addr} {cc : Nat} {L : List ColS} {r : Int} {Ag : Option Addr} {cg : Nat} {G : List GrD} {Q : List Int} {f m t : Int}
/-- All that a round over pages asks for. -/
theorem cut_step (h : okQ (footP L r G) Q f t = true) {i : Nat} (hi : i < Q.length) :
    ∃ c : Nat, Q.getD i 0 = (c : Int) ∧ c < L.length ∧ cutA (footP L r G) f m t Q (i + 1) = cutA (footP L r G) f m t Q i + cutG (footP L r G) f m t (c : Int) G.length ∧
      0 ≤ cutA (footP L r G) f m t Q i ∧ cutA (footP L r G) f m t Q i ≤ 10000000000000000 ∧ G.length ≤ 65536 ∧
      ∀ g, g < G.length → (G.getD g grZ).2.2.2.length = L.length ∧ spansF (footP L r G) (g : Int) (c : Int) = spansL (aheadR (footP L r G).groups g) ((G.getD g grZ).2.2.2.getD c chZ).2.2 ∧
        ((G.getD g grZ).2.2.2.getD c chZ).2.2.length ≤ 65536 ∧
        cutG (footP L r G) f m t (c : Int) (g + 1) = cutG (footP L r G) f m t (c : Int) g + cutC (footP L r G) f m t (c : Int) g ((G.getD g grZ).2.2.2.getD c chZ).2.2.length ∧
        0 ≤ cutG (footP L r G) f m t (c : Int) g ∧ cutG (footP L r G) f m t (c : Int) g ≤ 70368744177664 ∧
        ∀ p, p < ((G.getD g grZ).2.2.2.getD c chZ).2.2.length → 0 ≤ cutC (footP L r G) f m t (c : Int) g p ∧ cutC (footP L r G) f m t (c : Int) g p ≤ 1073741824 ∧
          cutC (footP L r G) f m t (c : Int) g (p + 1) = cutC (footP L r G) f m t (c : Int) g p + midI f m t ((spansL (aheadR (footP L r G).groups g) ((G.getD g grZ).2.2.2.getD c chZ).2.2).getD p (0, 0), ((G.getD g grZ).2.2.2.getD c chZ).2.2.getD p pageZ) ∧
          1 ≤ (((G.getD g grZ).2.2.2.getD c chZ).2.2.getD p pageZ).1 ∧ (((G.getD g grZ).2.2.2.getD c chZ).2.2.getD p pageZ).1 ≤ 1073741824 := by
  have hF := okQ_foot h
  have hQ := (okQ_cols h).1
  have hq64 := (okQ_cols h).2.2.2.2.2
  have hGl : (footP L r G).groups.length = G.length := by unfold footP; simp
  obtain ⟨c0, c1⟩ := hQ _ (mem_getDF (0 : Int) hi)
  obtain ⟨c, hc⟩ := Int.eq_ofNat_of_zero_le c0
  rw [hc] at c1
  have hcF : c < (footP L r G).cols.length := by omega
  have hgr := rows_sum_le hF
  have hA := cutA_succ (footP L r G) f m t hi
  have hB := cutA_few hF hQ f m t i (by omega)
  rw [hc, hGl] at hA
  refine ⟨c, hc, hcF, hA, hB.1, by omega, by omega, fun g hg => ?_⟩
  have hgF : g < (footP L r G).groups.length := by omega
  have hDl : (G.getD g grZ).2.2.2.length = L.length := by
    have := (foot_group hF (k := g) hgF).2.1
    unfold footP at this
    dsimp only at this
    rw [getD_mapX grP G grZ groupZ hg] at this
    unfold grP at this
    simpa using this
  have hcL : c < L.length := hcF
  have hpa : pagesAt (footP L r G).groups g c = ((G.getD g grZ).2.2.2.getD c chZ).2.2 := by
    unfold pagesAt footP
    dsimp only
    rw [getD_mapX grP G grZ groupZ hg]
    exact getD_mapX (fun x : ChD => x.2.2) (G.getD g grZ).2.2.2 chZ [] (by omega)
  have hsp := spansF_in hF hgF (c := (c : Int)) (by omega) (by omega)
  rw [Int.toNat_natCast, hpa] at hsp
  have hpl : ((G.getD g grZ).2.2.2.getD c chZ).2.2.length ≤ 65536 := by
    have h1 := rowsL_pos (foot_chunk hF hgF hcF).1.1
    have h2 := (foot_chunk hF hgF hcF).1.2
    have h3 := foot_ahead hF hgF
    rw [hpa] at h1 h2
    omega
  have hG1 := cutG_succ (footP L r G) f m t (c : Int) g
  rw [← cutC_all, Int.toNat_natCast, hpa] at hG1
  have hG2 := cutG_few hF f m t hcF g (by omega)
  refine ⟨hDl, hsp, hpl, hG1, hG2.1, by omega, fun p hp => ?_⟩
  have hC := cutC_few hF f m t hgF hcF (p := p) (by rw [hpa]; omega)
  have hS := cutC_succ (footP L r G) f m t (c : Int) g p
  unfold cutP at hS
  rw [Int.toNat_natCast, hpa] at hS
  have hP := (placeV_page hF hgF hcF (q := p) (by rw [hpa]; exact hp)).2.2.2
  have hZ := sizes_in hF hgF hcF (x := p) (q := p + 1) (by omega) (by rw [hpa]; omega)
  have hZ2 := sizesL_take_succ (l := ((G.getD g grZ).2.2.2.getD c chZ).2.2) (k := p) hp
  rw [hpa] at hP hZ
  exact ⟨hC.1, hC.2, hS, hP, by omega⟩
end

end Go.Proofs.Ythmjbdpkdomofaa
