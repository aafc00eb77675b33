/- Texts merged, for a claim has at most 60 files: FooYa, PicS, FooT, PicF, PrfD, PicI, PicK, SmallPk, BoolN, FooW, PicL, PicQ. -/
import Derived.BigQuiet
import Derived.Deep.QuietTactic
import Derived.Lib.SmallJoins
import Derived.Outline
import Derived.Test.YthmjbdpkdomofaaBun3
import Derived.Test.YthmjbdpkdomofaaBun4
import Derived.Test.YthmjbdpkdomofaaBun5
import Derived.Test.YthmjbdpkdomofaaBun6
/- The small footer of layer 19's statements; what the pages of a right footer are: plain. -/

namespace Go.Proofs.Ythmjbdpkdomofaa
open Go Go.RowKit Go.Hm
def fcN (n : Int) : CellS := (false, n, [], 0, 0)
def fsS : StatS := (0, true, fcN 1, fcN 2)
def fpA : PageS := (5, 2, fsS)
def fpB : PageS := (7, 1, fsS)
def fL : List ColS := [([97], 0, false)]
def fsm : FootS := ⟨fL, 3, [(3, [[fpA, fpB]])]⟩
def fz : FootS := ⟨[], 0, []⟩
theorem fs_right : rightS 0 fsS = true := by
  unfold rightS
  rw [if_neg (by simp [fsS]), if_pos (show fsS.2.1 = true from rfl)]
  have h1 : rightB (fcN 1) 0 false = true := by simp [rightB, fcN]
  have h2 : rightB (fcN 2) 0 false = true := by simp [rightB, fcN]
  have h3 : cmpD 0 (fcN 1) (fcN 2) = -1 := rfl
  simp [fsS, h1, h2, h3]
theorem fpA_ok : pageB 0 false fpA 65536 = true := by
  rw [pageB_most]
  refine ⟨by simp [fpA], ?_⟩
  rw [show rightS 0 fpA.2.2 = true from fs_right]
  simp [fpA, fsS]
theorem fpB_ok : pageB 0 false fpB 65536 = true := by
  rw [pageB_most]
  refine ⟨by simp [fpB], ?_⟩
  rw [show rightS 0 fpB.2.2 = true from fs_right]
  simp [fpB, fsS]
theorem fsm_ok : FootOk fsm := by
  refine ⟨(colsCk_iff fL).1 (by decide), ?_, by simp [fsm], by simp [fsm], by simp [fsm, groupSize, sizesL, fpA, fpB]⟩
  intro g hg
  simp only [fsm, List.mem_singleton] at hg
  subst hg
  refine ⟨by simp, by simp [fsm, fL], ?_⟩
  intro i hi
  obtain rfl : i = 0 := by simp [fsm, fL] at hi; omega
  refine ⟨?_, by simp [rowsL, fpA, fpB]⟩
  intro p hp
  simp at hp
  rcases hp with rfl | rfl
  · exact fpA_ok
  · exact fpB_ok
theorem fz_ok : FootOk fz := ⟨(colsCk_iff []).1 (by decide), by simp [fz], by simp [fz], by simp [fz], by simp [fz]⟩
theorem one_no : ¬ FootOk ⟨[], 1, []⟩ := fun h => by have := h.2.2.1; simp at this
theorem fs_data : statData fsS := by unfold statData cellData fsS fcN; simp
/-- What the pages of a right footer are, of data. -/
theorem pageFine_of {t : Int} {nu : Bool} {p : PageS} (h : pageB t nu p 65536 = true) (hd : statData p.2.2) : PageFine p := by
  obtain ⟨⟨h1, h2, h3, h4⟩, h5⟩ := pageB_most.1 h
  rw [Bool.and_eq_true] at h5
  have hr := h5.1
  have hcell : ∀ {c : CellS}, rightB c t false = true → cellData c → CellFine c := by
    intro c hc hd
    obtain ⟨nul, n, s, x, y⟩ := c
    unfold rightB at hc
    refine ⟨hd.1, hd.2, ?_⟩
    dsimp only at hc ⊢
    split at hc
    · simp at hc
    · split at hc
      · simp at hc; omega
      · split at hc
        · simp at hc; omega
        · split at hc
          · simp at hc; omega
          · split at hc
            · rw [Bool.and_eq_true] at hc
              have hb := hc.2
              unfold inBox at hb
              simp at hb
              omega
            · simp at hc
  unfold rightS at hr
  split at hr
  · simp at hr
  · rename_i hn
    split at hr
    · rw [Bool.and_eq_true, Bool.and_eq_true] at hr
      exact ⟨⟨⟨hcell hr.1 hd.1, hcell hr.2.1 hd.2⟩, by omega, by omega⟩, by omega, by omega⟩
    · rw [Bool.and_eq_true] at hr
      obtain ⟨e1, e2⟩ := hr
      simp only [decide_eq_true_eq] at e1 e2
      have hz : CellFine cell0 := by unfold CellFine cell0; simp
      exact ⟨⟨⟨by rw [e1]; exact hz, by rw [e2]; exact hz⟩, by omega, by omega⟩, by omega, by omega⟩
/-- .. so footers that are right, and of data, may be encoded. -/
theorem foot_fine {L : List ColS} {r : Int} {G : List GrD} (h : FootOk (footP L r G)) (hd : FootData (footP L r G)) : ∀ g ∈ G, ∀ x ∈ g.2.2.2, ∀ p ∈ x.2.2, PageFine p := by
  intro g hg x hx p hp
  have h1 := h.2.1 (grP g) (List.mem_map.2 ⟨g, hg, rfl⟩)
  have h2 := hd.2 (grP g) (List.mem_map.2 ⟨g, hg, rfl⟩) x.2.2 (List.mem_map.2 ⟨x, hx, rfl⟩) p hp
  obtain ⟨i, hi, e⟩ := List.getElem_of_mem (show x.2.2 ∈ (grP g).2 from List.mem_map.2 ⟨x, hx, rfl⟩)
  have h3 := h1.2.2 i (by rw [← h1.2.1]; exact hi)
  rw [List.getD_eq_getElem?_getD (l := (grP g).2), List.getElem?_eq_getElem hi, Option.getD_some, e] at h3
  exact pageFine_of (h3.1 p hp) h2

end Go.Proofs.Ythmjbdpkdomofaa
/- Plain: the small case of layer 25's statements. -/

namespace Go.Proofs.Ythmjbdpkdomofaa
open Go Go.RowKit Go.Hm
def gS : StatS := (0, true, fcN 0, fcN 2)
def gpA : PageS := (5, 2, gS)
def gpB : PageS := (7, 1, gS)
theorem gs_right : rightS 0 gS = true := by
  unfold rightS
  rw [if_neg (by simp [gS]), if_pos (show gS.2.1 = true from rfl)]
  have h1 : rightB (fcN 0) 0 false = true := by simp [rightB, fcN]
  have h2 : rightB (fcN 2) 0 false = true := by simp [rightB, fcN]
  have h3 : cmpD 0 (fcN 0) (fcN 2) = -1 := rfl
  simp [gS, h1, h2, h3]
theorem gpA_ok : pageB 0 false gpA 65536 = true := by
  rw [pageB_most]
  refine ⟨by simp [gpA], ?_⟩
  rw [show rightS 0 gpA.2.2 = true from gs_right]
  simp [gpA, gS]
theorem gpB_ok : pageB 0 false gpB 65536 = true := by
  rw [pageB_most]
  refine ⟨by simp [gpB], ?_⟩
  rw [show rightS 0 gpB.2.2 = true from gs_right]
  simp [gpB, gS]
theorem gs_data : statData gS := by unfold statData cellData gS fcN; simp
def gL : List ColS := [([97], 0, false), ([98], 0, false)]
def gsm : FootS := ⟨gL, 6, [(3, [[gpA, gpB], [gpA, gpB]]), (3, [[gpA, gpB], [gpA, gpB]])]⟩
theorem gsm_ok : FootOk gsm := by
  refine ⟨(colsCk_iff gL).1 (by decide), ?_, by simp [gsm], by simp [gsm], by simp [gsm, groupSize, sizesL, gpA, gpB]⟩
  intro g hg
  have e : g = (3, [[gpA, gpB], [gpA, gpB]]) := by
    simp only [gsm, List.mem_cons, List.not_mem_nil, or_false, or_self] at hg
    exact hg
  subst e
  refine ⟨by simp, by simp [gsm, gL], ?_⟩
  intro i hi
  have hi : i < 2 := hi
  have hch : ChunkOk 0 false [gpA, gpB] 3 := by
    refine ⟨?_, by simp [rowsL, gpA, gpB]⟩
    intro p hp
    simp at hp
    rcases hp with rfl | rfl
    · exact gpA_ok
    · exact gpB_ok
  match i with
  | 0 => exact hch
  | 1 => exact hch
theorem gsm_data : FootData gsm := by
  refine ⟨by intro c hc; simp [gsm, gL] at hc; rcases hc with rfl | rfl <;> simp, ?_⟩
  intro g hg l hl p hp
  simp [gsm] at hg
  subst hg
  simp at hl
  subst hl
  simp at hp
  rcases hp with rfl | rfl <;> exact gs_data
theorem gsm_fits {Q : List Int} {f t : Int} (h : qfits Q f t 2 6 = true) : okQ gsm Q f t = true := by
  unfold okQ
  rw [rightF_yes gsm_ok]
  exact h
theorem gsm_unfit {Q : List Int} {f t : Int} (h : qfits Q f t 2 6 = false) : okQ gsm Q f t = false := by
  unfold okQ
  rw [rightF_yes gsm_ok]
  exact h
theorem gsm_g : gSpans gsm = [(0, 3), (3, 6)] := by
  unfold gSpans rowsG
  simp [gsm, stepsI]
theorem two_cases {P : Nat → Prop} (h0 : P 0) (h1 : P 1) : ∀ i, i < 2 → P i := fun i hi => match i, hi with
  | 0, _ => h0
  | 1, _ => h1
theorem gsm_s0 : spansF gsm (0 : Nat) 1 = [(0, 2), (2, 3)] := by
  unfold spansF
  rw [rightF_yes gsm_ok]
  have : inB gsm.cols.length gsm.groups.length ((0 : Nat) : Int) 1 = true := by simp [inB, gsm, gL]
  rw [this]
  simp [aheadR, pagesAt, gsm, spansL, gpA, gpB]
theorem gsm_s1 : spansF gsm (1 : Nat) 1 = [(3, 5), (5, 6)] := by
  unfold spansF
  rw [rightF_yes gsm_ok]
  have : inB gsm.cols.length gsm.groups.length ((1 : Nat) : Int) 1 = true := by simp [inB, gsm, gL]
  rw [this]
  simp [aheadR, pagesAt, gsm, spansL, gpA, gpB]
theorem gsm_over {l : List (Int × Int)} (hl : l.length = 2) {f t : Int} {a b : Nat} (h1 : a ≤ b) (h2 : b ≤ 2) (h3 : a < b ∨ a = 0 ∧ b = 0) (h4 : (a ≤ 0 ∧ 0 < b) ↔ hasS (l.getD 0 (0, 0)) f t) (h5 : (a ≤ 1 ∧ 1 < b) ↔ hasS (l.getD 1 (0, 0)) f t) : ovr l f t = (a, b) :=
  ovr_is ⟨h1, by omega, h3, fun i hi => two_cases (P := fun i => (a ≤ i ∧ i < b) ↔ hasS (l.getD i (0, 0)) f t) h4 h5 i (by omega)⟩
theorem gsm_groups : groupsQ true gsm 2 4 = (0, 2) := by
  unfold groupsQ
  rw [if_pos rfl, gsm_g]
  exact gsm_over rfl (by omega) (by omega) (by omega) (by decide) (by decide)
theorem gsm_parts : partsQ true gsm [1] 2 4 = [(0, 1, 1, 2), (1, 1, 0, 1)] := by
  unfold partsQ
  rw [gsm_groups]
  unfold partsTo partG
  have e0 : ovr (spansF gsm (0 : Nat) 1) 2 4 = (1, 2) := by
    rw [gsm_s0]
    exact gsm_over rfl (by omega) (by omega) (by omega) (by decide) (by decide)
  have e1 : ovr (spansF gsm (1 : Nat) 1) 2 4 = (0, 1) := by
    rw [gsm_s1]
    exact gsm_over rfl (by omega) (by omega) (by omega) (by decide) (by decide)
  show (([0, 1] : List Nat).flatMap fun (g : Nat) => [(((g : Nat) : Int), (1 : Int), ((ovr (spansF gsm ((g : Nat) : Int) 1) 2 4).1 : Int), ((ovr (spansF gsm ((g : Nat) : Int) 1) 2 4).2 : Int))]) = _
  simp only [List.flatMap_cons, List.flatMap_nil, e0, e1]
  rfl
theorem gsm_bytes : bytesQ true gsm [1] 2 4 = 12 := by
  unfold bytesQ
  rw [if_pos rfl, ← parts_bytes gsm_ok (cols := [1]) (by intro c hc; simp at hc; subst hc; simp [gsm, gL]) 2 4, gsm_parts]
  simp [partSize, pagesAt, gsm, sizesL, gpA, gpB]
theorem gsm_none : partsQ true gsm [0] 1 1 = [] := by
  have e : groupsQ true gsm 1 1 = (0, 0) := by
    unfold groupsQ
    rw [if_pos rfl, gsm_g]
    exact gsm_over rfl (by omega) (by omega) (by omega) (by decide) (by decide)
  unfold partsQ
  rw [e]
  rfl
theorem split_2 : splitN 2 = 1 := by decide
theorem cnt_one {f t : Nat} (h : f + 1 = t) (ht : t ≤ 2) : cnt (evs f t 0 2) = 1 := by
  rw [cnt_node (by omega) (by omega) (by omega), split_2]
  have hf : f = 0 ∨ f = 1 := by omega
  rcases hf with rfl | rfl
  · subst h
    rw [evs_among (by omega), evs_beside (by omega) (by omega)]
    rfl
  · subst h
    rw [evs_beside (by omega) (by omega), evs_among (by omega)]
    rfl
theorem needI_fitP {n f t : Nat} (h1 : f ≤ t) (h2 : t ≤ n) (h3 : n ≤ 65536) : needI (n : Int) (f : Int) (t : Int) = (cnt (evs f t 0 n) : Nat) := by
  unfold needI
  rw [if_neg (by omega), Int.toNat_natCast, Int.toNat_natCast, Int.toNat_natCast]
theorem need_202 : needI 2 0 2 = 0 := by
  have := needI_fitP (n := 2) (f := 0) (t := 2) (by omega) (by omega) (by omega)
  rw [evs_among (by omega)] at this
  exact this
theorem need_200 : needI 2 0 0 = 1 := by
  have := needI_fitP (n := 2) (f := 0) (t := 0) (by omega) (by omega) (by omega)
  rw [evs_beside (by omega) (by omega)] at this
  exact this
theorem need_212 : needI 2 1 2 = 1 := by
  have := needI_fitP (n := 2) (f := 1) (t := 2) (by omega) (by omega) (by omega)
  rw [cnt_one rfl (by omega)] at this
  exact this
theorem need_201 : needI 2 0 1 = 1 := by
  have := needI_fitP (n := 2) (f := 0) (t := 1) (by omega) (by omega) (by omega)
  rw [cnt_one rfl (by omega)] at this
  exact this
theorem gsm_digests : digestsQ true gsm [1] 2 4 = 4 := by
  unfold digestsQ
  rw [if_pos rfl, gsm_groups, gsm_parts, if_neg (by simp)]
  have h1 : digP gsm (0, 1, 1, 2) = 2 := by
    show needI 2 1 2 + needI 2 1 (1 + 1) = 2
    rw [show (1 + 1 : Int) = 2 from rfl, need_212]
    rfl
  have h2 : digP gsm (1, 1, 0, 1) = 2 := by
    show needI 2 0 1 + needI 2 1 (1 + 1) = 2
    rw [show (1 + 1 : Int) = 2 from rfl, need_212, need_201]
    rfl
  unfold digTo
  show needI 2 0 2 + (([(0, 1, 1, 2), (1, 1, 0, 1)] : List PartS).map (digP gsm)).sum = 4
  simp only [List.map_cons, List.map_nil, h1, h2, need_202]
  rfl
theorem gsm_dig0 : digestsQ true gsm [] 0 0 = 1 := by
  have e : groupsQ true gsm 0 0 = (0, 0) := by
    unfold groupsQ
    rw [if_pos rfl, gsm_g]
    exact gsm_over rfl (by omega) (by omega) (by omega) (by decide) (by decide)
  unfold digestsQ
  rw [if_pos rfl, e, if_pos (show ([] : List Int).length = 0 from rfl)]
  show needI 2 0 0 + 0 - 0 = 1
  rw [need_200]
  rfl
theorem gsm_dig1 : digestsQ true gsm [] 0 1 = 2 := by
  have e : groupsQ true gsm 0 1 = (0, 1) := by
    unfold groupsQ
    rw [if_pos rfl, gsm_g]
    exact gsm_over rfl (by omega) (by omega) (by omega) (by decide) (by decide)
  unfold digestsQ
  rw [if_pos rfl, e, if_pos (show ([] : List Int).length = 0 from rfl)]
  show needI 2 0 1 + 1 - 0 = 2
  rw [need_201]
  rfl

end Go.Proofs.Ythmjbdpkdomofaa
/- The contract of the answer's Spans (layer 19). -/

namespace Go.Proofs.Ythmjbdpkdomofaa
open Go.RowKit Go.Hm
set_option maxHeartbeats 4000000 in
set_option maxRecDepth 100000 in
theorem rfspans_any {w : World} {Ac : Option Addr} {cc : Nat} {L : List ColS} {r : Int} {Ag : Option Addr} {cg : Nat} {G : List GrD} (h : FootIn w Ac cc L Ag G) (hp : ∀ g ∈ G, ∀ x ∈ g.2.2.2, ∀ p ∈ x.2.2, statFine p.2.2) (hr8 : -9223372036854775808 ≤ r ∧ r ≤ 9223372036854775807) {g c : Int} :
    Calls Try.prog 30 #[footA Ac cc L r Ag cg G, .int .i64 g, .int .i64 c] w (SpansPost (spansF (footP L r G) g c) w) := by
  have HR := fun (W : World) (hW : New w W) => rfright_any (r := r) (cc := cc) (cg := cg) (h.later hW) hp hr8
  have hX : spansF (footP L r G) g c = if rightF (footP L r G) && inB L.length G.length g c then spansL (aheadR (G.map grP) g.toNat) (pagesAt (G.map grP) g.toNat c.toNat) else [] := by
    unfold spansF footP
    simp only [List.length_map]
  have hF : rightF (footP L r G) = true → FootOk (footP L r G) := fun e => by unfold rightF at e; simpa using e
  have B0 := Blk.new w 25 #[.slice Ac L.length cc, .int .i64 r, .slice Ag G.length cg]
  have b0 : New w (w.alloc (.cells #[.slice Ac L.length cc, .int .i64 r, .slice Ag G.length cg] 25)) := (Below.refl _ _).alloc (Nat.le_refl _) _
  obtain ⟨x0, x1, x2⟩ := ccells B0
  have HG := Lib.hid h.groups
  have HCH := Lib.hid h.chunks
  have HPG := Lib.hid h.pages
  have hfew2 := h.few2
  have hB := @inB_yes L.length G.length g c
  have hI : inB L.length G.length g c = decide (0 ≤ g ∧ g < (G.length : Int) ∧ 0 ≤ c ∧ c < (L.length : Int)) := rfl
  clear h hp
  generalize inB L.length G.length g c = I at *
  show Calls Try.prog 30 #[.agg #[.slice Ac L.length cc, .int .i64 r, .slice Ag G.length cg], .int .i64 g, .int .i64 c] w (SpansPost (spansF (footP L r G) g c) w)
  generalize spansF (footP L r G) g c = X at *
  generalize rightF (footP L r G) = M at *
  have HR : Hid (∀ W, New w W → Calls Try.prog 20 #[.agg #[.slice Ac L.length cc, .int .i64 r, .slice Ag G.length cg]] W (NewPost (.bool M) W)) := Lib.hid HR
  cases M with
  | false =>
    obtain rfl : X = [] := by rw [hX]; rfl
    clear hX hF hB hI
    go_enter Try.func30, Try.ntmps30
    go_wp2_with fail
    refine (HR.out _ b0).mono ?_
    rintro e w1 ⟨rfl, b1⟩
    have b01 := New.trans b0 b1
    clear b0 b1
    go_wp2
    go_ret
    exact ⟨none, 0, 0, rfl, row_nil, b01⟩
  | true =>
    have hok := hF rfl
    clear hF
    cases I with
    | false =>
      obtain rfl : X = [] := by rw [hX]; rfl
      have hcs : g < 0 ∨ (0 ≤ g ∧ (G.length : Int) ≤ g) ∨ (0 ≤ g ∧ g < (G.length : Int) ∧ c < 0) ∨ (0 ≤ g ∧ g < (G.length : Int) ∧ 0 ≤ c ∧ (L.length : Int) ≤ c) := by
        have := of_decide_eq_false hI.symm
        omega
      clear hX hB hI
      go_enter Try.func30, Try.ntmps30
      go_wp2_with fail
      refine (HR.out _ b0).mono ?_
      rintro e w1 ⟨rfl, b1⟩
      have B1 := B0.below b1 B0.lt
      have b01 := New.trans b0 b1
      clear b0 b1 B0 x0 x1 x2
      obtain ⟨x0, x1, x2⟩ := ccells B1
      rcases hcs with hh | ⟨hh, hh2⟩ | ⟨hh, hh2, hh3⟩ | ⟨hh, hh2, hh3, hh4⟩
      all_goals
        go_wp2
        go_ret
        exact ⟨none, 0, 0, rfl, row_nil, b01⟩
    | true =>
      obtain ⟨gk, ck, rfl, rfl, hgk, hck⟩ := hB rfl
      clear hB hI
      replace hX : X = spansL (aheadR (G.map grP) gk) (pagesAt (G.map grP) gk ck) := hX
      have hAH := fun (k : Nat) (hk : k < G.length) => foot_ahead hok (k := k) (by unfold footP; simpa using hk)
      have hCK := foot_chunk hok (k := gk) (c := ck) (by unfold footP; simpa using hgk) hck
      unfold footP at hAH hCK
      dsimp only at hAH hCK
      have hMap := fun (k : Nat) (hk : k < G.length) => getD_mapX grP G (k := k) grZ groupZ hk
      have HAH := Lib.hid (fun (k : Nat) (hk : k < G.length) => show 0 ≤ aheadR (G.map grP) k ∧ aheadR (G.map grP) (k + 1) = aheadR (G.map grP) k + (G.getD k grZ).1 ∧ aheadR (G.map grP) (k + 1) ≤ 65536 ∧ 1 ≤ (G.getD k grZ).1 by
        have := hAH k hk
        rw [hMap k hk] at this
        exact this)
      have h65 := hAH gk hgk
      rw [hMap gk hgk] at h65
      have hMG := hMap gk hgk
      unfold pagesAt at hX hCK
      rw [hMG] at hX hCK
      have ha0 : aheadR (G.map grP) 0 = 0 := rfl
      have HA0 := Lib.hid ha0
      generalize hAR : aheadR (G.map grP) = AR at *
      clear hAR hAH hMap hMG ha0
      have n1 : ¬ (gk : Int) < 0 := by omega
      have n2 : ¬ (G.length : Int) ≤ (gk : Int) := by omega
      have n3 : ¬ (ck : Int) < 0 := by omega
      have n4 : ¬ (L.length : Int) ≤ (ck : Int) := by omega
      go_enter Try.func30, Try.ntmps30
      go_wp2_with fail
      refine (HR.out _ b0).mono ?_
      rintro e w1 ⟨rfl, b1⟩
      have B1 := B0.below b1 B0.lt
      have b01 := New.trans b0 b1
      clear b0 b1 B0 x0 x1 x2 HR
      obtain ⟨x0, x1, x2⟩ := ccells B1
      go_wp2_with fail
      clear x0 x1 x2 n1 n2 n3 n4
      go_loopw [8, 9] (fun a i wr => ∃ k : Nat, k ≤ gk ∧ i = .int .i64 (k : Int) ∧ a = .int .i64 (AR k) ∧ Blk wr w.heap.size 25 #[.slice Ac L.length cc, .int .i64 r, .slice Ag G.length cg] ∧ New w wr) (fun _ i _ => gk - (intOf i).toNat)
      case atStart => exact ⟨0, Nat.zero_le _, rfl, by rw [HA0.out], B1, b01⟩
      case round =>
        obtain ⟨k, hk, rfl, rfl, B, b⟩ := hrel
        clear B1 b01 HA0
        by_cases hlt : k < gk
        · obtain ⟨x0, x1, x2⟩ := ccells B
          have hkG : k < G.length := by omega
          obtain ⟨ad, rfl, hb, d0, d1⟩ := (Reads.later HG.out b).gr2 (i := k) (by omega)
          obtain ⟨a1, a2, a3, a4⟩ := HAH.out k (by omega)
          have HA2 := Lib.hid a2
          have hq : AR k + (G.getD k grZ).1 ≤ 65536 := by omega
          have hq0 : 0 ≤ AR k + (G.getD k grZ).1 := by omega
          clear a2 a3 a4 hX h65 hCK
          generalize AR k = ak at *
          generalize G.getD k grZ = gg at *
          obtain ⟨gr, Ach, cch, D⟩ := gg
          dsimp only at d0 d1 HA2 hq hq0
          go_wp2_with fail
          go_roundw
          case rel => exact ⟨k + 1, by omega, by go_num, by rw [HA2.out], B, b⟩
          case measure => simp [intOf]; omega
        · obtain rfl : k = gk := by omega
          obtain ⟨x0, x1, x2⟩ := ccells B
          obtain ⟨ad, rfl, hb, d0, d1⟩ := (Reads.later HG.out b).gr2 hgk
          have hgm := mem_getDF grZ hgk
          have hch := HCH.out _ hgm
          have hpg := HPG.out _ hgm
          clear hlt HAH hk hb hgm
          generalize G.getD k grZ = gg at *
          obtain ⟨gr, Ach, cch, D⟩ := gg
          unfold grP at hCK hX h65
          dsimp only at d0 d1 hCK hX h65 hch hpg
          have hD : D.length = L.length := by have := hCK.2; simpa using this
          have hckD : ck < D.length := by omega
          rw [getD_mapX (fun x : ChD => x.2.2) D chZ [] hckD] at hCK hX
          obtain ⟨ac, rfl, hbc, e0⟩ := (Reads.later hch.1 b).ch1 hckD
          have hxm := mem_getDF chZ hckD
          have hpx := hpg _ hxm
          clear hpg hch hxm hbc
          have hCK := hCK.1
          generalize D.getD ck chZ = x at *
          obtain ⟨Ax, cx, pl⟩ := x
          dsimp only at e0 hpx hCK hX
          have HPL := Lib.hid hpx.1
          have hpn := hpx.2
          have RT := Lib.hid (fun (q : Nat) (hq : q < pl.length) => rowsL_take hCK hq)
          have h65a : 0 ≤ AR k := h65.1
          have h65b : AR k + gr ≤ 65536 := by omega
          have hplr := (rowsL_pos hCK.1).2
          have hgr := hCK.2
          have HX := Lib.hid hX
          generalize AR k = a0 at *
          have HCK := Lib.hid hCK
          clear hpx h65 hok hCK hX
          have hDi : (ck : Int) < (D.length : Int) := by omega
          go_wp2_with fail
          clear x0 x1 x2 d0 d1 e0
          go_loopw [10, 8, 12] (fun v a i wr => ∃ (q : Nat) (A : Option Addr) (d : Nat), q ≤ pl.length ∧ i = .int .i64 (q : Int) ∧ v = .slice A q d ∧ a = .int .i64 (a0 + rowsL (pl.take q)) ∧ wr.ownsRow w.heap.size 44 2 (.slice A q d) q (pairs (spansL a0 (pl.take q))) ∧ New w wr) (fun _ _ i _ => pl.length - (intOf i).toNat)
          case atStart => exact ⟨0, none, 0, Nat.zero_le _, rfl, rfl, by simp [rowsL], row_nil, b⟩
          case round =>
            obtain ⟨q, A, d, hq, rfl, rfl, rfl, o, b⟩ := hrel
            by_cases hlq : q < pl.length
            · have FP := fun (W : World) (hW : New w W) => (Reads.later HPL.out hW).page14 hlq
              obtain ⟨ap, rfl, -⟩ := FP _ b
              have FP := Lib.hid (fun (W : World) (hW : New w W) => show W.cell? ⟨(ap.add (q * 14)).block, (ap.add (q * 14)).off + 1, none⟩ = some (.int .i64 (pl.getD q pageZ).2.1) from by
                obtain ⟨ad', e, _, _, f, _⟩ := FP W hW
                injection e with e
                subst e
                exact f)
              obtain ⟨r1, r2, r3⟩ := RT.out q hlq
              have htk := take_snoc pl q pageZ hlq
              have hsn := spansL_snoc a0 (pl.take q) (pl.getD q pageZ)
              rw [← htk] at hsn
              have HS := Lib.hid hsn
              have H2 := Lib.hid r2
              have b65 : a0 + (rowsL (pl.take q) + (pl.getD q pageZ).2.1) ≤ 65536 := by omega
              have b0 : 0 ≤ a0 + (rowsL (pl.take q) + (pl.getD q pageZ).2.1) := by have := ((pageB_most.1 (HCK.out.1 _ (mem_getDF pageZ hlq))).1); omega
              clear r2 r3 htk hsn
              generalize rowsL (pl.take q) = rq at *
              generalize (pl.getD q pageZ).2.1 = rw at *
              have d1 := FP.out _ b
              have z0 := b.size
              have hq6 : q ≤ 65536 := by omega
              go_wp2_with (refine wpList_pushR elP rfl (.tmp 67) (.tmp 77) rfl (W := w) (B := w.heap.size) (base := w.heap.size) (n := q) o rfl rfl b (Nat.le_refl _) z0 rfl (by simp [Value.oneCell']) (by omega) (by simp only [maxLen]; omega) ?_
                           intro A' c' w' _ _ o' g' b' _ _
                           have d1' := FP.out _ b')
              go_roundw
              case rel => exact ⟨q + 1, A', c', by omega, by go_num, rfl, by rw [H2.out]; congr 1; omega, by rw [HS.out, pairs_snoc]; exact o', b'⟩
              case measure => simp [intOf]; omega
            · obtain rfl : q = pl.length := by omega
              rw [List.take_length] at o
              have O := Lib.hid o
              clear o
              go_wp2
              go_ret
              exact ⟨A, pl.length, d, rfl, by rw [HX.out]; exact O.out, b⟩

end Go.Proofs.Ythmjbdpkdomofaa
/- The contract of the answer's Parts. -/

namespace Go.Proofs.Ythmjbdpkdomofaa
open Go Go.RowKit Go.Hm

section
variable {w : World} {Ac : Option Addr} {cc : Nat} {L : List ColS} {r : Int} {Ag : Option Addr} {cg : Nat} {G : List GrD} {Aq : Option Addr} {cq : Nat} {Q : List Int} {f t : Int}
set_option maxHeartbeats 8000000 in
set_option maxRecDepth 100000 in
theorem rpparts_any (h : FQ w Ac cc L r Ag cg G Aq cq Q) :
    Calls Try.prog 15 #[.agg #[.slice Ac L.length cc, .int .i64 r, .slice Ag G.length cg], qV Aq cq Q f t] w (PartsPost (partsQ (okQ (footP L r G) Q f t) (footP L r G) Q f t) w) := by
  have P1 := Lib.hid (fun (W : World) (hW : New w W) => rpgroups_any (f := f) (t := t) (h.later hW))
  have PS := Lib.hid (fun (W : World) (hW : New w W) (k j : Nat) => rfspans_any (r := r) (cc := cc) (cg := cg) (g := (k : Int)) (c := (j : Int)) (h.later hW).foot h.stat h.row8)
  have hGl : (footP L r G).groups.length = G.length := by unfold footP; simp
  have HQ := Lib.hid h.cols
  have H8 := Lib.hid h.q8
  have hfewq := h.fewq
  have hfewG := h.fewG
  have OV := fun (e : okQ (footP L r G) Q f t = true) => And.intro (okQ_foot e) (And.intro (okQ_cols e) (groupsQ_le e))
  have UP := fun (e : FootOk (footP L r G)) (k j : Nat) (hk : k < G.length) (hj : j < L.length) => show UpS (spansF (footP L r G) (k : Int) (j : Int)) ∧ (spansF (footP L r G) (k : Int) (j : Int)).length ≤ 65536 from by
    obtain ⟨ty, nu, hc⟩ := chunk_at e (g := k) (by rw [hGl]; exact hk) (c := (j : Int)) (by omega) (by unfold footP; dsimp only; omega)
    rw [spansF_in e (by rw [hGl]; exact hk) (c := (j : Int)) (by omega) (by unfold footP; dsimp only; omega)]
    have h1 := (rowsL_pos hc.1).2.1
    have h2 := hc.2
    have h3 := foot_rows e (k := k) (by rw [hGl]; exact hk)
    have h4 := (foot_ahead e (k := k) (by rw [hGl]; exact hk)).1
    unfold aheadR at h4
    rw [spansL_len]
    exact ⟨spansL_up hc _, by omega⟩
  obtain ⟨X, hX⟩ : ∃ X, X = partsQ (okQ (footP L r G) Q f t) (footP L r G) Q f t := ⟨_, rfl⟩
  rw [← hX]
  unfold partsQ at hX
  have hcl : (footP L r G).cols = L := rfl
  rw [hcl] at OV
  clear h hcl
  generalize footP L r G = F at *
  have HX := Lib.hid hX
  have HOV := Lib.hid OV
  have HUP := Lib.hid UP
  clear hX OV UP
  have B0 := (Blk.new w 25 #[.slice Ac L.length cc, .int .i64 r, .slice Ag G.length cg]).alloc (.cells #[.slice Aq Q.length cq, .int .i64 f, .int .i64 t] 28)
  have B1 := Blk.new (w.alloc (.cells #[.slice Ac L.length cc, .int .i64 r, .slice Ag G.length cg] 25)) 28 #[.slice Aq Q.length cq, .int .i64 f, .int .i64 t]
  have b0 := new2 w (.cells #[.slice Ac L.length cc, .int .i64 r, .slice Ag G.length cg] 25) (.cells #[.slice Aq Q.length cq, .int .i64 f, .int .i64 t] 28)
  simp only [World.size_alloc] at B1
  obtain ⟨x0, x1, x2⟩ := ccells B0
  obtain ⟨y0, y1, y2⟩ := ccells B1
  go_enter Try.func15, Try.ntmps15
  go_wp2_with fail
  refine (P1.out _ b0).mono ?_
  rintro e w1 ⟨rfl, b1⟩
  unfold pairN
  have B0 := B0.below b1 B0.lt
  have B1 := B1.below b1 B1.lt
  have b01 := New.trans b0 b1
  clear x0 x1 x2 y0 y1 y2 b0 b1 P1
  obtain ⟨M, hM⟩ : ∃ M, M = okQ F Q f t := ⟨_, rfl⟩
  rw [← hM]
  rw [← hM] at HX
  obtain ⟨a, b, hab⟩ : ∃ a b, groupsQ M F f t = (a, b) := ⟨_, _, rfl⟩
  rw [hab]
  rw [hab] at HX
  have HX : Hid (X = partsTo F Q f t a (b - a)) := HX
  have hz : M = false → a = 0 ∧ b = 0 := fun e => by
    rw [e] at hab
    have : groupsQ false F f t = (0, 0) := rfl
    rw [this] at hab
    injection hab with ha hb
    exact ⟨ha.symm, hb.symm⟩
  have hok : M = true → FootOk F ∧ ((∀ c ∈ Q, 0 ≤ c ∧ c < (L.length : Int)) ∧ Q.Nodup ∧ 0 ≤ f ∧ f ≤ t ∧ t ≤ F.rows ∧ Q.length ≤ 64) ∧ a ≤ b ∧ b ≤ F.groups.length := fun e => by
    rw [e] at hab hM
    have := HOV.out hM.symm
    rw [hab] at this
    exact this
  have hbG : a ≤ b ∧ b ≤ G.length := by
    cases M with
    | false => rw [(hz rfl).1, (hz rfl).2]; exact ⟨Nat.le_refl _, Nat.zero_le _⟩
    | true => have := (hok rfl).2.2; omega
  obtain ⟨hab0, hbG⟩ := hbG
  have HOK := Lib.hid hok
  have HZ := Lib.hid hz
  have HGL := Lib.hid hGl
  dsimp only
  clear hok hz hM hab HOV hGl
  have hz01 := b01.size
  go_wp2_with fail
  go_loopw [7, 8] (fun v i wr => ∃ (k n : Nat) (A : Option Addr) (d : Nat), a ≤ k ∧ k ≤ b ∧ i = .int .i64 (k : Int) ∧ v = .slice A n d ∧ n ≤ 64 * k ∧ Hid (n = (partsTo F Q f t a (k - a)).length) ∧ wr.ownsRow w.heap.size 40 4 (.slice A n d) n (recs partV (partsTo F Q f t a (k - a)))
    ∧ Blk wr w.heap.size 25 #[.slice Ac L.length cc, .int .i64 r, .slice Ag G.length cg] ∧ Blk wr (w.heap.size + 1) 28 #[.slice Aq Q.length cq, .int .i64 f, .int .i64 t] ∧ New w wr) (fun _ i _ => b - (intOf i).toNat)
  case atStart => exact ⟨a, 0, none, 0, Nat.le_refl _, hab0, rfl, rfl, Nat.zero_le _, Lib.hid (by simp [partsTo]), by rw [Nat.sub_self]; exact row_nil, B0, B1, b01⟩
  case round =>
    obtain ⟨k, n, A, d, hak, hk, rfl, rfl, hn, hnl, o, B0q, B1q, b2⟩ := hrel
    clear B0 B1
    by_cases hlt : k < b
    · have hkG : k < G.length := by omega
      have hMt : M = true := by
        cases M with
        | false => have := (HZ.out rfl).2; omega
        | true => rfl
      obtain ⟨hFo, ⟨hQc, -, hf0, hft, htr, hQ64⟩, hab, hbF⟩ := HOK.out hMt
      have h65 := rows_sum_le hFo
      have hkb : (k : Int) < (b : Int) := by omega
      obtain ⟨y0, y1, y2⟩ := ccells B1q
      go_wp2_with fail
      clear y0 y1 y2
      go_loopw [7, 9] (fun v i wr => ∃ (j n : Nat) (A : Option Addr) (d : Nat), j ≤ Q.length ∧ i = .int .i64 (j : Int) ∧ v = .slice A n d ∧ n ≤ 64 * k + j ∧ Hid (n = (partsTo F Q f t a (k - a) ++ (Q.take j).map (partG F f t k)).length) ∧ wr.ownsRow w.heap.size 40 4 (.slice A n d) n (recs partV (partsTo F Q f t a (k - a) ++ (Q.take j).map (partG F f t k)))
        ∧ Blk wr w.heap.size 25 #[.slice Ac L.length cc, .int .i64 r, .slice Ag G.length cg] ∧ Blk wr (w.heap.size + 1) 28 #[.slice Aq Q.length cq, .int .i64 f, .int .i64 t] ∧ New w wr) (fun _ i _ => Q.length - (intOf i).toNat)
      case atStart => exact ⟨0, n, A, d, Nat.zero_le _, rfl, rfl, by omega, by simpa using hnl, by simpa using o, B0q, B1q, b2⟩
      case round =>
        clear hnl o B0q B1q b2 hn
        obtain ⟨j, n, A, d, hj, rfl, rfl, hn, hnl, o, B0q, B1q, b⟩ := hrel
        by_cases hlj : j < Q.length
        · obtain ⟨aq, rfl, -, q0⟩ := (Reads.later HQ.out b).int hlj
          have FQa := Lib.hid (fun (W : World) (hW : New w W) => show W.cell? (aq.add j) = some (.int .i64 (Q.getD j 0)) from by
            obtain ⟨al', e, _, f⟩ := (Reads.later HQ.out hW).int hlj
            injection e with e
            subst e
            exact f)
          have hqm := mem_getDF (0 : Int) hlj
          obtain ⟨c0, c1⟩ := hQc _ hqm
          have htk := take_snoc Q j 0 hlj
          have hmp : (Q.take (j + 1)).map (partG F f t k) = (Q.take j).map (partG F f t k) ++ [partG F f t k (Q.getD j 0)] := by rw [htk, List.map_append]; rfl
          have PGk := fun x y => partG_of' (F := F) (f := f) (t := t) (g := k) (c := Q.getD j 0) (x := x) (y := y)
          obtain ⟨cN, hcN⟩ := Int.eq_ofNat_of_zero_le c0
          rw [hcN] at q0 c1 hmp PGk FQa
          have hcL : cN < L.length := by omega
          have PSk := Lib.hid (fun (W : World) (hW : New w W) => PS.out W hW k cN)
          obtain ⟨up, hsp⟩ := HUP.out hFo k cN hkG hcL
          have UPk := Lib.hid up
          have HMP := Lib.hid hmp
          have HPGk := Lib.hid PGk
          have hji : (j : Int) < (Q.length : Int) := by omega
          clear hqm htk hmp PGk c0 hcN up
          generalize hSL : spansF F (k : Int) (cN : Int) = SL at *
          have F3 := Lib.hid (fun (W : World) (hW : New wr W) => And.intro (B0q.below hW B0q.lt) (B1q.below hW B1q.lt))
          have HO := Lib.hid (fun (W : World) (hW : New wr W) => row_later o hW)
          have hw2 : w.heap.size ≤ wr.heap.size := b.size
          have b0 := b
          obtain ⟨y0, y1, y2⟩ := ccells B1q
          clear o B0q B1q hSL
          go_wp2_with fail
          clear y0 y1 y2
          refine wp_region_up New [(true, 0), (true, 1), (true, 2), (true, 3), (true, 4), (true, 5), (true, 6), (true, 8), (true, 9), (true, 10), (true, 11), (false, 7), (false, 12), (true, 13), (true, 14), (true, 15), (true, 16), (true, 17)]
            New.refl New.trans (by kernel_rfl) (by kernel_rfl) (by kernel_rfl) (by kernel_rfl) ?_
          have hU := New.drew wr
          repeat (first
            | (refine up_quiet rfl rfl (v := ?_) (fun W hQ => ?_) ?_; rotate_left; (obtain ⟨F1, F2⟩ := F3.out W (New.trans hU hQ); obtain ⟨x0, x1, x2⟩ := ccells F1; obtain ⟨y0, y1, y2⟩ := ccells F2; have q0' := FQa.out W (New.trans b (New.trans hU hQ)); clear F1 F2; go_simp <;> with_reducible rfl); simp only [Act.put, List.setIfInBounds_toArray, List.set_cons_zero, List.set_cons_succ]))
          refine up_call rfl rfl (fun K hK => ?_)
          go_simp
          refine (PSk.out _ (New.trans b hU)).mono ?_
          rintro e w3 ⟨A3, n3, c3, rfl, o3, b3⟩
          refine hK _ _ b3 ?_
          clear hK
          replace hU := New.trans hU b3
          have OP := Lib.hid (rover_any (c := c3) (f := f) (t := t) (Reads.of_own o3) UPk.out (by have := (Reads.of_own o3).lenP; omega))
          clear o3 b3
          refine up_call rfl rfl (fun K hK => ?_)
          go_simp
          refine OP.out.mono ?_
          rintro e w4 ⟨x, y, rfl, hov, b4⟩
          refine hK _ _ b4 ?_
          clear hK
          replace hU := New.trans hU b4
          have hpg := HPGk.out x y hov
          have HPT := Lib.hid hpg
          clear OP b4 hov hpg
          repeat (first
            | (refine up_quiet rfl rfl (v := ?_) (fun W hQ => ?_) ?_; rotate_left; (go_simp <;> with_reducible rfl); simp only [Act.put, List.setIfInBounds_toArray, List.set_cons_zero, List.set_cons_succ]))
          refine up_nil ?_
          have o4 := HO.out _ hU
          obtain ⟨B0s, B1s⟩ := F3.out _ hU
          have b4 := New.trans b hU
          have O4 := Lib.hid o4
          have hz4 := b4.size
          have q4 := FQa.out _ b4
          obtain ⟨y0, y1, y2⟩ := ccells B1s
          clear HO F3 hU o4 q0 PSk UPk hsp
          go_wp2_with (refine wpList_pushR elPt rfl (.tmp 47) (.tmp 57) rfl (W := w) (B := w.heap.size) (base := w.heap.size) (n := n) O4.out rfl rfl b4 (Nat.le_refl _) hz4 rfl (by simp [Value.oneCell']) (by omega) (by simp only [maxLen]; omega) ?_
                       intro A' c' w' _ _ o' g' b' _ _
                       have B0t := B0s.grown g' (fun e => row_blk_ne O4.out B0s (by decide) e.symm)
                       have B1t := B1s.grown g' (fun e => row_blk_ne O4.out B1s (by decide) e.symm))
          have o5 : w'.ownsRow w.heap.size 40 4 (.slice A' (n + 1) c') (n + 1) (recs partV (partsTo F Q f t a (k - a) ++ (Q.take (j + 1)).map (partG F f t k))) := by
            rw [HMP.out, ← List.append_assoc, recs_partV_snoc, HPT.out]
            exact o'
          have hnl5 : Hid (n + 1 = (partsTo F Q f t a (k - a) ++ (Q.take (j + 1)).map (partG F f t k)).length) := Lib.hid (by rw [HMP.out, ← List.append_assoc, List.length_append, ← hnl.out]; rfl)
          go_roundw
          case rel => exact ⟨j + 1, n + 1, A', c', by omega, by go_num, rfl, by omega, hnl5, o5, B0t, B1t, b'⟩
          case measure => simp [intOf]; omega
        · obtain rfl : j = Q.length := by omega
          have hfin : partsTo F Q f t a (k - a) ++ (Q.take Q.length).map (partG F f t k) = partsTo F Q f t a (k + 1 - a) := by
            rw [List.take_length, show k + 1 - a = (k - a) + 1 by omega, partsTo_snoc, show a + (k - a) = k by omega]
          rw [hfin] at o hnl
          clear hfin
          obtain ⟨y0, y1, y2⟩ := ccells B1q
          go_wp2_with fail
          go_roundw
          case rel => exact ⟨k + 1, n, A, d, by omega, by omega, by go_num, rfl, by omega, hnl, o, B0q, B1q, b⟩
          case measure => simp [intOf]; omega
    · have hkb : k = b := by omega
      subst hkb
      have O := Lib.hid o
      clear o
      go_wp2_with fail
      go_ret
      rw [HX.out]
      exact ⟨A, n, d, rfl, hnl.out, O.out, b2⟩
end

end Go.Proofs.Ythmjbdpkdomofaa
/- The contract of the document's own Need. -/

namespace Go.Proofs.Ythmjbdpkdomofaa
open Go.RowKit Go.Hm
theorem fits_any (n f t : Int) (w : World) : Calls Try.prog 48 #[.int .i64 n, .int .i64 f, .int .i64 t] w (ValPost (.bool (decide (¬ (65536 < n ∨ f < 0 ∨ t < f ∨ n < t)))) w) := by
  obtain ⟨b, hb⟩ : ∃ b, b = decide (¬ (65536 < n ∨ f < 0 ∨ t < f ∨ n < t)) := ⟨_, rfl⟩
  rw [← hb]
  have HB : ∀ x, decide (¬ (65536 < n ∨ f < 0 ∨ t < f ∨ n < t)) = x → Hid (b = x) := fun x h => Lib.hid (hb.trans h)
  clear hb
  by_cases a1 : 0 ≤ f
  · by_cases a2 : f ≤ t
    · by_cases a3 : t ≤ n
      · by_cases a4 : n ≤ 65536
        · have HB := HB true (decide_eq_true (by omega))
          go_enter Try.func48, Try.ntmps48
          go_wp2
          go_ret
          exact ⟨by rw [HB.out]; simp, rfl⟩
        · have HB := HB false (decide_eq_false (by omega))
          have q4 : decide (n ≤ 65536) = false := decide_eq_false a4
          go_enter Try.func48, Try.ntmps48
          go_wp2
          go_ret
          exact ⟨by rw [HB.out]; simp, rfl⟩
      · have HB := HB false (decide_eq_false (by omega))
        have q4 : decide (t ≤ n) = false := decide_eq_false a3
        go_enter Try.func48, Try.ntmps48
        go_wp2
        go_ret
        exact ⟨by rw [HB.out]; simp, rfl⟩
    · have HB := HB false (decide_eq_false (by omega))
      have q4 : decide (f ≤ t) = false := decide_eq_false a2
      go_enter Try.func48, Try.ntmps48
      go_wp2
      go_ret
      exact ⟨by rw [HB.out]; simp, rfl⟩
  · have HB := HB false (decide_eq_false (by omega))
    have q4 : decide (0 ≤ f) = false := decide_eq_false a1
    go_enter Try.func48, Try.ntmps48
    go_wp2
    go_ret
    exact ⟨by rw [HB.out]; simp, rfl⟩
set_option maxHeartbeats 4000000 in
set_option maxRecDepth 100000 in
theorem rneedA_any (f t : Nat) : ∀ (m at_ n : Nat) (w : World), n < m → at_ + n ≤ 1000000 → f ≤ 1000000 → t ≤ 1000000 → Calls Try.prog 49 #[.int .i64 (at_ : Int), .int .i64 (n : Int), .int .i64 (f : Int), .int .i64 (t : Int)] w (ValPost (.int .i64 (cnt (evs f t at_ (at_ + n)) : Nat)) w) := by
  intro m
  induction m with
  | zero => intro a n w h; omega
  | succ m ih =>
    intro a n w hm hn hf ht
    have V1 : (a = a + n ∨ (f ≤ a ∧ a + n ≤ t)) → Hid (cnt (evs f t a (a + n)) = 0) := fun h => Lib.hid (by rw [evs_among h]; rfl)
    have V2 : ¬ (a = a + n ∨ (f ≤ a ∧ a + n ≤ t)) → min (a + n) t ≤ max a f → Hid (cnt (evs f t a (a + n)) = 1) := fun h h2 => Lib.hid (by rw [evs_beside h h2]; rfl)
    by_cases a0 : n = 0
    · subst a0
      have HV := V1 (.inl rfl)
      clear V1 V2 ih
      go_enter Try.func49, Try.ntmps49
      go_wp2
      go_ret
      exact ⟨by rw [HV.out]; simp, rfl⟩
    have q0 : ((n : Int) == 0) = false := beq_eq_false_iff_ne.2 (by omega)
    by_cases aa : f ≤ a ∧ a + n ≤ t
    · have HV := V1 (.inr aa)
      have q1 : decide (f ≤ a) = true := decide_eq_true aa.1
      have q2 : decide ((a : Int) + (n : Int) ≤ (t : Int)) = true := decide_eq_true (by omega)
      have q3 : decide (f < t) = true := decide_eq_true (by omega)
      clear V1 V2 ih
      go_enter Try.func49, Try.ntmps49
      go_wp2
      go_ret
      exact ⟨by rw [HV.out]; simp, rfl⟩
    clear V1
    by_cases bb : min (a + n) t ≤ max a f
    · have HV := V2 (by omega) bb
      clear V2 ih
      go_enter Try.func49, Try.ntmps49
      by_cases a1 : f ≤ a <;> by_cases a2 : (a : Int) + (n : Int) ≤ (t : Int) <;> by_cases a3 : f < t <;> by_cases b1 : t ≤ f <;> by_cases b2 : t ≤ a <;> by_cases b3 : (a : Int) + (n : Int) ≤ (f : Int) <;> first | (exfalso; omega) | skip
      all_goals clear aa bb hm
      all_goals go_wp2
      all_goals (go_ret; exact ⟨by rw [HV.out]; simp, rfl⟩)
    clear V2
    obtain ⟨k, hk⟩ : ∃ k, k = splitN n := ⟨_, rfl⟩
    have hs := splitN_lt (n := n) (by omega)
    rw [← hk] at hs
    have SP := rsplit_any (n : Int) w (by omega) (by omega)
    rw [Int.toNat_natCast, ← hk] at SP
    have HC := cnt_node (f := f) (t := t) (lo := a) (hi := a + n) (by omega) (by omega) bb
    rw [show a + n - a = n by omega, ← hk] at HC
    have I1 := ih a k w (by omega) (by omega) hf ht
    have I2 := ih (a + k) (n - k) w (by omega) (by omega) hf ht
    rw [show a + k + (n - k) = a + n by omega] at I2
    have c1 := cnt_le a (a + k) (by omega) (f := f) (t := t)
    have c2 := cnt_le (a + k) (a + n) (by omega) (f := f) (t := t)
    rw [show ((a + k : Nat) : Int) = (a : Int) + (k : Int) by omega, show ((n - k : Nat) : Int) = (n : Int) - (k : Int) by omega] at I2
    generalize cnt (evs f t a (a + k)) = x at *
    generalize cnt (evs f t (a + k) (a + n)) = y at *
    generalize cnt (evs f t a (a + n)) = z at *
    have HC := Lib.hid HC
    have SP := Lib.hid SP
    have I1 := Lib.hid I1
    have I2 := Lib.hid I2
    clear ih hk
    go_enter Try.func49, Try.ntmps49
    by_cases a1 : f ≤ a <;> by_cases a2 : (a : Int) + (n : Int) ≤ (t : Int) <;> by_cases a3 : f < t <;> by_cases b1 : t ≤ f <;> by_cases b2 : t ≤ a <;> by_cases b3 : (a : Int) + (n : Int) ≤ (f : Int) <;> first | (exfalso; omega) | skip
    all_goals clear aa bb hm
    all_goals (
      go_wp2_with fail
      (with_reducible refine SP.out.mono ?_)
      rintro e w' ⟨rfl, rfl⟩
      go_wp2_with fail
      (with_reducible refine I1.out.mono ?_)
      rintro e w' ⟨rfl, rfl⟩
      go_wp2_with fail
      (with_reducible refine I2.out.mono ?_)
      rintro e w' ⟨rfl, rfl⟩
      go_wp2
      go_ret
      exact ⟨by rw [HC.out]; simp, rfl⟩)
theorem rneed_any (n f t : Int) (w : World) : Calls Try.prog 32 #[.int .i64 n, .int .i64 f, .int .i64 t] w (ValPost (.int .i64 (needI n f t)) w) := by
  have F := Lib.hid (fits_any n f t w)
  by_cases h : 65536 < n ∨ f < 0 ∨ t < f ∨ n < t
  · have HV := Lib.hid (show needI n f t = -1 from if_pos h)
    rw [decide_eq_false (fun hn => hn h)] at F
    clear h
    go_enter Try.func32, Try.ntmps32
    go_wp2_with fail
    (with_reducible refine F.out.mono ?_)
    rintro e w' ⟨rfl, rfl⟩
    go_wp2
    go_ret
    exact ⟨by rw [HV.out]; simp, rfl⟩
  · have HV := Lib.hid (show needI n f t = _ from if_neg h)
    rw [decide_eq_true h] at F
    obtain ⟨n, rfl⟩ : ∃ m : Nat, n = (m : Int) := ⟨n.toNat, by omega⟩
    obtain ⟨f, rfl⟩ : ∃ m : Nat, f = (m : Int) := ⟨f.toNat, by omega⟩
    obtain ⟨t, rfl⟩ : ∃ m : Nat, t = (m : Int) := ⟨t.toNat, by omega⟩
    rw [Int.toNat_natCast, Int.toNat_natCast, Int.toNat_natCast] at HV
    have N := rneedA_any f t (n + 1) 0 n w (by omega) (by omega) (by omega) (by omega)
    rw [Nat.zero_add, Int.natCast_zero] at N
    have N := Lib.hid N
    clear h
    generalize cnt (evs f t 0 n) = z at *
    go_enter Try.func32, Try.ntmps32
    go_wp2_with fail
    (with_reducible refine F.out.mono ?_)
    rintro e w' ⟨rfl, rfl⟩
    go_wp2_with fail
    (with_reducible refine N.out.mono ?_)
    rintro e w' ⟨rfl, rfl⟩
    go_wp2
    go_ret
    exact ⟨by rw [HV.out]; simp, rfl⟩

end Go.Proofs.Ythmjbdpkdomofaa
/- The contract of the answer's Digests. -/

namespace Go.Proofs.Ythmjbdpkdomofaa
open Go Go.RowKit Go.Hm

section
variable {w : World} {Ac : Option Addr} {cc : Nat} {L : List ColS} {r : Int} {Ag : Option Addr} {cg : Nat} {G : List GrD} {Aq : Option Addr} {cq : Nat} {Q : List Int} {f t : Int}
set_option maxHeartbeats 8000000 in
set_option maxRecDepth 100000 in
theorem rpdigests_any (h : FQ w Ac cc L r Ag cg G Aq cq Q) :
    Calls Try.prog 17 #[.agg #[.slice Ac L.length cc, .int .i64 r, .slice Ag G.length cg], qV Aq cq Q f t] w (NewPost (.int .i64 (digestsQ (okQ (footP L r G) Q f t) (footP L r G) Q f t)) w) := by
  have P1 := Lib.hid (fun (W : World) (hW : New w W) => rpfits_any (f := f) (t := t) (h.later hW))
  have P2 := Lib.hid (fun (W : World) (hW : New w W) => rpgroups_any (f := f) (t := t) (h.later hW))
  have P3 := Lib.hid (fun (W : World) (hW : New w W) => rpparts_any (f := f) (t := t) (h.later hW))
  have hGl : (footP L r G).groups.length = G.length := by unfold footP; simp
  have HG := Lib.hid h.foot.groups
  have HCH := Lib.hid h.foot.chunks
  have HPG := Lib.hid h.foot.pages
  have hfewL := h.foot.few
  have hfewG := h.fewG
  have hfewq := h.fewq
  have NB := Lib.hid needI_bnd
  have OV := fun (e : okQ (footP L r G) Q f t = true) => show ((groupsQ (okQ (footP L r G) Q f t) (footP L r G) f t).1 ≤ (groupsQ (okQ (footP L r G) Q f t) (footP L r G) f t).2 ∧ (groupsQ (okQ (footP L r G) Q f t) (footP L r G) f t).2 ≤ 65536) ∧ (partsQ (okQ (footP L r G) Q f t) (footP L r G) Q f t).length ≤ 4194304 from by
    have h1 := groupsQ_le e
    have h2 := rows_sum_le (okQ_foot e)
    have h3 := parts_len e
    refine ⟨?_, h3⟩
    rw [e]
    omega
  have ST := fun (e : okQ (footP L r G) Q f t = true) (n0 : Int) (hn : -1 ≤ n0 ∧ n0 ≤ 65536) (k : Nat) hk => dig_step e hn (k := k) hk
  have S0 := Lib.hid (fun (n0 : Int) => digTo_zero (footP L r G) n0 (partsQ (okQ (footP L r G) Q f t) (footP L r G) Q f t))
  obtain ⟨X, hX⟩ : ∃ X, X = digestsQ (okQ (footP L r G) Q f t) (footP L r G) Q f t := ⟨_, rfl⟩
  rw [← hX]
  unfold digestsQ at hX
  rw [hGl] at hX
  clear h hGl
  generalize hPQ : partsQ (okQ (footP L r G) Q f t) (footP L r G) Q f t = l at *
  generalize hGQ : groupsQ (okQ (footP L r G) Q f t) (footP L r G) f t = ab at *
  generalize okQ (footP L r G) Q f t = M at *
  generalize hDT : digTo (footP L r G) = DT at *
  obtain ⟨a, b⟩ := ab
  dsimp only at hX OV
  clear hPQ hGQ hDT
  have HX := Lib.hid hX
  have HOV := Lib.hid OV
  have HST := Lib.hid ST
  clear hX OV ST
  have B0 := (Blk.new w 25 #[.slice Ac L.length cc, .int .i64 r, .slice Ag G.length cg]).alloc (.cells #[.slice Aq Q.length cq, .int .i64 f, .int .i64 t] 28)
  have B1 := Blk.new (w.alloc (.cells #[.slice Ac L.length cc, .int .i64 r, .slice Ag G.length cg] 25)) 28 #[.slice Aq Q.length cq, .int .i64 f, .int .i64 t]
  have b0 := new2 w (.cells #[.slice Ac L.length cc, .int .i64 r, .slice Ag G.length cg] 25) (.cells #[.slice Aq Q.length cq, .int .i64 f, .int .i64 t] 28)
  simp only [World.size_alloc] at B1
  obtain ⟨x0, x1, x2⟩ := ccells B0
  obtain ⟨y0, y1, y2⟩ := ccells B1
  go_enter Try.func17, Try.ntmps17
  go_wp2_with fail
  refine (P1.out _ b0).mono ?_
  rintro e w1 ⟨rfl, b1⟩
  have B0 := B0.below b1 B0.lt
  have B1 := B1.below b1 B1.lt
  have b01 := New.trans b0 b1
  clear x0 x1 x2 y0 y1 y2 b0 b1 P1
  cases M with
  | false =>
    have e1 : X = -1 := HX.out
    subst e1
    go_wp2
    go_ret
    exact ⟨rfl, b01⟩
  | true =>
    obtain ⟨⟨hab, hb65⟩, hl4⟩ := HOV.out rfl
    have HST2 := Lib.hid (HST.out rfl)
    have hx1 := HX.out
    rw [if_pos rfl] at hx1
    replace HX := Lib.hid hx1
    clear HST HOV hx1
    obtain ⟨x0, x1, x2⟩ := ccells B0
    obtain ⟨y0, y1, y2⟩ := ccells B1
    go_wp2_with fail
    refine (P2.out _ b01).mono ?_
    rintro e w2 ⟨rfl, b2⟩
    unfold pairN
    have B0 := B0.below b2 B0.lt
    have B1 := B1.below b2 B1.lt
    have b02 := New.trans b01 b2
    clear x0 x1 x2 y0 y1 y2 b01 b2 P2
    obtain ⟨x0, x1, x2⟩ := ccells B0
    obtain ⟨n0, hn0⟩ : ∃ n0, n0 = needI (G.length : Nat) (a : Nat) (b : Nat) := ⟨_, rfl⟩
    have hnb := NB.out (G.length : Nat) (a : Nat) (b : Nat)
    have N1 := Lib.hid (fun (W : World) => rneed_any (G.length : Nat) (a : Nat) (b : Nat) W)
    rw [← hn0] at N1 hnb HX
    clear hn0
    dsimp only
    go_wp2_with fail
    refine (N1.out _).mono ?_
    rintro e _ ⟨rfl, rfl⟩
    have b03 := b02
    clear x0 x1 x2 N1 b02
    obtain ⟨x0, x1, x2⟩ := ccells B0
    obtain ⟨y0, y1, y2⟩ := ccells B1
    have HSTn := Lib.hid (HST2.out n0 hnb)
    have S0n := Lib.hid (S0.out n0)
    clear HST2 S0
    by_cases hq : Q.length = 0
    · have hX2 := HX.out
      rw [if_pos hq] at hX2
      have HX2 := Lib.hid hX2
      have e0 : ((Q.length : Int) == 0) = true := by rw [hq]; rfl
      have hw1 : IntKind.i64.wrap (n0 + (b : Int)) = n0 + (b : Int) := by rw [IntKind.wrap_i64]; omega
      have hw2 : IntKind.i64.wrap (n0 + (b : Int) - (a : Int)) = n0 + (b : Int) - (a : Int) := by rw [IntKind.wrap_i64]; omega
      have HQ := Lib.hid hq
      clear hq hX2
      go_wp2
      go_ret
      exact ⟨by rw [HX2.out]; rfl, b03⟩
    · have hX2 := HX.out
      rw [if_neg hq] at hX2
      have HX2 := Lib.hid hX2
      have e0 : ((Q.length : Int) == 0) = false := by rw [beq_eq_false_iff_ne]; omega
      have HQ := Lib.hid hq
      clear hq hX2
      go_wp2_with fail
      refine (P3.out _ b03).mono ?_
      rintro e w4 ⟨A4, n4, c4, rfl, hn4, o4, b4⟩
      subst hn4
      have B0 := B0.below b4 B0.lt
      have R4 := Lib.hid (Reads.of_own o4)
      have hz4 := b4.size
      have b04 := New.trans b03 b4
      clear x0 x1 x2 y0 y1 y2 B1 o4 b4 b03 P3
      go_wp2_with fail
      go_loopw [8, 10] (fun v i wr => ∃ k : Nat, k ≤ l.length ∧ i = .int .i64 (k : Int) ∧ v = .int .i64 (DT n0 l k) ∧ Blk wr w.heap.size 25 #[.slice Ac L.length cc, .int .i64 r, .slice Ag G.length cg] ∧ New w4 wr) (fun _ i _ => l.length - (intOf i).toNat)
      case atStart => exact ⟨0, Nat.zero_le _, rfl, by rw [S0n.out], B0, New.refl _⟩
      case round =>
        obtain ⟨k, hk, rfl, rfl, B, b⟩ := hrel
        clear B0 S0n
        by_cases hlt : k < l.length
        · obtain ⟨g, c, x, y, hp, hgG, hcL, hDl, hst, hd0, hd1⟩ := HSTn.out k hlt
          obtain ⟨ad, rfl, -, p0, p1, p2, p3⟩ := read_part4 (Reads.later R4.out b) hlt
          have FP := Lib.hid (fun (W : World) (hW : New w4 W) => show W.cell? (ad.add (k * 4)) = some (.int .i64 (g : Int)) ∧ W.cell? ⟨(ad.add (k * 4)).block, (ad.add (k * 4)).off + 1, none⟩ = some (.int .i64 (c : Int)) ∧ W.cell? ⟨(ad.add (k * 4)).block, (ad.add (k * 4)).off + 2, none⟩ = some (.int .i64 (x : Int)) ∧ W.cell? ⟨(ad.add (k * 4)).block, (ad.add (k * 4)).off + 3, none⟩ = some (.int .i64 (y : Int)) from by
            obtain ⟨a', e, _, f0, f1, f2, f3⟩ := read_part4 (Reads.later R4.out hW) hlt
            injection e with e
            subst e
            rw [hp] at f0 f1 f2 f3
            exact ⟨f0, f1, f2, f3⟩)
          clear p0 p1 p2 p3
          have bw := New.trans b04 b
          obtain ⟨ag, rfl, -, -, -⟩ := (Reads.later HG.out bw).gr2 hgG
          have FG := Lib.hid (fun (W : World) (hW : New w W) => show W.cell? ⟨(ag.add (g * 2)).block, (ag.add (g * 2)).off + 1, none⟩ = some (.slice (G.getD g grZ).2.1 (G.getD g grZ).2.2.2.length (G.getD g grZ).2.2.1) from by
            obtain ⟨a', e, _, _, f⟩ := (Reads.later HG.out hW).gr2 hgG
            injection e with e
            subst e
            exact f)
          have hgm := mem_getDF grZ hgG
          have hch := HCH.out _ hgm
          have hpg := HPG.out _ hgm
          clear hgm hp
          generalize G.getD g grZ = gg at *
          obtain ⟨gr, Ach, cch, D⟩ := gg
          dsimp only at FG hch hpg hDl hst
          have hcD : c < D.length := by omega
          obtain ⟨ac, rfl, -, -⟩ := (Reads.later hch.1 bw).ch1 hcD
          have FC := Lib.hid (fun (W : World) (hW : New w W) => show W.cell? (ac.add c) = some (.slice (D.getD c chZ).1 (D.getD c chZ).2.2.length (D.getD c chZ).2.1) from by
            obtain ⟨a', e, _, f⟩ := (Reads.later hch.1 hW).ch1 hcD
            injection e with e
            subst e
            exact f)
          have hpn := (hpg _ (mem_getDF chZ hcD)).2
          clear hch hpg
          generalize D.getD c chZ = xx at *
          obtain ⟨Ax, cx, pl⟩ := xx
          dsimp only at FC hpn hst
          have N2 := Lib.hid (fun (W : World) => rneed_any (pl.length : Nat) (x : Nat) (y : Nat) W)
          have N3 := Lib.hid (fun (W : World) => rneed_any (L.length : Nat) (c : Nat) ((c : Int) + 1) W)
          have nb2 := NB.out (pl.length : Nat) (x : Nat) (y : Nat)
          have nb3 := NB.out (L.length : Nat) (c : Nat) ((c : Int) + 1)
          generalize needI (pl.length : Nat) (x : Nat) (y : Nat) = nA at *
          generalize needI (L.length : Nat) (c : Nat) ((c : Int) + 1) = nB at *
          have HSt := Lib.hid hst
          clear hst
          generalize DT n0 l k = Dk at *
          have wA : IntKind.i64.wrap (Dk + nA) = Dk + nA := by rw [IntKind.wrap_i64]; omega
          have wB : IntKind.i64.wrap (Dk + nA + nB) = Dk + nA + nB := by rw [IntKind.wrap_i64]; omega
          have wC : IntKind.i64.wrap ((c : Int) + 1) = (c : Int) + 1 := by rw [IntKind.wrap_i64]; omega
          have hkl : (k : Int) < (l.length : Int) := by omega
          have hgi : (g : Int) < (G.length : Int) := by omega
          have hci : (c : Int) < (D.length : Int) := by omega
          have HDl := Lib.hid hDl
          clear hDl
          have F3 := Lib.hid (fun (W : World) (hW : New wr W) => And.intro (B.below hW B.lt) (And.intro (FP.out W (New.trans b hW)) (And.intro (FG.out W (New.trans bw hW)) (FC.out W (New.trans bw hW)))))
          clear B bw FG FC FP
          go_wp2_with fail
          refine wp_region_up New [(true, 0), (true, 1), (true, 2), (true, 3), (true, 4), (true, 5), (true, 6), (true, 7), (true, 8), (true, 9), (true, 10), (true, 11), (true, 12), (true, 13), (true, 14), (true, 15), (true, 16), (true, 17), (true, 18), (true, 19), (true, 20), (true, 21), (true, 22), (true, 23), (true, 24), (true, 25), (true, 26), (true, 27), (true, 28), (false, 29), (true, 30), (true, 31)]
            New.refl New.trans (by kernel_rfl) (by kernel_rfl) (by kernel_rfl) (by kernel_rfl) ?_
          have hU := New.drew wr
          repeat (first
            | (refine up_quiet rfl rfl (v := ?_) (fun W hQ => ?_) ?_; rotate_left; (obtain ⟨F1, ⟨y0, y1, y2, y3⟩, g1, c1⟩ := F3.out W (New.trans hU hQ); obtain ⟨x0, x1, x2⟩ := ccells F1; clear F1; go_simp <;> with_reducible rfl); simp only [Act.put, List.setIfInBounds_toArray, List.set_cons_zero, List.set_cons_succ]))
          refine up_call rfl rfl (fun K hK => ?_)
          go_simp
          refine (N2.out _).mono ?_
          rintro e w5 ⟨rfl, h5⟩
          rw [← h5]
          clear h5
          refine hK _ _ (New.refl _) ?_
          clear hK
          repeat (first
            | (refine up_quiet rfl rfl (v := ?_) (fun W hQ => ?_) ?_; rotate_left; (go_simp <;> with_reducible rfl); simp only [Act.put, List.setIfInBounds_toArray, List.set_cons_zero, List.set_cons_succ]))
          refine up_nil ?_
          clear N2
          generalize wr.drew = wd at *
          go_wp2_with fail
          refine wp_region_up New [(true, 0), (true, 1), (true, 2), (true, 3), (true, 4), (true, 5), (true, 6), (true, 7), (true, 8), (true, 9), (true, 10), (true, 11), (true, 12), (true, 13), (true, 14), (false, 15), (true, 16), (true, 17)]
            New.refl New.trans (by kernel_rfl) (by kernel_rfl) (by kernel_rfl) (by kernel_rfl) ?_
          replace hU := New.trans hU (New.drew wd)
          repeat (first
            | (refine up_quiet rfl rfl (v := ?_) (fun W hQ => ?_) ?_; rotate_left; (obtain ⟨F1, ⟨y0, y1, y2, y3⟩, g1, c1⟩ := F3.out W (New.trans hU hQ); obtain ⟨x0, x1, x2⟩ := ccells F1; clear F1; go_simp <;> with_reducible rfl); simp only [Act.put, List.setIfInBounds_toArray, List.set_cons_zero, List.set_cons_succ]))
          refine up_call rfl rfl (fun K hK => ?_)
          go_simp
          refine (N3.out _).mono ?_
          rintro e w5 ⟨rfl, h5⟩
          rw [← h5]
          clear h5
          refine hK _ _ (New.refl _) ?_
          clear hK
          repeat (first
            | (refine up_quiet rfl rfl (v := ?_) (fun W hQ => ?_) ?_; rotate_left; (go_simp <;> with_reducible rfl); simp only [Act.put, List.setIfInBounds_toArray, List.set_cons_zero, List.set_cons_succ]))
          refine up_nil ?_
          obtain ⟨F1, -⟩ := F3.out _ hU
          have b8 := New.trans b hU
          clear F3 hU N3
          go_wp2_with fail
          go_roundw
          case rel => exact ⟨k + 1, by omega, by go_num, by rw [HSt.out], F1, b8⟩
          case measure => simp [intOf]; omega
        · obtain rfl : k = l.length := by omega
          go_wp2_with fail
          go_ret
          exact ⟨by rw [HX2.out]; rfl, New.trans b04 b⟩
end

end Go.Proofs.Ythmjbdpkdomofaa
/- The contract of pick.Bytes. -/

namespace Go.Proofs.Ythmjbdpkdomofaa
open Go Go.RowKit Go.Hm
theorem sPi : Try.prog.underlying 46 = some (.slice (Try.prog.elem 46)) := by kernel_rfl
theorem zPi (w : World) : (sizeOf (Try.prog.elem 46)).run Try.prog w = .ok 14 w := by kernel_rfl

section
variable {w : World} {Ac : Option Addr} {cc : Nat} {L : List ColS} {r : Int} {Ag : Option Addr} {cg : Nat} {G : List GrD} {Aq : Option Addr} {cq : Nat} {Q : List Int} {f t : Int}
set_option maxHeartbeats 8000000 in
set_option maxRecDepth 100000 in
theorem pbytes_any (h : FQ w Ac cc L r Ag cg G Aq cq Q) :
    Calls Try.prog 18 #[.agg #[.slice Ac L.length cc, .int .i64 r, .slice Ag G.length cg], qV Aq cq Q f t] w (NewPost (.int .i64 (bytesQ (okQ (footP L r G) Q f t) (footP L r G) Q f t)) w) := by
  have P1 := Lib.hid (fun (W : World) (hW : New w W) => pfits_any (f := f) (t := t) (h.later hW))
  have P3 := Lib.hid (fun (W : World) (hW : New w W) => pparts_any (f := f) (t := t) (h.later hW))
  have HG := Lib.hid h.foot.groups
  have HCH := Lib.hid h.foot.chunks
  have HPG := Lib.hid h.foot.pages
  have HCP := Lib.hid h.caps
  have hfewL := h.foot.few
  have hfewG := h.fewG
  have hfewq := h.fewq
  have OV := fun (e : okQ (footP L r G) Q f t = true) => parts_len e
  have ST := fun (e : okQ (footP L r G) Q f t = true) (k : Nat) hk => byte_step e (k := k) hk
  have S0 := Lib.hid (byTo_zero (footP L r G) (partsQ (okQ (footP L r G) Q f t) (footP L r G) Q f t))
  have SE := fun (e : okQ (footP L r G) Q f t = true) => bytes_parts e
  have hN : okQ (footP L r G) Q f t = false → bytesQ (okQ (footP L r G) Q f t) (footP L r G) Q f t = -1 := fun e => by rw [e]; rfl
  obtain ⟨X, hX⟩ : ∃ X, X = bytesQ (okQ (footP L r G) Q f t) (footP L r G) Q f t := ⟨_, rfl⟩
  rw [← hX] at hN SE ⊢
  clear h hX
  generalize hPQ : partsQ (okQ (footP L r G) Q f t) (footP L r G) Q f t = l at *
  generalize okQ (footP L r G) Q f t = M at *
  generalize hDT : byTo (footP L r G) l = BT at *
  clear hPQ hDT
  have HOV := Lib.hid OV
  have HST := Lib.hid ST
  have HSE := Lib.hid SE
  have HN := Lib.hid hN
  clear OV ST SE hN
  have B0 := (Blk.new w 25 #[.slice Ac L.length cc, .int .i64 r, .slice Ag G.length cg]).alloc (.cells #[.slice Aq Q.length cq, .int .i64 f, .int .i64 t] 28)
  have B1 := Blk.new (w.alloc (.cells #[.slice Ac L.length cc, .int .i64 r, .slice Ag G.length cg] 25)) 28 #[.slice Aq Q.length cq, .int .i64 f, .int .i64 t]
  have b0 := new2 w (.cells #[.slice Ac L.length cc, .int .i64 r, .slice Ag G.length cg] 25) (.cells #[.slice Aq Q.length cq, .int .i64 f, .int .i64 t] 28)
  simp only [World.size_alloc] at B1
  obtain ⟨x0, x1, x2⟩ := ccells B0
  obtain ⟨y0, y1, y2⟩ := ccells B1
  go_enter Try.func18, Try.ntmps18
  go_wp2_with fail
  refine (P1.out _ b0).mono ?_
  rintro e w1 ⟨rfl, b1⟩
  have B0 := B0.below b1 B0.lt
  have B1 := B1.below b1 B1.lt
  have b01 := New.trans b0 b1
  clear x0 x1 x2 y0 y1 y2 b0 b1 P1
  cases M with
  | false =>
    have e1 : X = -1 := HN.out rfl
    subst e1
    go_wp2
    go_ret
    exact ⟨rfl, b01⟩
  | true =>
    have hl4 := HOV.out rfl
    have HST2 := Lib.hid (HST.out rfl)
    have HSE2 := Lib.hid (HSE.out rfl)
    clear HST HSE HOV HN
    obtain ⟨x0, x1, x2⟩ := ccells B0
    obtain ⟨y0, y1, y2⟩ := ccells B1
    go_wp2_with fail
    refine (P3.out _ b01).mono ?_
    rintro e w4 ⟨A4, n4, c4, rfl, hn4, o4, b4⟩
    subst hn4
    have B0 := B0.below b4 B0.lt
    have R4 := Lib.hid (Reads.of_own o4)
    have hz4 := b4.size
    have b04 := New.trans b01 b4
    clear x0 x1 x2 y0 y1 y2 B1 o4 b4 b01 P3
    go_wp2_with fail
    go_loopw [5, 18] (fun v i wr => ∃ k : Nat, k ≤ l.length ∧ i = .int .i64 (k : Int) ∧ v = .int .i64 (BT k) ∧ Blk wr w.heap.size 25 #[.slice Ac L.length cc, .int .i64 r, .slice Ag G.length cg] ∧ New w4 wr) (fun _ i _ => l.length - (intOf i).toNat)
    case atStart => exact ⟨0, Nat.zero_le _, rfl, by rw [S0.out], B0, New.refl _⟩
    case round =>
      obtain ⟨k, hk, rfl, rfl, B, b⟩ := hrel
      clear B0 S0
      by_cases hlt : k < l.length
      · obtain ⟨g, c, x, y, hp, hgG, hcL, hDl, hxy, hyl, V, hVx, hVy, hV⟩ := HST2.out k hlt
        obtain ⟨ad, rfl, -, p0, p1, p2, p3⟩ := read_part4 (Reads.later R4.out b) hlt
        rw [hp] at p0 p1 p2 p3
        dsimp only at p0 p1 p2 p3
        have bw := New.trans b04 b
        obtain ⟨ag, rfl, -, -, -⟩ := (Reads.later HG.out bw).gr2 hgG
        have FG := Lib.hid (fun (W : World) (hW : New w W) => show W.cell? ⟨(ag.add (g * 2)).block, (ag.add (g * 2)).off + 1, none⟩ = some (.slice (G.getD g grZ).2.1 (G.getD g grZ).2.2.2.length (G.getD g grZ).2.2.1) from by
          obtain ⟨a', e, _, _, f⟩ := (Reads.later HG.out hW).gr2 hgG
          injection e with e
          subst e
          exact f)
        have hgm := mem_getDF grZ hgG
        have hch := HCH.out _ hgm
        have hpg := HPG.out _ hgm
        have hcp := (HCP.out _ hgm).2
        clear hgm hp
        generalize G.getD g grZ = gg at *
        obtain ⟨gr, Ach, cch, D⟩ := gg
        dsimp only at FG hch hpg hDl hV hyl hcp
        have hcD : c < D.length := by omega
        obtain ⟨ac, rfl, -, -⟩ := (Reads.later hch.1 bw).ch1 hcD
        have FC := Lib.hid (fun (W : World) (hW : New w W) => show W.cell? (ac.add c) = some (.slice (D.getD c chZ).1 (D.getD c chZ).2.2.length (D.getD c chZ).2.1) from by
          obtain ⟨a', e, _, f⟩ := (Reads.later hch.1 hW).ch1 hcD
          injection e with e
          subst e
          exact f)
        obtain ⟨hpr, hpn⟩ := hpg _ (mem_getDF chZ hcD)
        have hpc := hcp _ (mem_getDF chZ hcD)
        clear hch hpg hcp
        generalize D.getD c chZ = xx at *
        obtain ⟨Ax, cx, pl⟩ := xx
        dsimp only at FC hpn hpr hpc hV hyl
        have HVx := Lib.hid hVx
        have HVy := Lib.hid hVy
        have HV := Lib.hid hV
        have hkl : (k : Int) < (l.length : Int) := by omega
        have hgi : (g : Int) < (G.length : Int) := by omega
        have hci : (c : Int) < (D.length : Int) := by omega
        have HDl := Lib.hid hDl
        have HPR := Lib.hid hpr
        clear hDl hVx hVy hV hpr
        have ha : New wr (wr.alloc (.cells #[.int .i64 (g : Int), .int .i64 (c : Int), .int .i64 (x : Int), .int .i64 (y : Int)] 40)) := (Below.refl _ _).alloc (Nat.le_refl _) _
        have BR := Blk.new wr 40 #[.int .i64 (g : Int), .int .i64 (c : Int), .int .i64 (x : Int), .int .i64 (y : Int)]
        have Br := B.below ha B.lt
        have bwa := New.trans bw ha
        have ba := New.trans b ha
        have F3 := Lib.hid (fun (W : World) (hW : New (wr.alloc (.cells #[.int .i64 (g : Int), .int .i64 (c : Int), .int .i64 (x : Int), .int .i64 (y : Int)] 40)) W) => And.intro (Br.below hW Br.lt) (And.intro (BR.below hW BR.lt) (And.intro (FG.out W (New.trans bwa hW)) (FC.out W (New.trans bwa hW)))))
        obtain ⟨A', hA'⟩ : ∃ A', A' = (if cx = x then Ax else Ax.map (·.add (x * 14))) := ⟨_, rfl⟩
        have SL := fun W => slice_lhS sPi zPi Ax pl.length cx x y hxy (by omega) W
        have RA := HPR.out.cut (k := x) (cap := cx) (by omega) hpc
        rw [← hA'] at SL RA
        rw [recs_drop (sz := 14) (fun _ => rfl) pl x (by omega)] at RA
        have HRA := Lib.hid RA
        clear B Br BR bw ha FG FC bwa hA' RA HPR
        go_wp2_with fail
        clear p0 p1 p2 p3
        generalize hgR : wr.heap.size = gR at *
        generalize wr.alloc (.cells #[.int .i64 (g : Int), .int .i64 (c : Int), .int .i64 (x : Int), .int .i64 (y : Int)] 40) = wa at *
        clear hgR
        refine wp_region_up New [(true, 0), (true, 1), (true, 2), (true, 3), (true, 4), (true, 5), (true, 6), (true, 7), (true, 8), (true, 9), (true, 10), (true, 11), (true, 12), (true, 13), (true, 14), (true, 15), (true, 16), (true, 17)]
          New.refl New.trans (by kernel_rfl) (by kernel_rfl) (by kernel_rfl) (by kernel_rfl) ?_
        have hU := New.drew wa
        repeat (first
          | (refine up_quiet rfl rfl (v := ?_) (fun W hQ => ?_) ?_; rotate_left; (obtain ⟨F1, F2, g1, c1⟩ := F3.out W (New.trans hU hQ); obtain ⟨x0, x1, x2⟩ := ccells F1; obtain ⟨y0, y1, y2, y3⟩ := cells4 F2; clear F1 F2; go_simp <;> with_reducible rfl); simp only [Act.put, List.setIfInBounds_toArray, List.set_cons_zero, List.set_cons_succ]))
        refine up_nil ?_
        obtain ⟨F1, -, -, -⟩ := F3.out _ hU
        have b6 := New.trans ba hU
        clear F3 ba SL hU
        generalize wa.drew = wd at *
        go_wp2_with fail
        go_loopw [5, 39] (fun v i wr => ∃ q : Nat, q ≤ y - x ∧ i = .int .i64 (q : Int) ∧ v = .int .i64 (V (x + q)) ∧ Blk wr w.heap.size 25 #[.slice Ac L.length cc, .int .i64 r, .slice (some ag) G.length cg] ∧ New w4 wr) (fun _ i _ => (y - x) - (intOf i).toNat)
        case atStart => exact ⟨0, Nat.zero_le _, rfl, by rw [Nat.add_zero, HVx.out], F1, b6⟩
        case round =>
          clear b b6 F1
          obtain ⟨q, hq, rfl, rfl, B, b⟩ := hrel
          by_cases hlq : q < y - x
          · obtain ⟨ax, hax, -, d0, d1, d2, d3, d4, d5, d6, d7, d8, d9, d10, d11, d12, d13⟩ := (Reads.later HRA.out (New.trans b04 b)).page14 (i := q) (by omega)
            subst hax
            obtain ⟨v1, v2, v3, v4, v5⟩ := HV.out (x + q) (by omega) (by omega)
            have hgd : (pl.drop x).getD q pageZ = pl.getD (x + q) pageZ := by simp [List.getD_eq_getElem?_getD, List.getElem?_drop]
            rw [hgd] at d0 d1 d2 d3 d4 d5 d6 d7 d8 d9 d10 d11 d12 d13
            generalize pl.getD (x + q) pageZ = p at *
            obtain ⟨sz, rw_, nn, bb, ⟨p1, p2, p3, p4, p5⟩, ⟨q1, q2, q3, q4, q5⟩⟩ := p
            dsimp only at v1 v4 v5 d0 d1 d2 d3 d4 d5 d6 d7 d8 d9 d10 d11 d12 d13
            have H1 := Lib.hid v1
            clear v1 hgd
            generalize V (x + q) = Vq at *
            have wA : IntKind.i64.wrap (Vq + sz) = Vq + sz := by rw [IntKind.wrap_i64]; omega
            have hqi : (q : Int) < ((y - x : Nat) : Int) := by omega
            have ha : New wr (wr.alloc (.cells #[.int .i64 sz, .int .i64 rw_, .int .i64 nn, .bool bb, .bool p1, .int .i64 p2, .string (bstr p3), .int .i64 p4, .int .i64 p5, .bool q1, .int .i64 q2, .string (bstr q3), .int .i64 q4, .int .i64 q5] 57)) := (Below.refl _ _).alloc (Nat.le_refl _) _
            have BP := Blk.new wr 57 #[.int .i64 sz, .int .i64 rw_, .int .i64 nn, .bool bb, .bool p1, .int .i64 p2, .string (bstr p3), .int .i64 p4, .int .i64 p5, .bool q1, .int .i64 q2, .string (bstr q3), .int .i64 q4, .int .i64 q5]
            have B1 := B.below ha B.lt
            have b1 := New.trans b ha
            obtain ⟨e0, -⟩ := cells14 BP
            clear BP ha
            go_wp2_with fail
            go_roundw
            case rel => exact ⟨q + 1, by omega, by go_num, by rw [← Nat.add_assoc, H1.out], B1, b1⟩
            case measure => simp [intOf]; omega
          · obtain rfl : q = y - x := by omega
            have hVe : V (x + (y - x)) = BT (k + 1) := by rw [show x + (y - x) = y by omega]; exact HVy.out
            have HVe := Lib.hid hVe
            clear hVe
            generalize hyx : y - x = yx at *
            clear hyx
            go_wp2_with fail
            go_roundw
            case rel => exact ⟨k + 1, by omega, by go_num, by rw [HVe.out], B, b⟩
            case measure => simp [intOf]; omega
      · obtain rfl : k = l.length := by omega
        go_wp2_with fail
        go_ret
        exact ⟨by rw [← HSE2.out]; rfl, New.trans b04 b⟩
end

end Go.Proofs.Ythmjbdpkdomofaa
/- The small case of layer 25's statements. -/

namespace Go.Proofs.Ythmjbdpkdomofaa
open Go Go.RowKit Go.Hm
def gC (n : Nat) : List ChD := [(some ⟨n + 1, 0, none⟩, 2, [gpA, gpB]), (some ⟨n + 1, 0, none⟩, 2, [gpA, gpB])]
def gG (n : Nat) : List GrD := [(3, some ⟨n + 1 + 1 + 1, 0, none⟩, 2, gC n), (3, some ⟨n + 1 + 1 + 1 + 1, 0, none⟩, 2, gC n)]
theorem gG_is (n : Nat) : footP gL 6 (gG n) = gsm := rfl
theorem gG_page {n : Nat} : ∀ g ∈ gG n, ∀ x ∈ g.2.2.2, ∀ p ∈ x.2.2, PageFine p := foot_fine (L := gL) (r := 6) (G := gG n) (by rw [gG_is]; exact gsm_ok) (by rw [gG_is]; exact gsm_data)
theorem gG_mem {n : Nat} {g : GrD} (h : g ∈ gG n) : g = (3, some ⟨n + 1 + 1 + 1, 0, none⟩, 2, gC n) ∨ g = (3, some ⟨n + 1 + 1 + 1 + 1, 0, none⟩, 2, gC n) := by
  simpa [gG] using h
theorem gC_mem {n : Nat} {x : ChD} (h : x ∈ gC n) : x = (some ⟨n + 1, 0, none⟩, 2, [gpA, gpB]) := by
  simpa [gC] using h
theorem gsm_fq {W : World} {Ac Ag Aq : Option Addr} {n cq : Nat} {Q : List Int} (FI : FootIn W Ac 2 gL Ag (gG n)) (hq : Reads W W.heap.size 1 Aq Q.length (ints .i64 Q)) (h1 : Q.length ≤ cq) (h2 : Q.length ≤ 100) (h3 : ∀ x ∈ Q, 0 ≤ x ∧ x ≤ 100) : FQ W Ac 2 gL 6 Ag 2 (gG n) Aq cq Q := by
  refine ⟨FI, by simp [gG], by simp [gG], by omega, ?_, gG_page, ?_, hq, h1, by omega, fun x hx => by have := h3 x hx; omega⟩
  · intro g hg
    rcases gG_mem hg with rfl | rfl <;> simp
  · intro g hg
    rcases gG_mem hg with rfl | rfl
    all_goals
      refine ⟨by simp [gC], fun x hx => ?_⟩
      rw [gC_mem hx]
      simp
set_option maxHeartbeats 1000000 in
set_option maxRecDepth 100000 in
theorem gsm_in (w : World) : FootIn (((((((w.alloc (.cells #[.int .i64 0, .bool true, .bool false, .int .i64 0, .string ⟨#[]⟩, .int .i64 0, .int .i64 0, .bool false, .int .i64 2, .string ⟨#[]⟩, .int .i64 0, .int .i64 0] 55)).alloc (.cells #[.int .i64 5, .int .i64 2, .int .i64 0, .bool true, .bool false, .int .i64 0, .string ⟨#[]⟩, .int .i64 0, .int .i64 0, .bool false, .int .i64 2, .string ⟨#[]⟩, .int .i64 0, .int .i64 0, .int .i64 7, .int .i64 1, .int .i64 0, .bool true, .bool false, .int .i64 0, .string ⟨#[]⟩, .int .i64 0, .int .i64 0, .bool false, .int .i64 2, .string ⟨#[]⟩, .int .i64 0, .int .i64 0] 57)).alloc (.cells #[.string ⟨#[97]⟩, .int .i64 0, .bool false, .string ⟨#[98]⟩, .int .i64 0, .bool false] 61)).alloc (.cells #[.slice (some ⟨w.heap.size + 1, 0, none⟩) 2 2, .slice (some ⟨w.heap.size + 1, 0, none⟩) 2 2] 46)).alloc (.cells #[.slice (some ⟨w.heap.size + 1, 0, none⟩) 2 2, .slice (some ⟨w.heap.size + 1, 0, none⟩) 2 2] 46)).alloc (.cells #[.int .i64 3, .slice (some ⟨w.heap.size + 1 + 1 + 1, 0, none⟩) 2 2, .int .i64 3, .slice (some ⟨w.heap.size + 1 + 1 + 1 + 1, 0, none⟩) 2 2] 49)).alloc (.cells #[.slice (some ⟨w.heap.size + 1 + 1, 0, none⟩) 2 2, .int .i64 6, .slice (some ⟨w.heap.size + 1 + 1 + 1 + 1 + 1, 0, none⟩) 2 2] 25)) (some ⟨w.heap.size + 1 + 1, 0, none⟩) 2 gL (some ⟨w.heap.size + 1 + 1 + 1 + 1 + 1, 0, none⟩) (gG w.heap.size) ∧ New w (((((((w.alloc (.cells #[.int .i64 0, .bool true, .bool false, .int .i64 0, .string ⟨#[]⟩, .int .i64 0, .int .i64 0, .bool false, .int .i64 2, .string ⟨#[]⟩, .int .i64 0, .int .i64 0] 55)).alloc (.cells #[.int .i64 5, .int .i64 2, .int .i64 0, .bool true, .bool false, .int .i64 0, .string ⟨#[]⟩, .int .i64 0, .int .i64 0, .bool false, .int .i64 2, .string ⟨#[]⟩, .int .i64 0, .int .i64 0, .int .i64 7, .int .i64 1, .int .i64 0, .bool true, .bool false, .int .i64 0, .string ⟨#[]⟩, .int .i64 0, .int .i64 0, .bool false, .int .i64 2, .string ⟨#[]⟩, .int .i64 0, .int .i64 0] 57)).alloc (.cells #[.string ⟨#[97]⟩, .int .i64 0, .bool false, .string ⟨#[98]⟩, .int .i64 0, .bool false] 61)).alloc (.cells #[.slice (some ⟨w.heap.size + 1, 0, none⟩) 2 2, .slice (some ⟨w.heap.size + 1, 0, none⟩) 2 2] 46)).alloc (.cells #[.slice (some ⟨w.heap.size + 1, 0, none⟩) 2 2, .slice (some ⟨w.heap.size + 1, 0, none⟩) 2 2] 46)).alloc (.cells #[.int .i64 3, .slice (some ⟨w.heap.size + 1 + 1 + 1, 0, none⟩) 2 2, .int .i64 3, .slice (some ⟨w.heap.size + 1 + 1 + 1 + 1, 0, none⟩) 2 2] 49)).alloc (.cells #[.slice (some ⟨w.heap.size + 1 + 1, 0, none⟩) 2 2, .int .i64 6, .slice (some ⟨w.heap.size + 1 + 1 + 1 + 1 + 1, 0, none⟩) 2 2] 25)) := by
  obtain ⟨W1, h1⟩ : ∃ W, W = w.alloc (.cells #[.int .i64 0, .bool true, .bool false, .int .i64 0, .string ⟨#[]⟩, .int .i64 0, .int .i64 0, .bool false, .int .i64 2, .string ⟨#[]⟩, .int .i64 0, .int .i64 0] 55) := ⟨_, rfl⟩
  obtain ⟨W2, h2⟩ : ∃ W, W = W1.alloc (.cells #[.int .i64 5, .int .i64 2, .int .i64 0, .bool true, .bool false, .int .i64 0, .string ⟨#[]⟩, .int .i64 0, .int .i64 0, .bool false, .int .i64 2, .string ⟨#[]⟩, .int .i64 0, .int .i64 0, .int .i64 7, .int .i64 1, .int .i64 0, .bool true, .bool false, .int .i64 0, .string ⟨#[]⟩, .int .i64 0, .int .i64 0, .bool false, .int .i64 2, .string ⟨#[]⟩, .int .i64 0, .int .i64 0] 57) := ⟨_, rfl⟩
  obtain ⟨W3, h3⟩ : ∃ W, W = W2.alloc (.cells #[.string ⟨#[97]⟩, .int .i64 0, .bool false, .string ⟨#[98]⟩, .int .i64 0, .bool false] 61) := ⟨_, rfl⟩
  obtain ⟨W4, h4⟩ : ∃ W, W = W3.alloc (.cells #[.slice (some ⟨w.heap.size + 1, 0, none⟩) 2 2, .slice (some ⟨w.heap.size + 1, 0, none⟩) 2 2] 46) := ⟨_, rfl⟩
  obtain ⟨W5, h5⟩ : ∃ W, W = W4.alloc (.cells #[.slice (some ⟨w.heap.size + 1, 0, none⟩) 2 2, .slice (some ⟨w.heap.size + 1, 0, none⟩) 2 2] 46) := ⟨_, rfl⟩
  obtain ⟨W6, h6⟩ : ∃ W, W = W5.alloc (.cells #[.int .i64 3, .slice (some ⟨w.heap.size + 1 + 1 + 1, 0, none⟩) 2 2, .int .i64 3, .slice (some ⟨w.heap.size + 1 + 1 + 1 + 1, 0, none⟩) 2 2] 49) := ⟨_, rfl⟩
  obtain ⟨W7, h7⟩ : ∃ W, W = W6.alloc (.cells #[.slice (some ⟨w.heap.size + 1 + 1, 0, none⟩) 2 2, .int .i64 6, .slice (some ⟨w.heap.size + 1 + 1 + 1 + 1 + 1, 0, none⟩) 2 2] 25) := ⟨_, rfl⟩
  have e7 : (((((((w.alloc (.cells #[.int .i64 0, .bool true, .bool false, .int .i64 0, .string ⟨#[]⟩, .int .i64 0, .int .i64 0, .bool false, .int .i64 2, .string ⟨#[]⟩, .int .i64 0, .int .i64 0] 55)).alloc (.cells #[.int .i64 5, .int .i64 2, .int .i64 0, .bool true, .bool false, .int .i64 0, .string ⟨#[]⟩, .int .i64 0, .int .i64 0, .bool false, .int .i64 2, .string ⟨#[]⟩, .int .i64 0, .int .i64 0, .int .i64 7, .int .i64 1, .int .i64 0, .bool true, .bool false, .int .i64 0, .string ⟨#[]⟩, .int .i64 0, .int .i64 0, .bool false, .int .i64 2, .string ⟨#[]⟩, .int .i64 0, .int .i64 0] 57)).alloc (.cells #[.string ⟨#[97]⟩, .int .i64 0, .bool false, .string ⟨#[98]⟩, .int .i64 0, .bool false] 61)).alloc (.cells #[.slice (some ⟨w.heap.size + 1, 0, none⟩) 2 2, .slice (some ⟨w.heap.size + 1, 0, none⟩) 2 2] 46)).alloc (.cells #[.slice (some ⟨w.heap.size + 1, 0, none⟩) 2 2, .slice (some ⟨w.heap.size + 1, 0, none⟩) 2 2] 46)).alloc (.cells #[.int .i64 3, .slice (some ⟨w.heap.size + 1 + 1 + 1, 0, none⟩) 2 2, .int .i64 3, .slice (some ⟨w.heap.size + 1 + 1 + 1 + 1, 0, none⟩) 2 2] 49)).alloc (.cells #[.slice (some ⟨w.heap.size + 1 + 1, 0, none⟩) 2 2, .int .i64 6, .slice (some ⟨w.heap.size + 1 + 1 + 1 + 1 + 1, 0, none⟩) 2 2] 25)) = W7 := by rw [h7, h6, h5, h4, h3, h2, h1]
  rw [e7]
  have s1 : W1.heap.size = w.heap.size + 1 := by rw [h1, World.size_alloc]
  have s2 : W2.heap.size = w.heap.size + 1 + 1 := by rw [h2, World.size_alloc, s1]
  have s3 : W3.heap.size = w.heap.size + 1 + 1 + 1 := by rw [h3, World.size_alloc, s2]
  have s4 : W4.heap.size = w.heap.size + 1 + 1 + 1 + 1 := by rw [h4, World.size_alloc, s3]
  have s5 : W5.heap.size = w.heap.size + 1 + 1 + 1 + 1 + 1 := by rw [h5, World.size_alloc, s4]
  have s6 : W6.heap.size = w.heap.size + 1 + 1 + 1 + 1 + 1 + 1 := by rw [h6, World.size_alloc, s5]
  have b1 : New w W1 := by rw [h1]; exact (Below.refl _ _).alloc (Nat.le_refl _) _
  have b2 : New W1 W2 := by rw [h2]; exact (Below.refl _ _).alloc (Nat.le_refl _) _
  have b3 : New W2 W3 := by rw [h3]; exact (Below.refl _ _).alloc (Nat.le_refl _) _
  have b4 : New W3 W4 := by rw [h4]; exact (Below.refl _ _).alloc (Nat.le_refl _) _
  have b5 : New W4 W5 := by rw [h5]; exact (Below.refl _ _).alloc (Nat.le_refl _) _
  have b6 : New W5 W6 := by rw [h6]; exact (Below.refl _ _).alloc (Nat.le_refl _) _
  have b7 : New W6 W7 := by rw [h7]; exact (Below.refl _ _).alloc (Nat.le_refl _) _
  have b57 := New.trans b6 b7
  have b47 := New.trans b5 b57
  have b37 := New.trans b4 b47
  have b27 := New.trans b3 b37
  have r2 : Reads W2 W2.heap.size 14 (some ⟨w.heap.size + 1, 0, none⟩) 2 (recs pageV [gpA, gpB]) := by
    have := Reads.litR W1 57 #[.int .i64 5, .int .i64 2, .int .i64 0, .bool true, .bool false, .int .i64 0, .string ⟨#[]⟩, .int .i64 0, .int .i64 0, .bool false, .int .i64 2, .string ⟨#[]⟩, .int .i64 0, .int .i64 0, .int .i64 7, .int .i64 1, .int .i64 0, .bool true, .bool false, .int .i64 0, .string ⟨#[]⟩, .int .i64 0, .int .i64 0, .bool false, .int .i64 2, .string ⟨#[]⟩, .int .i64 0, .int .i64 0] 2 14 (recs pageV [gpA, gpB]) rfl rfl
    rw [s1, ← h2] at this
    exact this
  have r3 : Reads W3 W3.heap.size 3 (some ⟨w.heap.size + 1 + 1, 0, none⟩) 2 (recs colV gL) := by
    have := Reads.litR W2 61 #[.string ⟨#[97]⟩, .int .i64 0, .bool false, .string ⟨#[98]⟩, .int .i64 0, .bool false] 2 3 (recs colV gL) rfl rfl
    rw [s2, ← h3] at this
    exact this
  have r4 : Reads W4 W4.heap.size 1 (some ⟨w.heap.size + 1 + 1 + 1, 0, none⟩) 2 (recs chV (gC w.heap.size)) := by
    have := Reads.litR W3 46 #[.slice (some ⟨w.heap.size + 1, 0, none⟩) 2 2, .slice (some ⟨w.heap.size + 1, 0, none⟩) 2 2] 2 1 (recs chV (gC w.heap.size)) rfl rfl
    rw [s3, ← h4] at this
    exact this
  have r5 : Reads W5 W5.heap.size 1 (some ⟨w.heap.size + 1 + 1 + 1 + 1, 0, none⟩) 2 (recs chV (gC w.heap.size)) := by
    have := Reads.litR W4 46 #[.slice (some ⟨w.heap.size + 1, 0, none⟩) 2 2, .slice (some ⟨w.heap.size + 1, 0, none⟩) 2 2] 2 1 (recs chV (gC w.heap.size)) rfl rfl
    rw [s4, ← h5] at this
    exact this
  have r6 : Reads W6 W6.heap.size 2 (some ⟨w.heap.size + 1 + 1 + 1 + 1 + 1, 0, none⟩) 2 (recs grV (gG w.heap.size)) := by
    have := Reads.litR W5 49 #[.int .i64 3, .slice (some ⟨w.heap.size + 1 + 1 + 1, 0, none⟩) 2 2, .int .i64 3, .slice (some ⟨w.heap.size + 1 + 1 + 1 + 1, 0, none⟩) 2 2] 2 2 (recs grV (gG w.heap.size)) rfl rfl
    rw [s5, ← h6] at this
    exact this
  refine ⟨⟨Reads.later r3 b37, by decide, by decide, by decide, Reads.later r6 b7, by simp [gG], ?_, ?_⟩, New.trans b1 (New.trans b2 b27)⟩
  · intro g hg
    rcases gG_mem hg with rfl | rfl
    · exact ⟨Reads.later r4 b47, by simp [gC]⟩
    · exact ⟨Reads.later r5 b57, by simp [gC]⟩
  · intro g hg x hx
    have hx : x ∈ gC w.heap.size := by
      rcases gG_mem hg with rfl | rfl <;> exact hx
    rw [gC_mem hx]
    exact ⟨Reads.later r2 b27, by simp⟩
theorem fq_none (W : World) : Reads W W.heap.size 1 none ([] : List Int).length (ints .i64 []) := ⟨rfl, fun h => absurd h (by simp)⟩
set_option maxHeartbeats 4000000 in
set_option maxRecDepth 100000 in
theorem small25_any (w : World) : Calls Try.prog 9 #[] w (SmallPost w) := by
  obtain ⟨FI7, b7⟩ := gsm_in w
  obtain ⟨W7, h7⟩ : ∃ W, W = (((((((w.alloc (.cells #[.int .i64 0, .bool true, .bool false, .int .i64 0, .string ⟨#[]⟩, .int .i64 0, .int .i64 0, .bool false, .int .i64 2, .string ⟨#[]⟩, .int .i64 0, .int .i64 0] 55)).alloc (.cells #[.int .i64 5, .int .i64 2, .int .i64 0, .bool true, .bool false, .int .i64 0, .string ⟨#[]⟩, .int .i64 0, .int .i64 0, .bool false, .int .i64 2, .string ⟨#[]⟩, .int .i64 0, .int .i64 0, .int .i64 7, .int .i64 1, .int .i64 0, .bool true, .bool false, .int .i64 0, .string ⟨#[]⟩, .int .i64 0, .int .i64 0, .bool false, .int .i64 2, .string ⟨#[]⟩, .int .i64 0, .int .i64 0] 57)).alloc (.cells #[.string ⟨#[97]⟩, .int .i64 0, .bool false, .string ⟨#[98]⟩, .int .i64 0, .bool false] 61)).alloc (.cells #[.slice (some ⟨w.heap.size + 1, 0, none⟩) 2 2, .slice (some ⟨w.heap.size + 1, 0, none⟩) 2 2] 46)).alloc (.cells #[.slice (some ⟨w.heap.size + 1, 0, none⟩) 2 2, .slice (some ⟨w.heap.size + 1, 0, none⟩) 2 2] 46)).alloc (.cells #[.int .i64 3, .slice (some ⟨w.heap.size + 1 + 1 + 1, 0, none⟩) 2 2, .int .i64 3, .slice (some ⟨w.heap.size + 1 + 1 + 1 + 1, 0, none⟩) 2 2] 49)).alloc (.cells #[.slice (some ⟨w.heap.size + 1 + 1, 0, none⟩) 2 2, .int .i64 6, .slice (some ⟨w.heap.size + 1 + 1 + 1 + 1 + 1, 0, none⟩) 2 2] 25)) := ⟨_, rfl⟩
  rw [← h7] at FI7 b7
  have s7 : W7.heap.size = w.heap.size + 1 + 1 + 1 + 1 + 1 + 1 + 1 := by rw [h7]; simp only [World.size_alloc]
  obtain ⟨W8, h8⟩ : ∃ W, W = W7.alloc (.cells #[.int .i64 1] 3) := ⟨_, rfl⟩
  have b8 : New W7 W8 := by rw [h8]; exact (Below.refl _ _).alloc (Nat.le_refl _) _
  have r8 : Reads W8 W8.heap.size 1 (some ⟨w.heap.size + 1 + 1 + 1 + 1 + 1 + 1 + 1, 0, none⟩) 1 (ints .i64 [1]) := by
    have := Reads.litR W7 3 #[.int .i64 1] 1 1 (ints .i64 [1]) rfl rfl
    rw [s7, ← h8] at this
    exact this
  obtain ⟨W9, h9⟩ : ∃ W, W = W8.alloc (.cells #[.slice (some ⟨w.heap.size + 1 + 1 + 1 + 1 + 1 + 1 + 1, 0, none⟩) 1 1, .int .i64 2, .int .i64 4] 28) := ⟨_, rfl⟩
  have b9 : New W8 W9 := by rw [h9]; exact (Below.refl _ _).alloc (Nat.le_refl _) _
  have b79 := New.trans b8 b9
  have BF : Blk W9 (w.heap.size + 1 + 1 + 1 + 1 + 1 + 1) 25 #[.slice (some ⟨w.heap.size + 1 + 1, 0, none⟩) 2 2, .int .i64 6, .slice (some ⟨w.heap.size + 1 + 1 + 1 + 1 + 1, 0, none⟩) 2 2] := by
    have := Blk.new ((((((w.alloc (.cells #[.int .i64 0, .bool true, .bool false, .int .i64 0, .string ⟨#[]⟩, .int .i64 0, .int .i64 0, .bool false, .int .i64 2, .string ⟨#[]⟩, .int .i64 0, .int .i64 0] 55)).alloc (.cells #[.int .i64 5, .int .i64 2, .int .i64 0, .bool true, .bool false, .int .i64 0, .string ⟨#[]⟩, .int .i64 0, .int .i64 0, .bool false, .int .i64 2, .string ⟨#[]⟩, .int .i64 0, .int .i64 0, .int .i64 7, .int .i64 1, .int .i64 0, .bool true, .bool false, .int .i64 0, .string ⟨#[]⟩, .int .i64 0, .int .i64 0, .bool false, .int .i64 2, .string ⟨#[]⟩, .int .i64 0, .int .i64 0] 57)).alloc (.cells #[.string ⟨#[97]⟩, .int .i64 0, .bool false, .string ⟨#[98]⟩, .int .i64 0, .bool false] 61)).alloc (.cells #[.slice (some ⟨w.heap.size + 1, 0, none⟩) 2 2, .slice (some ⟨w.heap.size + 1, 0, none⟩) 2 2] 46)).alloc (.cells #[.slice (some ⟨w.heap.size + 1, 0, none⟩) 2 2, .slice (some ⟨w.heap.size + 1, 0, none⟩) 2 2] 46)).alloc (.cells #[.int .i64 3, .slice (some ⟨w.heap.size + 1 + 1 + 1, 0, none⟩) 2 2, .int .i64 3, .slice (some ⟨w.heap.size + 1 + 1 + 1 + 1, 0, none⟩) 2 2] 49)) 25 #[.slice (some ⟨w.heap.size + 1 + 1, 0, none⟩) 2 2, .int .i64 6, .slice (some ⟨w.heap.size + 1 + 1 + 1 + 1 + 1, 0, none⟩) 2 2]
    simp only [World.size_alloc] at this
    rw [← h7] at this
    exact this.below b79 this.lt
  have BQ : Blk W9 (w.heap.size + 1 + 1 + 1 + 1 + 1 + 1 + 1 + 1) 28 #[.slice (some ⟨w.heap.size + 1 + 1 + 1 + 1 + 1 + 1 + 1, 0, none⟩) 1 1, .int .i64 2, .int .i64 4] := by
    have := Blk.new W8 28 #[.slice (some ⟨w.heap.size + 1 + 1 + 1 + 1 + 1 + 1 + 1, 0, none⟩) 1 1, .int .i64 2, .int .i64 4]
    rw [← h9, h8, World.size_alloc, s7] at this
    exact this
  have BS := Blk.new w 55 #[.int .i64 0, .bool true, .bool false, .int .i64 0, .string ⟨#[]⟩, .int .i64 0, .int .i64 0, .bool false, .int .i64 2, .string ⟨#[]⟩, .int .i64 0, .int .i64 0]
  have FI := FI7.later b79
  have r9 := Reads.later r8 b9
  have b09 := New.trans b7 b79
  have e9 : W9 = (((((((((w.alloc (.cells #[.int .i64 0, .bool true, .bool false, .int .i64 0, .string ⟨#[]⟩, .int .i64 0, .int .i64 0, .bool false, .int .i64 2, .string ⟨#[]⟩, .int .i64 0, .int .i64 0] 55)).alloc (.cells #[.int .i64 5, .int .i64 2, .int .i64 0, .bool true, .bool false, .int .i64 0, .string ⟨#[]⟩, .int .i64 0, .int .i64 0, .bool false, .int .i64 2, .string ⟨#[]⟩, .int .i64 0, .int .i64 0, .int .i64 7, .int .i64 1, .int .i64 0, .bool true, .bool false, .int .i64 0, .string ⟨#[]⟩, .int .i64 0, .int .i64 0, .bool false, .int .i64 2, .string ⟨#[]⟩, .int .i64 0, .int .i64 0] 57)).alloc (.cells #[.string ⟨#[97]⟩, .int .i64 0, .bool false, .string ⟨#[98]⟩, .int .i64 0, .bool false] 61)).alloc (.cells #[.slice (some ⟨w.heap.size + 1, 0, none⟩) 2 2, .slice (some ⟨w.heap.size + 1, 0, none⟩) 2 2] 46)).alloc (.cells #[.slice (some ⟨w.heap.size + 1, 0, none⟩) 2 2, .slice (some ⟨w.heap.size + 1, 0, none⟩) 2 2] 46)).alloc (.cells #[.int .i64 3, .slice (some ⟨w.heap.size + 1 + 1 + 1, 0, none⟩) 2 2, .int .i64 3, .slice (some ⟨w.heap.size + 1 + 1 + 1 + 1, 0, none⟩) 2 2] 49)).alloc (.cells #[.slice (some ⟨w.heap.size + 1 + 1, 0, none⟩) 2 2, .int .i64 6, .slice (some ⟨w.heap.size + 1 + 1 + 1 + 1 + 1, 0, none⟩) 2 2] 25)).alloc (.cells #[.int .i64 1] 3)).alloc (.cells #[.slice (some ⟨w.heap.size + 1 + 1 + 1 + 1 + 1 + 1 + 1, 0, none⟩) 1 1, .int .i64 2, .int .i64 4] 28)) := by rw [h9, h8, h7]
  have FQ1 := Lib.hid (fun (W : World) (hW : New W9 W) => gsm_fq (Q := [1]) (cq := 1) (FI.later hW) (Reads.later r9 hW) (by simp) (by simp) (by simp))
  have FQ0 := Lib.hid (fun (W : World) (hW : New W9 W) => gsm_fq (Q := []) (Aq := none) (cq := 0) (FI.later hW) (fq_none W) (by simp) (by simp) (by simp))
  have FQx := Lib.hid (fun (W : World) (hW : New W9 W) (x : Int) (Aq : Option Addr) (hx : 0 ≤ x ∧ x ≤ 100) (hr : Reads W W.heap.size 1 Aq 1 (ints .i64 [x])) => gsm_fq (Q := [x]) (Aq := Aq) (cq := 1) (FI.later hW) hr (by simp) (by simp) (by simpa using hx))
  have ok1 : okQ gsm [1] 2 4 = true := gsm_fits (by decide)
  have P1 := Lib.hid (fun (W : World) (hW : New W9 W) => show Calls Try.prog 11 #[.agg #[.slice (some ⟨w.heap.size + 1 + 1, 0, none⟩) 2 2, .int .i64 6, .slice (some ⟨w.heap.size + 1 + 1 + 1 + 1 + 1, 0, none⟩) 2 2], .agg #[.slice (some ⟨w.heap.size + 1 + 1 + 1 + 1 + 1 + 1 + 1, 0, none⟩) 1 1, .int .i64 2, .int .i64 4]] W (NewPost (pairN (0, 2)) W) from by
    have := pgroups_any (f := 2) (t := 4) (FQ1.out W hW)
    rw [gG_is, ok1, gsm_groups] at this
    exact this)
  have P2 := Lib.hid (fun (W : World) (hW : New W9 W) => show Calls Try.prog 14 #[.agg #[.slice (some ⟨w.heap.size + 1 + 1, 0, none⟩) 2 2, .int .i64 6, .slice (some ⟨w.heap.size + 1 + 1 + 1 + 1 + 1, 0, none⟩) 2 2], .agg #[.slice (some ⟨w.heap.size + 1 + 1 + 1 + 1 + 1 + 1 + 1, 0, none⟩) 1 1, .int .i64 2, .int .i64 4]] W (PartsPost [(0, 1, 1, 2), (1, 1, 0, 1)] W) from by
    have := pparts_any (f := 2) (t := 4) (FQ1.out W hW)
    rw [gG_is, ok1, gsm_parts] at this
    exact this)
  have P3 := Lib.hid (fun (W : World) (hW : New W9 W) => show Calls Try.prog 16 #[.agg #[.slice (some ⟨w.heap.size + 1 + 1, 0, none⟩) 2 2, .int .i64 6, .slice (some ⟨w.heap.size + 1 + 1 + 1 + 1 + 1, 0, none⟩) 2 2], .agg #[.slice (some ⟨w.heap.size + 1 + 1 + 1 + 1 + 1 + 1 + 1, 0, none⟩) 1 1, .int .i64 2, .int .i64 4]] W (NewPost (.int .i64 4) W) from by
    have := pdigests_any (f := 2) (t := 4) (FQ1.out W hW)
    rw [gG_is, ok1, gsm_digests] at this
    exact this)
  have P4 := Lib.hid (fun (W : World) (hW : New W9 W) => show Calls Try.prog 18 #[.agg #[.slice (some ⟨w.heap.size + 1 + 1, 0, none⟩) 2 2, .int .i64 6, .slice (some ⟨w.heap.size + 1 + 1 + 1 + 1 + 1, 0, none⟩) 2 2], .agg #[.slice (some ⟨w.heap.size + 1 + 1 + 1 + 1 + 1 + 1 + 1, 0, none⟩) 1 1, .int .i64 2, .int .i64 4]] W (NewPost (.int .i64 12) W) from by
    have := pbytes_any (f := 2) (t := 4) (FQ1.out W hW)
    rw [gG_is, ok1, gsm_bytes] at this
    exact this)
  have P5 := Lib.hid (fun (W : World) (hW : New W9 W) => show Calls Try.prog 16 #[.agg #[.slice (some ⟨w.heap.size + 1 + 1, 0, none⟩) 2 2, .int .i64 6, .slice (some ⟨w.heap.size + 1 + 1 + 1 + 1 + 1, 0, none⟩) 2 2], .agg #[.slice none 0 0, .int .i64 0, .int .i64 0]] W (NewPost (.int .i64 1) W) from by
    have := pdigests_any (f := 0) (t := 0) (FQ0.out W hW)
    rw [gG_is, gsm_fits (by decide), gsm_dig0] at this
    exact this)
  have P6 := Lib.hid (fun (W : World) (hW : New W9 W) => show Calls Try.prog 16 #[.agg #[.slice (some ⟨w.heap.size + 1 + 1, 0, none⟩) 2 2, .int .i64 6, .slice (some ⟨w.heap.size + 1 + 1 + 1 + 1 + 1, 0, none⟩) 2 2], .agg #[.slice none 0 0, .int .i64 0, .int .i64 1]] W (NewPost (.int .i64 2) W) from by
    have := pdigests_any (f := 0) (t := 1) (FQ0.out W hW)
    rw [gG_is, gsm_fits (by decide), gsm_dig1] at this
    exact this)
  have P7 := Lib.hid (fun (W : World) (hW : New W9 W) (Aq : Option Addr) (hr : Reads W W.heap.size 1 Aq 1 (ints .i64 [9])) => show Calls Try.prog 18 #[.agg #[.slice (some ⟨w.heap.size + 1 + 1, 0, none⟩) 2 2, .int .i64 6, .slice (some ⟨w.heap.size + 1 + 1 + 1 + 1 + 1, 0, none⟩) 2 2], .agg #[.slice Aq 1 1, .int .i64 0, .int .i64 0]] W (NewPost (.int .i64 (-1)) W) from by
    have := pbytes_any (f := 0) (t := 0) (FQx.out W hW 9 Aq (by omega) hr)
    rw [gG_is, gsm_unfit (by decide)] at this
    exact this)
  have P8 := Lib.hid (fun (W : World) (hW : New W9 W) (Aq : Option Addr) (hr : Reads W W.heap.size 1 Aq 1 (ints .i64 [0])) => show Calls Try.prog 14 #[.agg #[.slice (some ⟨w.heap.size + 1 + 1, 0, none⟩) 2 2, .int .i64 6, .slice (some ⟨w.heap.size + 1 + 1 + 1 + 1 + 1, 0, none⟩) 2 2], .agg #[.slice Aq 1 1, .int .i64 1, .int .i64 1]] W (PartsPost [] W) from by
    have := pparts_any (f := 1) (t := 1) (FQx.out W hW 0 Aq (by omega) hr)
    rw [gG_is, gsm_fits (by decide), gsm_none] at this
    exact this)
  have E9 := Lib.hid e9
  obtain ⟨z0, z1, z2, z3, z4, z5, z6, z7, z8, z9, z10, z11⟩ := cells12 BS
  clear FI7 b7 h7 s7 h8 b8 r8 h9 b9 b79 e9 FI r9 FQ1 FQ0 FQx ok1 BS
  go_enter Try.func9, Try.ntmps9
  go_wp2_with fail
  rw [← E9.out]
  refine (P1.out _ (New.refl _)).mono ?_
  rintro e w1 ⟨rfl, b1⟩
  unfold pairN
  have BF := BF.below b1 BF.lt
  have BQ := BQ.below b1 BQ.lt
  clear P1 E9 z0 z1 z2 z3 z4 z5 z6 z7 z8 z9 z10 z11
  obtain ⟨x0, x1, x2⟩ := ccells BF
  obtain ⟨y0, y1, y2⟩ := ccells BQ
  dsimp only
  go_wp2_with fail
  refine (P2.out _ b1).mono ?_
  rintro e w2 ⟨A2, n2, c2, rfl, hn2, o2, b2⟩
  subst hn2
  have BF := BF.below b2 BF.lt
  have BQ := BQ.below b2 BQ.lt
  have b12 := New.trans b1 b2
  obtain ⟨ax, rfl, -, p0, p1, p2, p3⟩ := read_part4 (Reads.of_own o2) (i := 0) (by simp)
  obtain ⟨ay, ey, -, q0, q1, q2, q3⟩ := read_part4 (Reads.of_own o2) (i := 1) (by simp)
  injection ey with ey
  subst ey
  simp [Addr.add] at p0 p1 p2 p3 q0 q1 q2 q3
  clear P2 x0 x1 x2 y0 y1 y2 o2 b1 b2
  obtain ⟨x0, x1, x2⟩ := ccells BF
  obtain ⟨y0, y1, y2⟩ := ccells BQ
  go_wp2_with fail
  refine (P3.out _ b12).mono ?_
  rintro e w3 ⟨rfl, b3⟩
  have BF := BF.below b3 BF.lt
  have BQ := BQ.below b3 BQ.lt
  have b13 := New.trans b12 b3
  clear x0 x1 x2 y0 y1 y2 p0 p1 p2 p3 q0 q1 q2 q3 P3 b3
  obtain ⟨x0, x1, x2⟩ := ccells BF
  obtain ⟨y0, y1, y2⟩ := ccells BQ
  go_wp2_with fail
  refine (P4.out _ b13).mono ?_
  rintro e w4 ⟨rfl, b4⟩
  have BF := BF.below b4 BF.lt
  have BQ := BQ.below b4 BQ.lt
  have b14 := New.trans b13 b4
  clear x0 x1 x2 y0 y1 y2 P4 b4
  obtain ⟨x0, x1, x2⟩ := ccells BF
  obtain ⟨y0, y1, y2⟩ := ccells BQ
  go_wp2_with fail
  refine (P5.out _ b14).mono ?_
  rintro e w5 ⟨rfl, b5⟩
  have BF := BF.below b5 BF.lt
  have BQ := BQ.below b5 BQ.lt
  have b15 := New.trans b14 b5
  clear x0 x1 x2 y0 y1 y2 P5 b5
  obtain ⟨x0, x1, x2⟩ := ccells BF
  obtain ⟨y0, y1, y2⟩ := ccells BQ
  go_wp2_with fail
  refine (P6.out _ b15).mono ?_
  rintro e w6 ⟨rfl, b6⟩
  have BF := BF.below b6 BF.lt
  have b16 := New.trans b15 b6
  have ha := New.trans b16 (show New w6 (w6.alloc (.cells #[.int .i64 9] 3)) from (Below.refl _ _).alloc (Nat.le_refl _) _)
  have hr7 := Reads.litR w6 3 #[.int .i64 9] 1 1 (ints .i64 [9]) rfl rfl
  clear x0 x1 x2 y0 y1 y2 P6 b6 BQ
  obtain ⟨x0, x1, x2⟩ := ccells BF
  go_wp2_with fail
  refine (P7.out _ ha _ hr7).mono ?_
  rintro e w7 ⟨rfl, b7⟩
  have b17 := New.trans ha b7
  have BFa := (show New w6 (w6.alloc (.cells #[.int .i64 9] 3)) from (Below.refl _ _).alloc (Nat.le_refl _) _)
  have BF := BF.below (New.trans BFa b7) BF.lt
  have ha2 := New.trans b17 (show New w7 (w7.alloc (.cells #[.int .i64 0] 3)) from (Below.refl _ _).alloc (Nat.le_refl _) _)
  have hr8 := Reads.litR w7 3 #[.int .i64 0] 1 1 (ints .i64 [0]) rfl rfl
  clear x0 x1 x2 P7 b7 ha hr7 BFa b16
  obtain ⟨x0, x1, x2⟩ := ccells BF
  go_wp2_with fail
  refine (P8.out _ ha2 _ hr8).mono ?_
  rintro e w8 ⟨A8, n8, c8, rfl, hn8, o8, b8⟩
  subst hn8
  have b18 := New.trans b09 (New.trans ha2 b8)
  clear x0 x1 x2 P8 o8 b8 ha2 hr8 BF
  go_wp2
  go_ret
  exact ⟨rfl, b18⟩

end Go.Proofs.Ythmjbdpkdomofaa
/- Some truth is told, and nothing that was is turned. -/

namespace Go.Proofs.Ythmjbdpkdomofaa
open Go.RowKit Go.Hm
/-- Some truth; nothing that was is turned. -/
def BoolNew (w : World) (e : Ending) (w' : World) : Prop := ∃ b, e = .returned (.bool b) ∧ New w w'

end Go.Proofs.Ythmjbdpkdomofaa
/- The contract of law19.Few. -/

namespace Go.Proofs.Ythmjbdpkdomofaa
open Go.RowKit Go.Hm
set_option maxHeartbeats 4000000 in
set_option maxRecDepth 100000 in
theorem few19_any {w : World} {Ac : Option Addr} {cc : Nat} {L : List ColS} {r : Int} {Ag : Option Addr} {cg : Nat} {G : List GrD} (h : FootIn w Ac cc L Ag G) (hp : ∀ g ∈ G, ∀ x ∈ g.2.2.2, ∀ p ∈ x.2.2, PageFine p) :
    Calls Try.prog 10 #[footA Ac cc L r Ag cg G] w (BoolNew w) := by
  have b0 : New w (w.alloc (.cells #[.slice Ac L.length cc, .int .i64 r, .slice Ag G.length cg] 25)) := (Below.refl _ _).alloc (Nat.le_refl _) _
  have B0 := Blk.new w 25 #[.slice Ac L.length cc, .int .i64 r, .slice Ag G.length cg]
  have HG := Lib.hid h.groups
  have HL := Lib.hid h.cols
  have HF := Lib.hid h.fine
  have HCH := Lib.hid h.chunks
  have HPG := Lib.hid h.pages
  have HP := Lib.hid hp
  have l1 := h.few
  have l2 := h.few2
  clear h hp
  show Calls Try.prog 10 #[.agg #[.slice Ac L.length cc, .int .i64 r, .slice Ag G.length cg]] w (BoolNew w)
  go_enter Try.func10, Try.ntmps10
  go_wp2_with fail
  go_loopw [3, 4] (fun v i wr => ∃ (k : Nat) (x : Int), i = .int .i64 (k : Int) ∧ v = .int .i64 x ∧ k ≤ L.length ∧ Blk wr w.heap.size 25 #[.slice Ac L.length cc, .int .i64 r, .slice Ag G.length cg] ∧ New w wr) (fun _ i _ => L.length - (intOf i).toNat)
  case atStart => exact ⟨0, 0, rfl, rfl, by omega, B0, b0⟩
  case round =>
    obtain ⟨k, x, rfl, rfl, hk, B, b⟩ := hrel
    clear B0 b0
    obtain ⟨x0, x1, x2⟩ := ccells B
    by_cases hlt : k < L.length
    · obtain ⟨ad, rfl, hbk, d0, d1, d2⟩ := (Reads.later HL.out b).colT hlt
      have hx := (HF.out _ (mem_getDF colZ hlt)).2
      generalize (L.getD k ([], 0, false)).1 = s2 at *
      have zs := bstr_size s2
      have hiz : (k : Int) < (L.length : Int) := by omega
      generalize hy : IntKind.i64.wrap (x + (s2.length : Int)) = y
      go_wp2
      go_roundw
      case rel => exact ⟨k + 1, _, by go_num, rfl, by omega, B, b⟩
      case measure => simp [intOf]; omega
    · obtain rfl : k = L.length := by omega
      go_wp2_with fail
      clear x0 x1 x2
      go_loopw [3, 5] (fun v i wr => ∃ (k : Nat) (x : Int), i = .int .i64 (k : Int) ∧ v = .int .i64 x ∧ k ≤ G.length ∧ Blk wr w.heap.size 25 #[.slice Ac L.length cc, .int .i64 r, .slice Ag G.length cg] ∧ New w wr) (fun _ i _ => G.length - (intOf i).toNat)
      case atStart => exact ⟨0, _, rfl, rfl, by omega, B, b⟩
      case round =>
        clear B b
        obtain ⟨k, x, rfl, rfl, hk, B, b⟩ := hrel
        obtain ⟨x0, x1, x2⟩ := ccells B
        by_cases hlt : k < G.length
        · obtain ⟨ad, rfl, hb, -⟩ := (Reads.later HG.out b).gr2 hlt
          have FG := Lib.hid (fun (W : World) (hW : New w W) => show W.cell? (ad.add (k * 2)) = some (.int .i64 (G.getD k grZ).1) ∧ W.cell? ⟨(ad.add (k * 2)).block, (ad.add (k * 2)).off + 1, none⟩ = some (.slice (G.getD k grZ).2.1 (G.getD k grZ).2.2.2.length (G.getD k grZ).2.2.1) from by
            obtain ⟨al', e, _, f⟩ := (Reads.later HG.out hW).gr2 hlt
            injection e with e
            subst e
            exact f)
          have hgm := mem_getDF grZ hlt
          have hch := HCH.out _ hgm
          have hpg := HPG.out _ hgm
          have hpp := HP.out _ hgm
          clear hgm hb
          generalize G.getD k grZ = gg at *
          obtain ⟨gr, Ach, cch, D⟩ := gg
          dsimp only at FG hch hpg hpp
          have HCHk := Lib.hid hch.1
          have hchl := hch.2
          have HPGk := Lib.hid hpg
          have HPPk := Lib.hid hpp
          have hiz : (k : Int) < (G.length : Int) := by omega
          clear hch hpg hpp
          generalize hy : IntKind.i64.wrap (x + 10) = y
          go_wp2_with fail
          clear x0 x1 x2 hy
          go_loopw [3, 6] (fun v i wr => ∃ (j : Nat) (x : Int), i = .int .i64 (j : Int) ∧ v = .int .i64 x ∧ j ≤ D.length ∧ Blk wr w.heap.size 25 #[.slice Ac L.length cc, .int .i64 r, .slice (some ad) G.length cg] ∧ New w wr) (fun _ i _ => D.length - (intOf i).toNat)
          case atStart => exact ⟨0, _, rfl, rfl, by omega, B, b⟩
          case round =>
            clear B b
            obtain ⟨j, x, rfl, rfl, hj, B, b⟩ := hrel
            obtain ⟨x0, x1, x2⟩ := ccells B
            obtain ⟨d0, d1⟩ := FG.out _ b
            by_cases hlj : j < D.length
            · obtain ⟨ac, rfl, hbc, e0⟩ := (Reads.later HCHk.out b).ch1 hlj
              have hxm := mem_getDF chZ hlj
              have hpx := HPGk.out _ hxm
              have hsx := HPPk.out _ hxm
              clear hbc hxm
              generalize D.getD j chZ = xx at *
              obtain ⟨Ax, cx, pl⟩ := xx
              dsimp only at e0 hpx hsx
              have HPL := Lib.hid hpx.1
              have HSX := Lib.hid hsx
              have hpn := hpx.2
              have hjz : (j : Int) < (D.length : Int) := by omega
              clear hpx hsx
              generalize hy : IntKind.i64.wrap (x + 5) = y
              go_wp2_with fail
              clear x0 x1 x2 d0 d1 e0 hy
              go_loopw [3, 8] (fun v i wr => ∃ (q : Nat) (x : Int), i = .int .i64 (q : Int) ∧ v = .int .i64 x ∧ q ≤ pl.length ∧ Blk wr w.heap.size 25 #[.slice Ac L.length cc, .int .i64 r, .slice (some ad) G.length cg] ∧ New w wr) (fun _ i _ => pl.length - (intOf i).toNat)
              case atStart => exact ⟨0, _, rfl, rfl, by omega, B, b⟩
              case round =>
                clear B b
                obtain ⟨q, x, rfl, rfl, hq, B, b⟩ := hrel
                by_cases hlq : q < pl.length
                · obtain ⟨ap, rfl, hbp, g0, g1, g2, g3, g4, g5, g6, g7, g8, g9, g10, g11, g12, g13⟩ := (Reads.later HPL.out b).page14 hlq
                  have hf := HSX.out _ (mem_getDF pageZ hlq)
                  have hq1 := hf.1.1.1.1.1
                  have hq2 := hf.1.1.2.1.1
                  clear hf hbp g0 g1 g2 g3 g4 g5 g7 g8 g9 g10 g12 g13
                  generalize (pl.getD q pageZ).2.2.2.2.1.2.2.1 = s1 at *
                  generalize (pl.getD q pageZ).2.2.2.2.2.2.2.1 = s2 at *
                  have zs1 := bstr_size s1
                  have zs2 := bstr_size s2
                  have hqz : (q : Int) < (pl.length : Int) := by omega
                  generalize hy1 : IntKind.i64.wrap (x + 10) = y1
                  generalize hy2 : IntKind.i64.wrap (y1 + (s1.length : Int)) = y2
                  generalize hy3 : IntKind.i64.wrap (y2 + (s2.length : Int)) = y3
                  go_wp2
                  go_quiet (fail)
                  have hb5 := fun q => New.trans b (new_drewN wr q)
                  have B5 := fun q => B.below (new_drewN wr q) B.lt
                  go_wp2
                  go_roundw
                  case rel => exact ⟨q + 1, _, by go_num, rfl, by omega, B5 _, hb5 _⟩
                  case measure => simp [intOf]; omega
                · obtain rfl : q = pl.length := by omega
                  go_wp2
                  go_roundw
                  case rel => exact ⟨j + 1, _, by go_num, rfl, by omega, B, b⟩
                  case measure => simp [intOf]; omega
            · obtain rfl : j = D.length := by omega
              go_wp2
              go_roundw
              case rel => exact ⟨k + 1, _, by go_num, rfl, by omega, B, b⟩
              case measure => simp [intOf]; omega
        · obtain rfl : k = G.length := by omega
          go_wp2
          all_goals go_ret
          all_goals exact ⟨_, rfl, b⟩

end Go.Proofs.Ythmjbdpkdomofaa
/- The contract of the answer's Bytes. -/

namespace Go.Proofs.Ythmjbdpkdomofaa
open Go Go.RowKit Go.Hm

section
variable {w : World} {Ac : Option Addr} {cc : Nat} {L : List ColS} {r : Int} {Ag : Option Addr} {cg : Nat} {G : List GrD} {Aq : Option Addr} {cq : Nat} {Q : List Int} {f t : Int}
set_option maxHeartbeats 8000000 in
set_option maxRecDepth 100000 in
theorem rpbytes_any (h : FQ w Ac cc L r Ag cg G Aq cq Q) :
    Calls Try.prog 19 #[.agg #[.slice Ac L.length cc, .int .i64 r, .slice Ag G.length cg], qV Aq cq Q f t] w (NewPost (.int .i64 (bytesQ (okQ (footP L r G) Q f t) (footP L r G) Q f t)) w) := by
  have P1 := Lib.hid (fun (W : World) (hW : New w W) => rpfits_any (f := f) (t := t) (h.later hW))
  have P3 := Lib.hid (fun (W : World) (hW : New w W) => rpparts_any (f := f) (t := t) (h.later hW))
  have HG := Lib.hid h.foot.groups
  have HCH := Lib.hid h.foot.chunks
  have HPG := Lib.hid h.foot.pages
  have HCP := Lib.hid h.caps
  have hfewL := h.foot.few
  have hfewG := h.fewG
  have hfewq := h.fewq
  have OV := fun (e : okQ (footP L r G) Q f t = true) => parts_len e
  have ST := fun (e : okQ (footP L r G) Q f t = true) (k : Nat) hk => byte_step e (k := k) hk
  have S0 := Lib.hid (byTo_zero (footP L r G) (partsQ (okQ (footP L r G) Q f t) (footP L r G) Q f t))
  have SE := fun (e : okQ (footP L r G) Q f t = true) => bytes_parts e
  have hN : okQ (footP L r G) Q f t = false → bytesQ (okQ (footP L r G) Q f t) (footP L r G) Q f t = -1 := fun e => by rw [e]; rfl
  obtain ⟨X, hX⟩ : ∃ X, X = bytesQ (okQ (footP L r G) Q f t) (footP L r G) Q f t := ⟨_, rfl⟩
  rw [← hX] at hN SE ⊢
  clear h hX
  generalize hPQ : partsQ (okQ (footP L r G) Q f t) (footP L r G) Q f t = l at *
  generalize okQ (footP L r G) Q f t = M at *
  generalize hDT : byTo (footP L r G) l = BT at *
  clear hPQ hDT
  have HOV := Lib.hid OV
  have HST := Lib.hid ST
  have HSE := Lib.hid SE
  have HN := Lib.hid hN
  clear OV ST SE hN
  have B0 := (Blk.new w 25 #[.slice Ac L.length cc, .int .i64 r, .slice Ag G.length cg]).alloc (.cells #[.slice Aq Q.length cq, .int .i64 f, .int .i64 t] 28)
  have B1 := Blk.new (w.alloc (.cells #[.slice Ac L.length cc, .int .i64 r, .slice Ag G.length cg] 25)) 28 #[.slice Aq Q.length cq, .int .i64 f, .int .i64 t]
  have b0 := new2 w (.cells #[.slice Ac L.length cc, .int .i64 r, .slice Ag G.length cg] 25) (.cells #[.slice Aq Q.length cq, .int .i64 f, .int .i64 t] 28)
  simp only [World.size_alloc] at B1
  obtain ⟨x0, x1, x2⟩ := ccells B0
  obtain ⟨y0, y1, y2⟩ := ccells B1
  go_enter Try.func19, Try.ntmps19
  go_wp2_with fail
  refine (P1.out _ b0).mono ?_
  rintro e w1 ⟨rfl, b1⟩
  have B0 := B0.below b1 B0.lt
  have B1 := B1.below b1 B1.lt
  have b01 := New.trans b0 b1
  clear x0 x1 x2 y0 y1 y2 b0 b1 P1
  cases M with
  | false =>
    have e1 : X = -1 := HN.out rfl
    subst e1
    go_wp2
    go_ret
    exact ⟨rfl, b01⟩
  | true =>
    have hl4 := HOV.out rfl
    have HST2 := Lib.hid (HST.out rfl)
    have HSE2 := Lib.hid (HSE.out rfl)
    clear HST HSE HOV HN
    obtain ⟨x0, x1, x2⟩ := ccells B0
    obtain ⟨y0, y1, y2⟩ := ccells B1
    go_wp2_with fail
    refine (P3.out _ b01).mono ?_
    rintro e w4 ⟨A4, n4, c4, rfl, hn4, o4, b4⟩
    subst hn4
    have B0 := B0.below b4 B0.lt
    have R4 := Lib.hid (Reads.of_own o4)
    have hz4 := b4.size
    have b04 := New.trans b01 b4
    clear x0 x1 x2 y0 y1 y2 B1 o4 b4 b01 P3
    go_wp2_with fail
    go_loopw [6, 8] (fun v i wr => ∃ k : Nat, k ≤ l.length ∧ i = .int .i64 (k : Int) ∧ v = .int .i64 (BT k) ∧ Blk wr w.heap.size 25 #[.slice Ac L.length cc, .int .i64 r, .slice Ag G.length cg] ∧ New w4 wr) (fun _ i _ => l.length - (intOf i).toNat)
    case atStart => exact ⟨0, Nat.zero_le _, rfl, by rw [S0.out], B0, New.refl _⟩
    case round =>
      obtain ⟨k, hk, rfl, rfl, B, b⟩ := hrel
      clear B0 S0
      by_cases hlt : k < l.length
      · obtain ⟨g, c, x, y, hp, hgG, hcL, hDl, hxy, hyl, V, hVx, hVy, hV⟩ := HST2.out k hlt
        obtain ⟨ad, rfl, -, p0, p1, p2, p3⟩ := read_part4 (Reads.later R4.out b) hlt
        have FP := Lib.hid (fun (W : World) (hW : New w4 W) => show W.cell? (ad.add (k * 4)) = some (.int .i64 (g : Int)) ∧ W.cell? ⟨(ad.add (k * 4)).block, (ad.add (k * 4)).off + 1, none⟩ = some (.int .i64 (c : Int)) ∧ W.cell? ⟨(ad.add (k * 4)).block, (ad.add (k * 4)).off + 2, none⟩ = some (.int .i64 (x : Int)) ∧ W.cell? ⟨(ad.add (k * 4)).block, (ad.add (k * 4)).off + 3, none⟩ = some (.int .i64 (y : Int)) from by
          obtain ⟨a', e, _, f0, f1, f2, f3⟩ := read_part4 (Reads.later R4.out hW) hlt
          injection e with e
          subst e
          rw [hp] at f0 f1 f2 f3
          exact ⟨f0, f1, f2, f3⟩)
        clear p0 p1 p2 p3
        have bw := New.trans b04 b
        obtain ⟨ag, rfl, -, -, -⟩ := (Reads.later HG.out bw).gr2 hgG
        have FG := Lib.hid (fun (W : World) (hW : New w W) => show W.cell? ⟨(ag.add (g * 2)).block, (ag.add (g * 2)).off + 1, none⟩ = some (.slice (G.getD g grZ).2.1 (G.getD g grZ).2.2.2.length (G.getD g grZ).2.2.1) from by
          obtain ⟨a', e, _, _, f⟩ := (Reads.later HG.out hW).gr2 hgG
          injection e with e
          subst e
          exact f)
        have hgm := mem_getDF grZ hgG
        have hch := HCH.out _ hgm
        have hpg := HPG.out _ hgm
        have hcp := (HCP.out _ hgm).2
        clear hgm hp
        generalize G.getD g grZ = gg at *
        obtain ⟨gr, Ach, cch, D⟩ := gg
        dsimp only at FG hch hpg hDl hV hyl hcp
        have hcD : c < D.length := by omega
        obtain ⟨ac, rfl, -, -⟩ := (Reads.later hch.1 bw).ch1 hcD
        have FC := Lib.hid (fun (W : World) (hW : New w W) => show W.cell? (ac.add c) = some (.slice (D.getD c chZ).1 (D.getD c chZ).2.2.length (D.getD c chZ).2.1) from by
          obtain ⟨a', e, _, f⟩ := (Reads.later hch.1 hW).ch1 hcD
          injection e with e
          subst e
          exact f)
        obtain ⟨hpr, hpn⟩ := hpg _ (mem_getDF chZ hcD)
        have hpc := hcp _ (mem_getDF chZ hcD)
        clear hch hpg hcp
        generalize D.getD c chZ = xx at *
        obtain ⟨Ax, cx, pl⟩ := xx
        dsimp only at FC hpn hpr hpc hV hyl
        have HVx := Lib.hid hVx
        have HVy := Lib.hid hVy
        have HV := Lib.hid hV
        have hkl : (k : Int) < (l.length : Int) := by omega
        have hgi : (g : Int) < (G.length : Int) := by omega
        have hci : (c : Int) < (D.length : Int) := by omega
        have HDl := Lib.hid hDl
        have HPR := Lib.hid hpr
        clear hDl hVx hVy hV hpr
        have F3 := Lib.hid (fun (W : World) (hW : New w4 W) => And.intro (FP.out W hW) (And.intro (FG.out W (New.trans b04 hW)) (FC.out W (New.trans b04 hW))))
        clear bw FG FC FP
        obtain ⟨⟨p0, p1, p2, p3⟩, -⟩ := F3.out _ b
        go_wp2_with fail
        clear p0 p1 p2 p3
        go_loopw [6, 9] (fun v i wr => ∃ q : Nat, x ≤ q ∧ q ≤ y ∧ i = .int .i64 (q : Int) ∧ v = .int .i64 (V q) ∧ Blk wr w.heap.size 25 #[.slice Ac L.length cc, .int .i64 r, .slice (some ag) G.length cg] ∧ New w4 wr) (fun _ i _ => y - (intOf i).toNat)
        case atStart => exact ⟨x, Nat.le_refl _, hxy, rfl, by rw [HVx.out], B, b⟩
        case round =>
          clear b B
          obtain ⟨q, hxq, hq, rfl, rfl, B, b⟩ := hrel
          obtain ⟨⟨p0, p1, p2, p3⟩, -⟩ := F3.out _ b
          by_cases hlq : q < y
          · obtain ⟨ax, rfl, -, -⟩ := (Reads.later HPR.out (New.trans b04 b)).page14 (i := q) (by omega)
            have FX := Lib.hid (fun (W : World) (hW : New w4 W) => show W.cell? (ax.add (q * 14)) = some (.int .i64 (pl.getD q pageZ).1) from by
              obtain ⟨a', e, _, f, _⟩ := (Reads.later HPR.out (New.trans b04 hW)).page14 (i := q) (by omega)
              injection e with e
              subst e
              exact f)
            obtain ⟨v1, v2, v3, v4, v5⟩ := HV.out q hxq hlq
            generalize (pl.getD q pageZ).1 = sz at *
            have H1 := Lib.hid v1
            clear v1
            generalize V q = Vq at *
            have wA : IntKind.i64.wrap (Vq + sz) = Vq + sz := by rw [IntKind.wrap_i64]; omega
            have hqi : (q : Int) < (y : Int) := by omega
            have hql : (q : Int) < (pl.length : Int) := by omega
            have F4 := Lib.hid (fun (W : World) (hW : New wr W) => And.intro (B.below hW B.lt) (And.intro (F3.out W (New.trans b hW)) (FX.out W (New.trans b hW))))
            clear B FX
            go_wp2_with fail
            clear p0 p1 p2 p3
            refine wp_region_up New [(true, 0), (true, 1), (true, 2), (true, 3), (true, 4), (true, 5), (true, 6), (true, 7), (true, 8), (true, 9), (true, 10), (true, 11), (true, 12), (true, 13), (true, 14), (true, 15), (true, 16), (true, 17), (true, 18), (true, 19), (true, 20), (true, 21), (true, 22), (true, 23)]
              New.refl New.trans (by kernel_rfl) (by kernel_rfl) (by kernel_rfl) (by kernel_rfl) ?_
            have hU := New.drew wr
            repeat (first
              | (refine up_quiet rfl rfl (v := ?_) (fun W hQ => ?_) ?_; rotate_left; (obtain ⟨F1, ⟨⟨y0, y1, y2, y3⟩, g1, c1⟩, z1⟩ := F4.out W (New.trans hU hQ); obtain ⟨x0, x1, x2⟩ := ccells F1; clear F1; go_simp <;> with_reducible rfl); simp only [Act.put, List.setIfInBounds_toArray, List.set_cons_zero, List.set_cons_succ]))
            refine up_nil ?_
            obtain ⟨F1, -⟩ := F4.out _ hU
            have b8 := New.trans b hU
            clear F4 hU
            go_wp2_with fail
            go_roundw
            case rel => exact ⟨q + 1, by omega, by omega, by go_num, by rw [H1.out], F1, b8⟩
            case measure => simp [intOf]; omega
          · obtain rfl : q = y := by omega
            go_wp2_with fail
            go_roundw
            case rel => exact ⟨k + 1, by omega, by go_num, by rw [← HVy.out], B, b⟩
            case measure => simp [intOf]; omega
      · obtain rfl : k = l.length := by omega
        go_wp2_with fail
        go_ret
        exact ⟨by rw [← HSE2.out]; rfl, New.trans b04 b⟩
end

end Go.Proofs.Ythmjbdpkdomofaa
/- The contract of the answer's Same, of two equal rows of parts. -/

namespace Go.Proofs.Ythmjbdpkdomofaa
open Go Go.RowKit Go.Hm
set_option maxHeartbeats 2000000 in
set_option maxRecDepth 100000 in
theorem psame_any {w : World} {A1 A2 : Option Addr} {n c1 c2 : Nat} {l : List PartS} (h1 : Reads w w.heap.size 4 A1 n (recs partV l)) (h2 : Reads w w.heap.size 4 A2 n (recs partV l)) (hn : n ≤ 4611686018427387903) :
    Calls Try.prog 13 #[.slice A1 n c1, .slice A2 n c2] w (NewPost (.bool true) w) := by
  have H1 := Lib.hid h1
  have H2 := Lib.hid h2
  clear h1 h2
  go_enter Try.func13, Try.ntmps13
  go_wp2_with fail
  go_loopw [5] (fun i wr => ∃ k : Nat, k ≤ n ∧ i = .int .i64 (k : Int) ∧ New w wr) (fun i _ => n - (intOf i).toNat)
  case atStart => exact ⟨0, Nat.zero_le _, rfl, New.refl _⟩
  case round =>
    obtain ⟨k, hk, rfl, b⟩ := hrel
    by_cases hlt : k < n
    · obtain ⟨a1, rfl, -, -⟩ := read_part4 (Reads.later H1.out b) hlt
      obtain ⟨a2, rfl, -, -⟩ := read_part4 (Reads.later H2.out b) hlt
      have F1 := Lib.hid (fun (W : World) (hW : New w W) => show W.cell? (a1.add (k * 4)) = some (.int .i64 (l.getD k partZ).1) ∧ W.cell? ⟨(a1.add (k * 4)).block, (a1.add (k * 4)).off + 1, none⟩ = some (.int .i64 (l.getD k partZ).2.1) ∧ W.cell? ⟨(a1.add (k * 4)).block, (a1.add (k * 4)).off + 2, none⟩ = some (.int .i64 (l.getD k partZ).2.2.1) ∧ W.cell? ⟨(a1.add (k * 4)).block, (a1.add (k * 4)).off + 3, none⟩ = some (.int .i64 (l.getD k partZ).2.2.2) from by
        obtain ⟨a', e, _, f⟩ := read_part4 (Reads.later H1.out hW) hlt
        injection e with e
        subst e
        exact f)
      have F2 := Lib.hid (fun (W : World) (hW : New w W) => show W.cell? (a2.add (k * 4)) = some (.int .i64 (l.getD k partZ).1) ∧ W.cell? ⟨(a2.add (k * 4)).block, (a2.add (k * 4)).off + 1, none⟩ = some (.int .i64 (l.getD k partZ).2.1) ∧ W.cell? ⟨(a2.add (k * 4)).block, (a2.add (k * 4)).off + 2, none⟩ = some (.int .i64 (l.getD k partZ).2.2.1) ∧ W.cell? ⟨(a2.add (k * 4)).block, (a2.add (k * 4)).off + 3, none⟩ = some (.int .i64 (l.getD k partZ).2.2.2) from by
        obtain ⟨a', e, _, f⟩ := read_part4 (Reads.later H2.out hW) hlt
        injection e with e
        subst e
        exact f)
      generalize l.getD k partZ = p at *
      obtain ⟨g, c, x, y⟩ := p
      dsimp only at F1 F2
      have hki : (k : Int) < (n : Int) := by omega
      go_wp2_with fail
      refine wp_region_up New [(true, 0), (true, 1), (true, 2), (true, 3), (true, 4), (true, 5), (true, 6), (true, 7), (true, 8)]
        New.refl New.trans (by kernel_rfl) (by kernel_rfl) (by kernel_rfl) (by kernel_rfl) ?_
      have hU := New.drew wr
      repeat (first
        | (refine up_quiet rfl rfl (v := ?_) (fun W hQ => ?_) ?_; rotate_left; (obtain ⟨x0, x1, x2, x3⟩ := F1.out W (New.trans b (New.trans hU hQ)); obtain ⟨y0, y1, y2, y3⟩ := F2.out W (New.trans b (New.trans hU hQ)); go_simp <;> with_reducible rfl); simp only [Act.put, List.setIfInBounds_toArray, List.set_cons_zero, List.set_cons_succ]))
      refine up_nil ?_
      have b8 := New.trans b hU
      clear F1 F2 hU
      go_wp2_with fail
      go_roundw
      case rel => exact ⟨k + 1, by omega, by go_num, b8⟩
      case measure => simp [intOf]; omega
    · obtain rfl : k = n := by omega
      go_wp2_with fail
      go_ret
      exact ⟨rfl, b⟩

end Go.Proofs.Ythmjbdpkdomofaa
