/- Texts merged, for a claim has at most 60 files: TagK, TagH, TagE, TagG, TagR, Pairs, Row, UpR, TagL, Arr, TagT, TagU, Lays, RefC. -/
import Derived.ChangeKeysEq
import Derived.Deep.Fields
import Derived.Deep.Slices
import Derived.DeepKeys
import Derived.DeepKeys4
import Derived.Laws.StructEq
import Derived.Maps.Own
import Derived.Maps.OwnOps
import Derived.Maps.Views
import Derived.OpenShut
import Derived.Test.YtgfemjpeegbhhaaDoorBun1
import Derived.Test.YtgfemjpeegbhhaaDoorBun2
import Derived.Test.YtgfemjpeegbhhaaDoorBun3
import Derived.Test.YtgfemjpeegbhhaaDoorBun4
import Derived.WideKeyArr
/- Maps keyed by digests, of pairs of places: laws for the walk. No program is named here. -/

namespace Go.Hm
open Go Go.RowKit Go.Maps
abbrev DW := DataW Unit
def pairV (p : Int × Int) : Value := .agg #[.int .i64 p.1, .int .i64 p.2]
def pairD (p : Int × Int) : DW := .agg [.lit (.int .i64 p.1), .lit (.int .i64 p.2)]
def pairR : Value → Option (DW × List MemPlace)
  | .agg ⟨[.int .i64 a, .int .i64 b]⟩ => some (pairD (a, b), [])
  | _ => none
theorem pairR_mk (p : Int × Int) : pairR (pairV p) = some (pairD p, []) := rfl
theorem pairR_inv {v : Value} {z : DW × List MemPlace} (h : pairR v = some z) : ∃ p, v = pairV p ∧ z = (pairD p, []) := by
  unfold pairR at h
  split at h
  · rename_i a b
    exact ⟨(a, b), rfl, (Option.some.inj h).symm⟩
  · cases h
theorem pairD_inj {p q : Int × Int} (h : pairD p = pairD q) : p = q := by
  simp only [pairD, DataW.agg.injEq, List.cons.injEq, DataW.lit.injEq, Lit.int.injEq, true_and, and_true] at h
  exact Prod.ext h.1 h.2
/-- A digest as a key. -/
def digV (l : List Int) : Value := .agg (ints .u8 l).toArray
theorem digV_inj {l m : List Int} (h : digV l = digV m) : l = m := by
  simp only [digV, Value.agg.injEq, Array.mk.injEq, ints] at h
  exact (List.map_inj_right (f := Value.int .u8) (by simp)).1 h
def DigOk (l : List Int) : Prop := l.length = 32 ∧ ∀ x ∈ l, 0 ≤ x ∧ x < 256
theorem mapM_some {α β : Type} {f : α → Option β} {g : α → β} {L : List α} (h : ∀ x ∈ L, f x = some (g x)) : L.mapM f = some (L.map g) := by
  induction L with
  | nil => rfl
  | cons x L ih => rw [List.mapM_cons, h x (by simp), ih fun y hy => h y (by simp [hy])]; rfl

section
variable {P : Program} {k e u : TypeId}
theorem key_dig (A : WideMaps.ArrKey P k u 32) (hu : P.underlying u = some (.int .u8)) (hc : P.cellsOf u = 1) (hk : P.cellsOf k = 32) (hsz : ∃ m, P.types.size = m + 1) {l : List Int} (h : DigOk l) : ∃ kl, keyOf P k (digV l) = some kl := by
  have hT := A.keyType hsz
  obtain ⟨m, hm⟩ := hsz
  have hlen : (ints .u8 l).length = 32 := by simp [ints, h.1]
  have hf : (digV l).formed P k = true := by
    simp [digV, Value.formed, A.hu, hk, hlen]
  have hl : P.keyLits (P.types.size + 1) k (digV l).cells.toList = some ((List.range 32).map fun i => [Lit.int .u8 (l.getD i 0)]).flatten := by
    have hcs : (digV l).cells.toList = ints .u8 l := by simp [digV, Value.cells]
    rw [hcs, hm]
    unfold Program.keyLits
    simp only [A.hu, hlen, hk, if_true]
    rw [mapM_some (g := fun i => [Lit.int .u8 (l.getD i 0)])]
    · rfl
    · intro i hi
      have hi := List.mem_range.1 hi
      have hil : i < l.length := by rw [h.1]; exact hi
      rw [hc, Nat.mul_one]
      have h1 : ((ints .u8 l).drop i).take 1 = [.int .u8 (l.getD i 0)] := by
        rw [List.drop_eq_getElem_cons (by omega)]
        simp [ints, List.getD_eq_getElem?_getD, hil]
      have hx := h.2 (l.getD i 0) (by rw [List.getD_eq_getElem?_getD, List.getElem?_eq_getElem hil]; exact List.getElem_mem _)
      rw [h1]
      generalize l.getD i 0 = x at *
      have hw : (Lit.int .u8 x).wf = true := by
        simp [Lit.wf, IntKind.min, IntKind.max, IntKind.signed, IntKind.bits]
        omega
      unfold Program.keyLits
      simp [hu, hw]
  unfold keyOf
  rw [A.hu]
  simp only [hT, hf, hl]
  exact ⟨_, rfl⟩
/-- A map of the call's own reads as a function. -/
def MapF (P : Program) (k : TypeId) (w : World) (b n : Nat) (f : List Int → Option (Int × Int)) : Prop :=
  ∃ D : DW, w.ownsMap P k pairR b n D ∧ IsMap D ∧ ∀ l kl, keyOf P k (digV l) = some kl → ∀ zd, D.atKey kl zd = ((f l).map pairD).getD zd
theorem MapF.made (w : World) : MapF P k (w.alloc (.map #[] 0)) w.heap.size 0 fun _ => none :=
  ⟨.map [], World.ownsMap_made _ _ _ _, isMap_empty, fun _ _ _ _ => rfl⟩
variable {w : World} {b n : Nat} {f : List Int → Option (Int × Int)}
theorem MapF.kept {w' : World} {row : Option Nat} (h : MapF P k w b n f) (hg : w.grownBy w' row) (hne : some b ≠ row) : MapF P k w' b n f := by
  obtain ⟨D, h1, h2, h3⟩ := h
  exact ⟨D, h1.kept hg hne, h2, h3⟩
theorem MapF.lt (h : MapF P k w b n f) : b < w.heap.size := by
  obtain ⟨D, h1, _⟩ := h
  exact h1.lt
theorem MapF.look {t : TypeId} (h : MapF P k w b n f) (K : Keyed P k) (ht : P.underlying t = some (.map k e)) (hz : (zeroValue e).run P w = .ok (pairV (0, 0)) w) {l : List Int} (hkey : ∃ kl, keyOf P k (digV l) = some kl) :
    (Instr.lookup t (.map (some b)) (digV l) true).run P w = .ok (.tuple #[pairV ((f l).getD (0, 0)), .bool (f l).isSome]) w := by
  obtain ⟨D, ⟨es, clock, hb, F, _, rfl⟩, h2, h3⟩ := h
  obtain ⟨kl, hkey⟩ := hkey
  have h4 := h3 l kl hkey
  rcases fit_look true K ht hz hb F hkey with ⟨hrun, _, hat⟩ | ⟨e0, y, _, _, hrun, hRv, hat, _⟩
  · cases hf : f l with
    | none => exact hrun
    | some p =>
      rw [hf] at h4
      have h5 := (hat .nil).symm.trans (h4 .nil)
      cases h5
  · obtain ⟨p, hp, rfl⟩ := pairR_inv hRv
    rw [hp] at hrun
    cases hf : f l with
    | none =>
      rw [hf] at h4
      have h5 := (hat .nil).symm.trans (h4 .nil)
      cases h5
    | some q =>
      rw [hf] at h4
      have h5 : pairD p = pairD q := (hat .nil).symm.trans (h4 .nil)
      rw [pairD_inj h5] at hrun
      exact hrun
theorem MapF.put {t : TypeId} (h : MapF P k w b n f) (K : Keyed P k) (ht : P.underlying t = some (.map k e)) (hn : n < maxLen) {l : List Int} (hkey : ∃ kl, keyOf P k (digV l) = some kl) (p : Int × Int) :
    ∃ w', (Instr.mapUpdate t (.map (some b)) (digV l) (pairV p)).run P w = .ok () w' ∧ MapF P k w' b (n + 1) (fun m => if m = l then some p else f m) ∧ w.grownBy w' (some b) := by
  obtain ⟨D, h1, h2, h3⟩ := h
  obtain ⟨kl, hkey⟩ := hkey
  obtain ⟨w', hrun, ho, hg⟩ := h1.update K ht hn hkey (pairR_mk p)
  refine ⟨w', hrun, ⟨_, ho, h2.put _ _, fun m km hm zd => ?_⟩, hg⟩
  by_cases he : m = l
  · subst he
    rw [hm] at hkey
    obtain rfl := Option.some.inj hkey
    show _ = ((if m = m then some p else f m).map pairD).getD zd
    rw [if_pos rfl, atKey_put_same h2 (K.key hm)]
    rfl
  · show _ = ((if m = l then some p else f m).map pairD).getD zd
    rw [if_neg he, atKey_put_other, h3 m km hm]
    intro hk
    subst hk
    exact he (digV_inj (K.inj hm hkey))
theorem wpList_lookF {ops : Array Oper} {rest : List Oper} {o : Oper} {a : Act} {Q : Exit → Act → World → Prop} (hg : o.guard = none) (m x : Operand) (t : TypeId) (hop : o.op = Op.lookup t m x true)
    (K : Keyed P k) (ht : P.underlying t = some (.map k e)) (hz : (zeroValue e).run P w = .ok (pairV (0, 0)) w) (hown : MapF P k w b n f) {l : List Int} (hkey : ∃ kl, keyOf P k (digV l) = some kl) (hm : a.eval m = .map (some b)) (hx : a.eval x = digV l)
    (h : wpList P ops Q rest (a.put o.dst (.tuple #[pairV ((f l).getD (0, 0)), .bool (f l).isSome])) w) : wpList P ops Q (o :: rest) a w := by
  refine wpList_plain hg fun K' hK' => ?_
  have hrun := hown.look K ht hz hkey
  unfold Oper.wp
  simp [execOp, hop, hm, hx, hrun, Result.andThen]
  exact hK' _ _ h
theorem wpList_putF {ops : Array Oper} {rest : List Oper} {o : Oper} {a : Act} {Q : Exit → Act → World → Prop} (hg : o.guard = none) (m x v : Operand) (t : TypeId) (hop : o.op = Op.mapUpdate t m x v)
    (K : Keyed P k) (ht : P.underlying t = some (.map k e)) (hown : MapF P k w b n f) (hn : n < maxLen) {l : List Int} (hkey : ∃ kl, keyOf P k (digV l) = some kl) (p : Int × Int)
    (hm : a.eval m = .map (some b)) (hx : a.eval x = digV l) (hv : a.eval v = pairV p)
    (h : ∀ w', MapF P k w' b (n + 1) (fun m => if m = l then some p else f m) → w.grownBy w' (some b) → wpList P ops Q rest (a.put o.dst undef) w') : wpList P ops Q (o :: rest) a w := by
  refine wpList_plain hg fun K' hK' => ?_
  obtain ⟨w', hrun, r1, r2⟩ := hown.put K ht hn hkey p
  unfold Oper.wp
  simp [execOp, hop, hm, hx, hv, hrun, Result.andThen]
  exact hK' _ _ (h w' r1 r2)
end

end Go.Hm
/- Contracts on tag.Hash, hypostyleref02.Hash, tag.New. -/

namespace Go.Proofs.YtgfemjpeegbhhaaDoor
open Go.RowKit Go.Hm
theorem sumI_len2 (l : List Nat) : (sumI l).length = 32 := digI_len _
theorem frameO_len {s : List Nat} {L : List (List Nat)} {f : List Nat} (h : frameO s L = some f) (ht : tsum L ≤ 990000) : f.length ≤ 1000000 := by
  unfold frameO at h
  split at h
  · rename_i hc
    obtain rfl := Option.some.inj h
    rw [frameL_len]
    unfold tsum at ht
    omega
  · cases h
set_option maxHeartbeats 1000000 in
set_option maxRecDepth 100000 in
theorem hash_any {w : World} {s : List Nat} {A : Option Addr} {n c : Nat} {D : List PartS} (h : RowsAt w A n c D) (hn : n ≤ 9223372036854775806) (hs8 : ∀ x ∈ s, x < 256) (hs : s.length ≤ 140737488351232) (ht : tsum (bytesOf D) ≤ 990000) (hD8 : ∀ p ∈ bytesOf D, ∀ x ∈ p, x < 256) (hC : ConstIn w) :
    Calls Tryd.prog 35 #[.string (bstr s), .slice A n c] w (NewPost (digV (hashO s (bytesOf D))) w) := by
  have c0 : New w (w.alloc (.cells (ints .u8 zero32).toArray 32)) := (Below.refl _ _).alloc (Nat.le_refl _) _
  have FR := Lib.hid (frame_any (h.later c0) hn hs8 hs (by omega))
  have HC := Lib.hid hC
  have G0 := Lib.hid (Blk.new w 32 (ints .u8 zero32).toArray)
  have HO : hashO s (bytesOf D) = hashO s (bytesOf D) := rfl
  conv at HO => rhs; unfold hashO
  replace HO := Lib.hid HO
  have HF8 := Lib.hid (fun f (hf : frameO s (bytesOf D) = some f) => And.intro (frameO_lt hs8 hD8 hf) (frameO_len hf ht))
  generalize frameO s (bytesOf D) = o at *
  generalize hashO s (bytesOf D) = ho at *
  obtain ⟨W0, hW0⟩ : ∃ W, W = w.alloc (.cells (ints .u8 zero32).toArray 32) := ⟨_, rfl⟩
  rw [← hW0] at FR c0 G0
  have HW := Lib.hid hW0
  have C0 := Lib.hid c0
  clear h hs8 hs ht hD8 hC hW0 c0
  go_enter Tryd.func35, Tryd.ntmps35
  go_wp2_with fail
  have F := FR.out
  rw [HW.out] at F
  refine F.mono ?_
  rintro e w1 hf
  obtain ⟨A1, n1, c1, rfl, o1, b1⟩ := hf.u
  have b1 : New W0 w1 := by rw [HW.out]; exact b1
  have o1 : Own w1 W0.heap.size 5 (.slice A1 n1 c1) (nums .u8 (o.getD [])) := by rw [HW.out]; exact o1
  have G1 := Lib.hid (G0.out.below b1 G0.out.lt)
  have B1 := Lib.hid (New.trans C0.out b1)
  clear F FR hf HW C0 G0
  cases o with
  | none =>
    have hh : ho = zero32 := by rw [HO.out]; rfl
    subst hh
    have H := Lib.hid (And.intro (row_of_blk G1.out) (And.intro (i32d (l := zero32) (by simp [zero32])) (And.intro (ints_one .u8 zero32) (blk_setRow G1.out (ints .u8 zero32).toArray))))
    have BE := Lib.hid (New.far B1.out (far_setRow (g := w.heap.size) w1 (ints .u8 zero32).toArray) (Nat.le_refl _))
    clear G1 B1 b1 o1 HO
    go_wp2_with (refine wpList_store_row rfl 32 (.tmp 4) (.tmp 15) rfl w.heap.size (ints .u8 zero32).toArray rfl rfl _ _ H.out.1 H.out.2.1 rfl H.out.2.2.1 ?_)
    exact bodyPost_ret (results_cell_row rfl _ _ w.heap.size _ (ints .u8 zero32).toArray (0, 0) _ rfl H.out.2.2.2 digarr rfl H.out.2.1) rfl ⟨rfl, BE.out⟩
  | some f =>
    have hh : ho = sumI f := by rw [HO.out, Option.map_some, Option.getD_some]
    subst hh
    obtain ⟨f8, fl⟩ := HF8.out f rfl
    obtain rfl : n1 = f.length := by have := o1.len; rwa [nums_length] at this
    have SU := Lib.hid (sum_any (l := f) (c := c1) o1.reads f8 o1.cap.1 (by omega) (HC.out.new B1.out))
    clear o1 b1 HO HF8 HC
    go_wp2_with fail
    (with_reducible refine SU.out.mono ?_)
    rintro e w2 ⟨rfl, b2⟩
    have G2 := G1.out.below b2 G1.out.lt
    have B2 := New.trans B1.out b2
    have hz : (ints .u8 zero32).toArray.size = (ints .u8 (sumI f)).toArray.size := by simp [ints, zero32, sumI_len2]
    have H := Lib.hid (And.intro (row_of_blk G2) (And.intro (i32d (sumI_len2 f)) (And.intro hz (And.intro (ints_one .u8 (sumI f)) (blk_setRow G2 (ints .u8 (sumI f)).toArray)))))
    have BE := Lib.hid (New.far B2 (far_setRow (g := w.heap.size) w2 (ints .u8 (sumI f)).toArray) (Nat.le_refl _))
    obtain ⟨cs, hcs⟩ : ∃ cs, cs = (ints .u8 (sumI f)).toArray := ⟨_, rfl⟩
    have hdv : digV (sumI f) = .agg cs := by rw [hcs]; rfl
    have HV := Lib.hid hdv
    rw [← hcs] at H BE ⊢
    clear hcs hdv
    clear G1 B1 G2 B2 b2 SU hz
    go_wp2_with (refine wpList_store_row rfl 32 (.tmp 4) (.tmp 17) rfl w.heap.size cs rfl rfl _ _ H.out.1 H.out.2.1 H.out.2.2.1 H.out.2.2.2.1 ?_)
    rw [HV.out]
    exact bodyPost_ret (results_cell_row rfl _ _ w.heap.size _ cs (0, 0) _ rfl H.out.2.2.2.2 digarr rfl H.out.2.1) rfl ⟨rfl, BE.out⟩
set_option maxHeartbeats 1000000 in
set_option maxRecDepth 100000 in
theorem rhash_any {w : World} {s : List Nat} {A : Option Addr} {n c : Nat} {D : List PartS} (h : RowsAt w A n c D) (hn : n ≤ 9223372036854775806) (hs8 : ∀ x ∈ s, x < 256) (hs : s.length ≤ 140737488351232) (ht : tsum (bytesOf D) ≤ 990000) (hD8 : ∀ p ∈ bytesOf D, ∀ x ∈ p, x < 256) :
    Calls Tryd.prog 60 #[.string (bstr s), .slice A n c] w (NewPost (digV (hashO s (bytesOf D))) w) := by
  have c0 : New w (w.alloc (.cells (ints .u8 zero32).toArray 32)) := (Below.refl _ _).alloc (Nat.le_refl _) _
  have FR := Lib.hid (rframe_any (h.later c0) hn hs8 hs (by omega))
  have G0 := Lib.hid (Blk.new w 32 (ints .u8 zero32).toArray)
  have HO : hashO s (bytesOf D) = hashO s (bytesOf D) := rfl
  conv at HO => rhs; unfold hashO
  replace HO := Lib.hid HO
  have HF8 := Lib.hid (fun f (hf : frameO s (bytesOf D) = some f) => And.intro (frameO_lt hs8 hD8 hf) (frameO_len hf ht))
  generalize frameO s (bytesOf D) = o at *
  generalize hashO s (bytesOf D) = ho at *
  obtain ⟨W0, hW0⟩ : ∃ W, W = w.alloc (.cells (ints .u8 zero32).toArray 32) := ⟨_, rfl⟩
  rw [← hW0] at FR c0 G0
  have HW := Lib.hid hW0
  have C0 := Lib.hid c0
  clear h hs8 hs ht hD8 hW0 c0
  go_enter Tryd.func60, Tryd.ntmps60
  go_wp2_with fail
  have F := FR.out
  rw [HW.out] at F
  refine F.mono ?_
  rintro e w1 hf
  obtain ⟨A1, n1, c1, rfl, o1, b1⟩ := hf.u
  have b1 : New W0 w1 := by rw [HW.out]; exact b1
  have o1 : Own w1 W0.heap.size 5 (.slice A1 n1 c1) (nums .u8 (o.getD [])) := by rw [HW.out]; exact o1
  have G1 := Lib.hid (G0.out.below b1 G0.out.lt)
  have B1 := Lib.hid (New.trans C0.out b1)
  clear F FR hf HW C0 G0
  cases o with
  | none =>
    have hh : ho = zero32 := by rw [HO.out]; rfl
    subst hh
    have H := Lib.hid (And.intro (row_of_blk G1.out) (And.intro (i32d (l := zero32) (by simp [zero32])) (And.intro (ints_one .u8 zero32) (blk_setRow G1.out (ints .u8 zero32).toArray))))
    have BE := Lib.hid (New.far B1.out (far_setRow (g := w.heap.size) w1 (ints .u8 zero32).toArray) (Nat.le_refl _))
    clear G1 B1 b1 o1 HO
    go_wp2_with (refine wpList_store_row rfl 32 (.tmp 4) (.tmp 15) rfl w.heap.size (ints .u8 zero32).toArray rfl rfl _ _ H.out.1 H.out.2.1 rfl H.out.2.2.1 ?_)
    exact bodyPost_ret (results_cell_row rfl _ _ w.heap.size _ (ints .u8 zero32).toArray (0, 0) _ rfl H.out.2.2.2 digarr rfl H.out.2.1) rfl ⟨rfl, BE.out⟩
  | some f =>
    have hh : ho = sumI f := by rw [HO.out, Option.map_some, Option.getD_some]
    subst hh
    obtain ⟨f8, fl⟩ := HF8.out f rfl
    obtain rfl : n1 = f.length := by have := o1.len; rwa [nums_length] at this
    have SU := Lib.hid (rsum_any (l := f) (c := c1) o1.reads f8 (by omega))
    clear o1 b1 HO HF8
    go_wp2_with fail
    (with_reducible refine SU.out.mono ?_)
    rintro e w2 ⟨rfl, b2⟩
    have G2 := G1.out.below b2 G1.out.lt
    have B2 := New.trans B1.out b2
    have hz : (ints .u8 zero32).toArray.size = (ints .u8 (sumI f)).toArray.size := by simp [ints, zero32, sumI_len2]
    have H := Lib.hid (And.intro (row_of_blk G2) (And.intro (i32d (sumI_len2 f)) (And.intro hz (And.intro (ints_one .u8 (sumI f)) (blk_setRow G2 (ints .u8 (sumI f)).toArray)))))
    have BE := Lib.hid (New.far B2 (far_setRow (g := w.heap.size) w2 (ints .u8 (sumI f)).toArray) (Nat.le_refl _))
    obtain ⟨cs, hcs⟩ : ∃ cs, cs = (ints .u8 (sumI f)).toArray := ⟨_, rfl⟩
    have hdv : digV (sumI f) = .agg cs := by rw [hcs]; rfl
    have HV := Lib.hid hdv
    rw [← hcs] at H BE ⊢
    clear hcs hdv
    clear G1 B1 G2 B2 b2 SU hz
    go_wp2_with (refine wpList_store_row rfl 32 (.tmp 4) (.tmp 17) rfl w.heap.size cs rfl rfl _ _ H.out.1 H.out.2.1 H.out.2.2.1 H.out.2.2.2.1 ?_)
    rw [HV.out]
    exact bodyPost_ret (results_cell_row rfl _ _ w.heap.size _ cs (0, 0) _ rfl H.out.2.2.2.2 digarr rfl H.out.2.1) rfl ⟨rfl, BE.out⟩
/-- A log of nothing. -/
theorem new_any {w : World} : Calls Tryd.prog 14 #[] w fun e w' => e = .returned (.pointer (some ⟨w.heap.size, 0, none⟩)) ∧ w' = w.alloc (.cells #[.slice none 0 0] 62) := by
  go_enter Tryd.func14, Tryd.ntmps14
  go_wp2
  go_ret
  exact ⟨rfl, rfl⟩

end Go.Proofs.YtgfemjpeegbhhaaDoor
/- Contracts on bytes.Equal, tag.pairs. -/

namespace Go.Proofs.YtgfemjpeegbhhaaDoor
open Go.RowKit Go.Hm
theorem arrK : WideMaps.ArrKey Tryd.prog 32 5 32 := ⟨by kernel_rfl, by kernel_rfl, by kernel_rfl, by kernel_rfl⟩
theorem rowK : (32 : TypeId) < Tryd.prog.types.size := of_decide_eq_true (by kernel_rfl)
theorem keyedK : Maps.Keyed Tryd.prog 32 := Maps.Keyed.of_law (deep_law_laid Tryd.laidOut (m := 2) (by omega) rowK (by kernel_rfl) (by kernel_rfl))
theorem sizeK : ∃ m, Tryd.prog.types.size = m + 1 := ⟨Tryd.prog.types.size - 1, by have := Nat.lt_of_le_of_lt (Nat.zero_le _) rowK; omega⟩
theorem digOk (l : List Nat) : DigOk (sumI l) := by
  refine ⟨sumI_len2 l, fun x hx => ?_⟩
  unfold sumI digI at hx
  obtain ⟨k, _, rfl⟩ := List.mem_map.1 hx
  unfold digB
  omega
theorem keyAt (l : List Nat) : ∃ kl, keyOf Tryd.prog 32 (digV (sumI l)) = some kl := key_dig arrK (by kernel_rfl) (by kernel_rfl) (by kernel_rfl) sizeK (digOk l)
theorem mapT : Tryd.prog.underlying 86 = some (.map 32 89) := by kernel_rfl
theorem zeroPair (w : World) : (zeroValue 89).run Tryd.prog w = .ok (pairV (0, 0)) w := by kernel_rfl
theorem equal_any {w : World} {A B : Option Addr} {n m c e : Nat} {l k : List Nat} (h : Reads w w.heap.size 1 A n (nums .u8 l)) (hk : Reads w w.heap.size 1 B m (nums .u8 k)) (h8 : ∀ x ∈ l, x < 256) (k8 : ∀ x ∈ k, x < 256) :
    Calls Tryd.prog 64 #[.slice A n c, .slice B m e] w (ValPost (.bool (decide (l = k))) w) := by
  have BB := Lib.hid (bstr_beq h8 k8)
  have q1 := run_strB (c := c) h
  have q2 := run_strB (c := e) hk
  clear h8 k8 h hk
  go_enter Tryd.func64, Tryd.ntmps64
  go_wp2
  go_ret
  exact ⟨by simp [BB.out], rfl⟩

end Go.Proofs.YtgfemjpeegbhhaaDoor
/- Contract on tag.pairs. -/

namespace Go.Hm
open Go Go.RowKit
theorem MapF.mono {P : Program} {k : TypeId} {w : World} {b n m : Nat} {f : List Int → Option (Int × Int)} (h : MapF P k w b n f) (hn : n ≤ m) : MapF P k w b m f := by
  obtain ⟨D, h1, h2⟩ := h
  exact ⟨D, h1.mono hn, h2⟩
theorem MapF.new {P : Program} {k : TypeId} {w w' : World} {b n : Nat} {f : List Int → Option (Int × Int)} (h : MapF P k w b n f) (hb : New w w') : MapF P k w' b n f :=
  h.kept (row := none) ⟨hb.os, hb.tape, hb.output, hb.size, fun j hj _ => hb.block j hj⟩ (by simp)

end Go.Hm

namespace Go.Proofs.YtgfemjpeegbhhaaDoor
open Go.RowKit Go.Hm
theorem run_mkMap (W : World) (n : Int) : (Instr.makeMap 86 (some (.int .i64 n))).run Tryd.prog W = .ok (.map (some W.heap.size)) (W.alloc (.map #[] 0)) := by
  simp [Instr.makeMap, run_underlying mapT, asInt, asIntOf, Result.andThen]
set_option maxHeartbeats 2000000 in
set_option maxRecDepth 100000 in
theorem pairs_any {w : World} {A : Option Addr} {n c : Nat} {D : List PartS} (h : RowsAt w A n c D) (hn : n ≤ 9223372036854775806) (h8 : ∀ p ∈ bytesOf D, (∀ x ∈ p, x < 256) ∧ p.length ≤ 1000000) (hC : ConstIn w) :
    Calls Tryd.prog 63 #[.slice A n c, .func (.func 28) #[] #[]] w fun e w' => e = .returned (.map (some w.heap.size)) ∧ MapF Tryd.prog 32 w' w.heap.size n (pairsF (bytesOf D) D.length) ∧ New w w' := by
  obtain rfl := h.len
  have HR := Lib.hid h
  have H8 := Lib.hid h8
  have HC := Lib.hid hC
  have HB := Lib.hid (bytesOf_len D)
  have hmm := run_mkMap
  have b0 : New w (w.alloc (.map #[] 0)) := (Below.refl _ _).alloc (Nat.le_refl _) _
  have M0 : Hid (MapF Tryd.prog 32 (w.alloc (.map #[] 0)) w.heap.size 0 (pairsF (bytesOf D) 0)) := Lib.hid (MapF.made w)
  have B0 := Lib.hid b0
  clear h h8 hC b0
  go_enter Tryd.func63, Tryd.ntmps63
  go_wp2
  go_loopw [16] (fun i wr => ∃ k : Nat, k ≤ D.length ∧ i = .int .i64 (k : Int) ∧ Hid (MapF Tryd.prog 32 wr w.heap.size k (pairsF (bytesOf D) k)) ∧ Hid (New w wr)) (fun i _ => D.length - (intOf i).toNat)
  case atStart => exact ⟨0, by omega, rfl, M0, B0⟩
  case round =>
    clear M0 B0
    obtain ⟨k, hk, rfl, M, b⟩ := hrel
    by_cases hlt : k < D.length
    · obtain ⟨ad, rfl, _⟩ := HR.out.at_ hlt
      have hc := HR.out.cells hlt wr b.out
      have RD := ((HR.out.later b.out).parts.at_ hlt)
      have e1 := bytesOf_at D k
      have g1 := H8.out _ (mem_getD (L := bytesOf D) (k := k) (by rw [HB.out]; exact hlt))
      rw [e1] at g1
      have HE1 := Lib.hid e1
      generalize D.getD k (none, 0, []) = d at *
      have SU := Lib.hid (sum_any (c := d.2.1) RD.1 g1.1 RD.2.1 g1.2 (HC.out.new b.out))
      go_wp2_with fail
      refine SU.out.mono ?_
      rintro e w1 ⟨rfl, b1⟩
      have M1 := M.out.new b1
      obtain ⟨cs, hcs⟩ : ∃ cs, cs = (ints .u8 (sumI d.2.2)).toArray := ⟨_, rfl⟩
      have hz : (ints .u8 zero32).toArray.size = cs.size := by rw [hcs]; simp [ints, zero32, sumI_len2]
      have hi : (Tryd.prog.info? 32).map (·.size) = some cs.size := by rw [hcs]; exact i32d (sumI_len2 _)
      have ho := ints_one .u8 (sumI d.2.2)
      rw [← hcs] at ho ⊢
      have HD := Lib.hid (show .agg cs = digV (sumI d.2.2) by rw [hcs]; rfl)
      have M2 := Lib.hid (M1.new (w' := (w1.alloc (.cells cs 32))) ((Below.refl _ _).alloc (Nat.le_refl _) _))
      have G2 := Lib.hid (row_of_blk (Blk.new w1 32 cs))
      have KY := Lib.hid (keyAt d.2.2)
      have RDD := Lib.hid RD.1
      have G8 := Lib.hid g1.1
      clear hcs M1 RD e1
      have hPF : ∀ m, pairsF (bytesOf D) (k + 1) m = if m = sumI d.2.2 then (match pairsF (bytesOf D) k m with | none => some ((k : Int), -1) | some p => if p.2 = -1 ∧ (bytesOf D).getD p.1.toNat [] ≠ d.2.2 then some (p.1, (k : Int)) else some p) else pairsF (bytesOf D) k m := fun m => by
        rw [pairsF, HE1.out]
        all_goals
          by_cases hm : m = sumI d.2.2
          · rw [if_pos hm, if_pos hm]
            cases pairsF (bytesOf D) k m <;> rfl
          · rw [if_neg hm, if_neg hm]
      cases hf : pairsF (bytesOf D) k (sumI d.2.2) with
      | none =>
        have HF := Lib.hid hf
        have HP := Lib.hid (show (fun m => if m = sumI d.2.2 then some ((k : Int), (-1 : Int)) else pairsF (bytesOf D) k m) = pairsF (bytesOf D) (k + 1) from funext fun m => by
          rw [hPF]
          by_cases hm : m = sumI d.2.2
          · rw [if_pos hm, if_pos hm, hm, hf]
          · rw [if_neg hm, if_neg hm])
        have c3 : New (w1.alloc (.cells cs 32)) ((w1.alloc (.cells cs 32)).alloc (.cells #[.int .i64 0, .int .i64 0] 89)) := (Below.refl _ _).alloc (Nat.le_refl _) _
        have M3 := Lib.hid (M2.out.new c3)
        have G3 := Lib.hid (row_of_blk ((Blk.new w1 32 cs).alloc (.cells #[.int .i64 0, .int .i64 0] 89)))
        have B3 := Lib.hid (New.trans (New.trans b.out b1) (New.trans ((Below.refl _ _).alloc (Nat.le_refl _) (.cells cs 32)) c3))
        clear hf hPF c3 b1
        go_wp2_with (first
          | (refine wpList_store_row rfl 32 (.tmp 8) (.tmp 23) rfl w1.heap.size cs rfl rfl _ _ (heap_alloc_new _ _) hi hz ho ?_; rw [alloc_setRow])
          | (refine wpList_load_row rfl 32 (.tmp 8) rfl w1.heap.size rfl _ cs _ _ G2.out digarr rfl hi ?_)
          | (refine wpList_load_row rfl 32 (.tmp 8) rfl w1.heap.size rfl _ cs _ _ G3.out digarr rfl hi ?_)
          | (rw [HD.out]; refine wpList_lookF rfl (.tmp 25) (.tmp 26) 86 rfl keyedK mapT (zeroPair _) M2.out KY.out rfl rfl ?_; rw [HF.out]; simp only [pairV, Option.getD_none, Option.isSome_none])
          | (rw [HD.out]; refine wpList_putF rfl (.tmp 32) (.tmp 33) (.tmp 35) 86 rfl keyedK mapT M3.out (by simp only [maxLen]; omega) KY.out ((k : Int), -1) rfl rfl rfl ?_
             intro w4 M4 g4)
          | fail)
        rw [HP.out] at M4
        have M5 := Lib.hid M4
        have B5 := Lib.hid (below_gr B3.out g4 (Nat.le_refl _) (Nat.le_refl _))
        clear M4 g4
        go_roundw
        case rel => exact ⟨k + 1, by omega, by go_num, M5, B5⟩
        case measure => simp [intOf]; omega
      | some p =>
        have hpi := pairsF_is (bytesOf D) k (sumI d.2.2)
        rw [hf] at hpi
        obtain ⟨a, ha, h1, _⟩ := hpi
        obtain ⟨p1, p2⟩ := p
        obtain rfl : p1 = (a : Int) := h1
        have hal : a < D.length := by omega
        have c3 : New (w1.alloc (.cells cs 32)) ((w1.alloc (.cells cs 32)).alloc (.cells #[.int .i64 (a : Int), .int .i64 p2] 89)) := (Below.refl _ _).alloc (Nat.le_refl _) _
        have M3 := Lib.hid (M2.out.new c3)
        have G3 := Lib.hid (row_of_blk ((Blk.new w1 32 cs).alloc (.cells #[.int .i64 (a : Int), .int .i64 p2] 89)))
        have b3 := New.trans (New.trans b.out b1) (New.trans ((Below.refl _ _).alloc (Nat.le_refl _) (.cells cs 32)) c3)
        have ca := HR.out.cells hal _ b3
        have Ra := ((HR.out.later b3).parts.at_ hal).1
        have Rd := Lib.hid (Reads.later RDD.out (New.trans b1 (New.trans ((Below.refl _ _).alloc (Nat.le_refl _) (.cells cs 32)) c3)))
        have ga := (H8.out _ (mem_getD (L := bytesOf D) (k := a) (by rw [HB.out]; exact hal))).1
        have ea := bytesOf_at D a
        have hPF2 := hPF (sumI d.2.2)
        rw [if_pos rfl, hf] at hPF2
        simp only [Int.toNat_natCast] at hPF2
        rw [ea] at ga hPF2
        generalize D.getD a (none, 0, []) = x at *
        have EQ := Lib.hid (equal_any (c := x.2.1) (e := d.2.1) Ra Rd.out ga G8.out)
        have HF := Lib.hid hf
        have B3 := Lib.hid b3
        by_cases hp2 : p2 = -1
        · skip
          have d1 : (p2 == (-1 : Int)) = true := by rw [beq_iff_eq]; exact hp2
          subst hp2
          by_cases hx : x.2.2 = d.2.2
          · rw [decide_eq_true hx] at EQ
            rw [if_neg (fun h => h.2 hx)] at hPF2
            have HP := Lib.hid (show pairsF (bytesOf D) k = pairsF (bytesOf D) (k + 1) from funext fun m => by
              by_cases hm : m = sumI d.2.2
              · rw [hm, hf, hPF2]
              · rw [hPF, if_neg hm])
            clear hf hPF hPF2 c3 b1 Ra ga ea b3 hx
            go_wp2_with (first
              | (refine wpList_store_row rfl 32 (.tmp 8) (.tmp 23) rfl w1.heap.size cs rfl rfl _ _ (heap_alloc_new _ _) hi hz ho ?_; rw [alloc_setRow])
              | (refine wpList_load_row rfl 32 (.tmp 8) rfl w1.heap.size rfl _ cs _ _ G2.out digarr rfl hi ?_)
              | (refine wpList_load_row rfl 32 (.tmp 8) rfl w1.heap.size rfl _ cs _ _ G3.out digarr rfl hi ?_)
              | (rw [HD.out]; refine wpList_lookF rfl (.tmp 25) (.tmp 26) 86 rfl keyedK mapT (zeroPair _) M2.out KY.out rfl rfl ?_; rw [HF.out]; simp only [pairV, Option.getD_some, Option.isSome_some])
              | (go_at_call 64; (with_reducible refine EQ.out.mono ?_); rintro e5 w5 ⟨rfl, rfl⟩)
              | fail)
            have M5 := Lib.hid (show MapF Tryd.prog 32 _ w.heap.size (k + 1) (pairsF (bytesOf D) (k + 1)) by rw [← HP.out]; exact M3.out.mono (by omega))
            go_roundw
            case rel => exact ⟨k + 1, by omega, by go_num, M5, B3⟩
            case measure => simp [intOf]; omega
          · rw [decide_eq_false hx] at EQ
            rw [if_pos ⟨rfl, hx⟩] at hPF2
            have HP := Lib.hid (show (fun m => if m = sumI d.2.2 then some ((a : Int), (k : Int)) else pairsF (bytesOf D) k m) = pairsF (bytesOf D) (k + 1) from funext fun m => by
              by_cases hm : m = sumI d.2.2
              · rw [if_pos hm, hm, hPF2]
              · rw [hPF, if_neg hm, if_neg hm])
            clear hf hPF hPF2 c3 b1 Ra ga ea b3 hx
            go_wp2_with (first
              | (refine wpList_store_row rfl 32 (.tmp 8) (.tmp 23) rfl w1.heap.size cs rfl rfl _ _ (heap_alloc_new _ _) hi hz ho ?_; rw [alloc_setRow])
              | (refine wpList_load_row rfl 32 (.tmp 8) rfl w1.heap.size rfl _ cs _ _ G2.out digarr rfl hi ?_)
              | (refine wpList_load_row rfl 32 (.tmp 8) rfl w1.heap.size rfl _ cs _ _ G3.out digarr rfl hi ?_)
              | (rw [HD.out]; refine wpList_lookF rfl (.tmp 25) (.tmp 26) 86 rfl keyedK mapT (zeroPair _) M2.out KY.out rfl rfl ?_; rw [HF.out]; simp only [pairV, Option.getD_some, Option.isSome_some])
              | (go_at_call 64; (with_reducible refine EQ.out.mono ?_); rintro e5 w5 ⟨rfl, rfl⟩)
              | (rw [HD.out]; refine wpList_putF rfl (.tmp 49) (.tmp 50) (.tmp 54) 86 rfl keyedK mapT M3.out (by simp only [maxLen]; omega) KY.out ((a : Int), (k : Int)) rfl rfl rfl ?_
                 intro w4 M4 g4)
              | fail)
            rw [HP.out] at M4
            have M5 := Lib.hid M4
            have B5 := Lib.hid (below_gr B3.out g4 (Nat.le_refl _) (Nat.le_refl _))
            clear M4 g4
            go_roundw
            case rel => exact ⟨k + 1, by omega, by go_num, M5, B5⟩
            case measure => simp [intOf]; omega
        · have d1 : (p2 == (-1 : Int)) = false := by rw [beq_eq_false_iff_ne]; exact hp2
          rw [if_neg (fun h => hp2 h.1)] at hPF2
          have HP := Lib.hid (show pairsF (bytesOf D) k = pairsF (bytesOf D) (k + 1) from funext fun m => by
            by_cases hm : m = sumI d.2.2
            · rw [hm, hf, hPF2]
            · rw [hPF, if_neg hm])
          clear hf hPF hPF2 c3 b1 Ra ga ea b3
          go_wp2_with (first
            | (refine wpList_store_row rfl 32 (.tmp 8) (.tmp 23) rfl w1.heap.size cs rfl rfl _ _ (heap_alloc_new _ _) hi hz ho ?_; rw [alloc_setRow])
            | (refine wpList_load_row rfl 32 (.tmp 8) rfl w1.heap.size rfl _ cs _ _ G2.out digarr rfl hi ?_)
            | (rw [HD.out]; refine wpList_lookF rfl (.tmp 25) (.tmp 26) 86 rfl keyedK mapT (zeroPair _) M2.out KY.out rfl rfl ?_; rw [HF.out]; simp only [pairV, Option.getD_some, Option.isSome_some])
            | fail)
          have M5 := Lib.hid (show MapF Tryd.prog 32 _ w.heap.size (k + 1) (pairsF (bytesOf D) (k + 1)) by rw [← HP.out]; exact M3.out.mono (by omega))
          go_roundw
          case rel => exact ⟨k + 1, by omega, by go_num, M5, B3⟩
          case measure => simp [intOf]; omega
    · obtain rfl : k = D.length := by omega
      go_wp2
      go_ret
      exact ⟨rfl, M.out, b.out⟩

end Go.Proofs.YtgfemjpeegbhhaaDoor
/- Contract on hypostyleref02.Parse. -/

namespace Go.Hm
open Go Go.RowKit
theorem num8 {l : List Nat} (h : 8 ≤ l.length) : num (l.take 8) = l.getD 0 0 + 256 * l.getD 1 0 + 65536 * l.getD 2 0 + 16777216 * l.getD 3 0 + 4294967296 * (l.getD 4 0 + 256 * l.getD 5 0 + 65536 * l.getD 6 0 + 16777216 * l.getD 7 0) := by
  match l, h with
  | a :: b :: c :: d :: e :: f :: g :: i :: r, _ =>
    simp [num]
    omega
theorem recsP_at (D : List PartS) (d : PartS) (N : Nat) (h : D.length = N) : recs partV (D ++ [d]) = recs partV D ++ [.slice d.1 d.2.2.length d.2.1] ∧ (recs partV D).length = N := ⟨recsP_snoc D d, by rw [recsP_len, h]⟩

end Go.Hm

namespace Go.Proofs.YtgfemjpeegbhhaaDoor
open Go.RowKit Go.Hm

end Go.Proofs.YtgfemjpeegbhhaaDoor
/- A slice of structs of two numbers comes in. No program is named here. -/

namespace Go.Hm
open Go Go.RowKit Go.WideShapes Go.ChangeShapes Go.Deep

def pairs (l : List (Int × Int)) : List Value := l.flatMap fun p => [.int .i64 p.1, .int .i64 p.2]
theorem pairs_length (l : List (Int × Int)) : (pairs l).length = l.length * 2 := by
  induction l with
  | nil => rfl
  | cons p l ih => simp only [pairs, List.flatMap_cons, List.length_append, List.length_cons, List.length_nil] at ih ⊢; rw [ih]; omega
theorem pairs_at (l : List (Int × Int)) : ∀ i, i < l.length → (pairs l)[i * 2]? = some (.int .i64 (l.getD i (0, 0)).1) ∧ (pairs l)[i * 2 + 1]? = some (.int .i64 (l.getD i (0, 0)).2) := by
  induction l with
  | nil => intro i h; simp at h
  | cons p l ih =>
    intro i h
    cases i with
    | zero => exact ⟨rfl, rfl⟩
    | succ i =>
      have := ih i (by simpa using h)
      rw [show (i + 1) * 2 = i * 2 + 1 + 1 by omega]
      exact this
theorem Reads.lenP {w : World} {B n : Nat} {A : Option Addr} {l : List (Int × Int)} (h : Reads w B 2 A n (pairs l)) : n = l.length := by
  have := h.1
  rw [pairs_length] at this
  omega
theorem Reads.pair {w : World} {B n i : Nat} {A : Option Addr} {l : List (Int × Int)} (h : Reads w B 2 A n (pairs l)) (hi : i < n) :
    ∃ ad, A = some ad ∧ ad.block < B ∧ w.cell? (ad.add (i * 2)) = some (.int .i64 (l.getD i (0, 0)).1) ∧ w.cell? (ad.add (i * 2 + 1)) = some (.int .i64 (l.getD i (0, 0)).2) := by
  obtain ⟨ad, e, hb, hc⟩ := h.2 (by omega)
  have hl := h.lenP
  obtain ⟨h1, h2⟩ := pairs_at l i (by omega)
  exact ⟨ad, e, hb, hc _ _ h1, hc _ _ h2⟩

theorem open_pairs {H : Type} {enc : TypeId × Value → H} {P : Program} {W : World} {t e : TypeId} {f0 f1 : Field} {base : Nat} {v : Value} {d : DataW H} {ps : List MemPlace}
    (ht : P.underlying t = some (.slice e)) (he : P.underlying e = some (.struct #[f0, f1])) (hone : oneCellFields P #[f0, f1] = true) (hC : P.cellsOf e = 2) (h0 : P.underlying f0.type = some (.int .i64)) (h1 : P.underlying f1.type = some (.int .i64))
    (hval : Value.okWide P W .any base t v) (h : DataW.Trod enc P W 0 (fun _ => true) true t v d ps) (hlt : ∀ p ∈ ps, p.block < W.heap.size) :
    ∃ A c, ∃ l : List (Int × Int), v = .slice A l.length c ∧ l.length ≤ c ∧ c ≤ maxLen ∧ Reads W W.heap.size 2 A l.length (pairs l) ∧ ∀ p ∈ l, (-9223372036854775808 ≤ p.1 ∧ p.1 ≤ 9223372036854775807) ∧ (-9223372036854775808 ≤ p.2 ∧ p.2 ≤ 9223372036854775807) := by
  obtain ⟨a0, len, cap, rfl⟩ := okWide_slice ht hval
  obtain ⟨fuel, hf⟩ := h
  rcases open_slice ht hf with ⟨hcs, hx⟩ | ⟨a, len', cap', m, n, D, Pl, hcs, _, hl, hm, hmm, hx, hi⟩
  · have : a0 = none ∧ len = 0 ∧ cap = 0 := by simpa [Value.cells] using hcs
    obtain ⟨rfl, rfl, rfl⟩ := this
    exact ⟨none, 0, [], rfl, by simp, by simp [maxLen], ⟨rfl, fun h => by simp at h⟩, by simp⟩
  · have : a0 = some a ∧ len = len' ∧ cap = cap' := by simpa [Value.cells] using hcs
    obtain ⟨rfl, rfl, rfl⟩ := this
    rw [if_pos rfl] at hmm
    subst hmm
    rw [hC] at hx hi
    have hp : ∀ i, i < len → ∃ x y : Int, W.cell? (a.add (i * 2)) = some (.int .i64 x) ∧ W.cell? (a.add (i * 2 + 1)) = some (.int .i64 y) ∧ ((-9223372036854775808 ≤ x ∧ x ≤ 9223372036854775807) ∧ (-9223372036854775808 ≤ y ∧ y ≤ 9223372036854775807)) := by
      intro i hil
      obtain ⟨cs', hc, ht'⟩ := hi i (by omega)
      obtain ⟨ys, n', hn', hy, hlen, hyl, hff⟩ := DataW.trod_struct he ht'
      obtain ⟨_, hcl, hat⟩ := World.cells?_some hc
      have key : ∀ (j : Nat) (f : Field), #[f0, f1][j]? = some f → P.underlying f.type = some (.int .i64) → j < 2 → ∃ x : Int, W.cell? (a.add (i * 2 + j)) = some (.int .i64 x) ∧ (-9223372036854775808 ≤ x ∧ x ≤ 9223372036854775807) := by
        intro j f hj hu hj2
        obtain ⟨ho, hk⟩ := hone_of hone j f hj
        have hcell := hat j (by omega)
        have h1 := hff j f hj
        rw [ho, hk] at h1
        have hone' : (cs'.drop j).take 1 = [cs'[j]'(by omega)] := by
          rw [List.drop_eq_getElem_cons (by omega)]
          rfl
        rw [hone'] at h1
        have hys : ys[j]? = some (ys[j]'(by simp at hyl; omega)) := List.getElem?_eq_getElem _
        rw [hys] at h1
        rw [Go.Deep.add_add, List.getElem?_eq_getElem (by omega : j < cs'.length)] at hcell
        generalize cs'[j]'(by omega) = u at *
        obtain ⟨x, hx, _, hw⟩ := DataW.trod_int hu h1
        injection hx with hx _
        subst hx
        simp [Lit.wf, IntKind.min, IntKind.max, IntKind.signed, IntKind.bits] at hw
        exact ⟨x, hcell, hw.1, by omega⟩
      obtain ⟨x, hx1, hx2⟩ := key 0 f0 rfl h0 (by omega)
      obtain ⟨y, hy1, hy2⟩ := key 1 f1 rfl h1 (by omega)
      exact ⟨x, y, by simpa using hx1, hy1, hx2, hy2⟩
    have hl2 : ∀ m, m ≤ len → ∃ l : List (Int × Int), l.length = m ∧ ∀ i, i < m → W.cell? (a.add (i * 2)) = some (.int .i64 (l.getD i (0, 0)).1) ∧ W.cell? (a.add (i * 2 + 1)) = some (.int .i64 (l.getD i (0, 0)).2) ∧
        ((-9223372036854775808 ≤ (l.getD i (0, 0)).1 ∧ (l.getD i (0, 0)).1 ≤ 9223372036854775807) ∧ (-9223372036854775808 ≤ (l.getD i (0, 0)).2 ∧ (l.getD i (0, 0)).2 ≤ 9223372036854775807)) := by
      intro m
      induction m with
      | zero => intro _; exact ⟨[], rfl, fun i h => by omega⟩
      | succ m ih =>
        intro hm'
        obtain ⟨l, hll, hq⟩ := ih (by omega)
        obtain ⟨x, y, h1, h2, h3⟩ := hp m (by omega)
        refine ⟨l ++ [(x, y)], by simp [hll], fun i hi' => ?_⟩
        by_cases him : i < m
        · have e : (l ++ [(x, y)]).getD i (0, 0) = l.getD i (0, 0) := by
            rw [List.getD_eq_getElem?_getD, List.getElem?_append_left (by omega), ← List.getD_eq_getElem?_getD]
          rw [e]
          exact hq i him
        · obtain rfl : i = m := by omega
          have e : (l ++ [(x, y)]).getD i (0, 0) = (x, y) := by
            rw [List.getD_eq_getElem?_getD, List.getElem?_append_right (by omega), hll]
            simp
          rw [e]
          exact ⟨h1, h2, h3⟩
    obtain ⟨l, hll, hq⟩ := hl2 len (Nat.le_refl _)
    simp only [Prod.mk.injEq] at hx
    obtain ⟨_, rfl⟩ := hx
    refine ⟨some a, _, l, by rw [hll], by rw [hll]; exact hl, hm, ⟨by rw [pairs_length], fun hn => ⟨a, rfl, ?_, ?_⟩⟩, ?_⟩
    · rw [hll] at hn
      exact hlt (.cell a.block a.off) (by
        simp only [List.mem_append]
        left
        unfold MemPlace.row
        simp only [List.mem_map, List.mem_range]
        exact ⟨0, by omega, rfl⟩)
    · intro j u hu
      have hj : j < l.length * 2 := by
        rcases Nat.lt_or_ge j (l.length * 2) with h1 | h1
        · exact h1
        · rw [List.getElem?_eq_none (by rw [pairs_length]; exact h1)] at hu
          cases hu
      obtain ⟨p1, p2⟩ := pairs_at l (j / 2) (by omega)
      obtain ⟨q1, q2, _⟩ := hq (j / 2) (by omega)
      rcases Nat.mod_two_eq_zero_or_one j with h1 | h1
      · have e : j / 2 * 2 = j := by omega
        rw [e] at p1 q1
        rw [q1, ← p1, hu]
      · have e : j / 2 * 2 + 1 = j := by omega
        rw [e] at p2 q2
        rw [q2, ← p2, hu]
    · intro p hp'
      obtain ⟨i, hi', rfl⟩ := List.getElem_of_mem hp'
      have := (hq i (by omega)).2.2
      rw [List.getD_eq_getElem?_getD, List.getElem?_eq_getElem hi'] at this
      exact this

/-- An array of unsigned numbers comes in, by value. -/
theorem open_arr_nums {H : Type} {enc : TypeId × Value → H} {P : Program} {W : World} {t e : TypeId} {k : IntKind} {n base : Nat} {v : Value} {d : DataW H} {ps : List MemPlace}
    (ht : P.underlying t = some (.array n e)) (he : P.underlying e = some (.int k)) (hs : k.signed = false) (hce : P.cellsOf e = 1) (hct : P.cellsOf t = n)
    (hval : Value.okWide P W .any base t v) (h : DataW.Trod enc P W 0 (fun _ => true) true t v d ps) :
    ∃ l : List Nat, v = .agg (nums k l).toArray ∧ l.length = n ∧ ∀ x ∈ l, (x : Int) ≤ k.max := by
  unfold Value.okWide at hval
  rw [ht] at hval
  obtain ⟨cs, rfl, hsz, _⟩ := hval
  rw [hct] at hsz
  obtain ⟨fuel, hf⟩ := h
  obtain ⟨xs, m, _, _, _, hxl, hi⟩ := DataW.trod_array ht hf
  have key : ∀ i (hi' : i < cs.size), ∃ x : Nat, cs[i] = .int k (x : Int) ∧ (x : Int) ≤ k.max := by
    intro i hi'
    have h1 := hi i (by omega)
    rw [hce, Nat.mul_one] at h1
    have hone : ((Value.agg cs).cells.toList.drop i).take 1 = [cs[i]] := by
      show (cs.toList.drop i).take 1 = _
      rw [List.drop_eq_getElem_cons (by simpa using hi')]
      simp
    rw [hone] at h1
    have hys : xs[i]? = some (xs[i]'(by omega)) := List.getElem?_eq_getElem _
    rw [hys] at h1
    obtain ⟨x, hx, _, hw⟩ := DataW.trod_int he h1
    injection hx with hx _
    have hw' : 0 ≤ x ∧ x ≤ k.max := by simpa [Lit.wf, IntKind.min, hs] using hw
    obtain ⟨y, rfl⟩ := Int.eq_ofNat_of_zero_le hw'.1
    exact ⟨y, hx, hw'.2⟩
  have hl : ∀ (l : List Value), (∀ i (hi : i < l.length), ∃ x : Nat, l[i] = .int k (x : Int) ∧ (x : Int) ≤ k.max) → ∃ m : List Nat, l = nums k m ∧ ∀ x ∈ m, (x : Int) ≤ k.max := by
    intro l
    induction l with
    | nil => intro _; exact ⟨[], rfl, by simp⟩
    | cons a l ih =>
      intro hh
      obtain ⟨x, hx, hx2⟩ := hh 0 (by simp)
      obtain ⟨m, hm, hm2⟩ := ih (fun i hi => hh (i + 1) (by simpa using hi))
      refine ⟨x :: m, by rw [nums_cons, ← hm]; simp at hx; rw [hx], fun y hy => ?_⟩
      rcases List.mem_cons.1 hy with rfl | hy
      · exact hx2
      · exact hm2 y hy
  obtain ⟨l, hl1, hl2⟩ := hl cs.toList (fun i hi => by simpa using key i (by simpa using hi))
  refine ⟨l, by rw [← hl1], ?_, hl2⟩
  rw [← nums_length k l, ← hl1, Array.length_toList, hsz]

end Go.Hm
/- Rows of the call's own whose elements have many cells. No program is named here. -/

namespace Go.Hm
open Go Go.RowKit

section
variable {w w' : World} {base sz n : Nat} {e : TypeId} {v : Value} {xs : List Value}
theorem row_below {B : Nat} (h : w.ownsRow base e sz v n xs) (hb : Below B w w') (hB : w.heap.size ≤ B) : w'.ownsRow base e sz v n xs := by
  refine ⟨h.1, ?_⟩
  rcases h.2 with hn | ⟨g, cap, cur, rfl, hbg, hgg, rest⟩
  · exact .inl hn
  · refine .inr ⟨g, cap, cur, rfl, hbg, ?_, rest⟩
    rw [hb.block g (Nat.lt_of_lt_of_le (Array.getElem?_eq_some_iff.1 hgg).1 hB)]
    exact hgg
theorem row_later (h : w.ownsRow base e sz v n xs) (hb : New w w') : w'.ownsRow base e sz v n xs := row_below h hb (Nat.le_refl _)
theorem row_base {b' : Nat} (h : w.ownsRow base e sz v n xs) (hb : b' ≤ base) : w.ownsRow b' e sz v n xs := by
  refine ⟨h.1, ?_⟩
  rcases h.2 with hn | ⟨g, cap, cur, hv, hbg, rest⟩
  · exact .inl hn
  · exact .inr ⟨g, cap, cur, hv, Nat.le_trans hb hbg, rest⟩
theorem row_slice (h : w.ownsRow base e sz v n xs) : ∃ A c, v = .slice A n c ∧ n ≤ c ∧ c ≤ maxLen := by
  rcases h.2 with ⟨hv, hn⟩ | ⟨g, cap, cur, hv, _, _, hc, hm, _⟩
  · exact ⟨none, 0, by rw [hv, hn], by omega, by simp [maxLen]⟩
  · exact ⟨_, _, hv, hc, hm⟩
theorem row_nil : w.ownsRow base e sz (.slice none 0 0) 0 [] := ⟨by simp, .inl ⟨rfl, rfl⟩⟩
theorem row_blk_ne {g : Nat} {t : TypeId} {cs : Array Value} (h : w.ownsRow base e sz v n xs) (hg : Blk w g t cs) (hne : e ≠ t) : v.ownBlock ≠ some g := by
  rcases h.2 with ⟨rfl, _⟩ | ⟨g', cap, cur, rfl, _, hh, _⟩
  · simp [Value.ownBlock]
  · intro he
    have : g' = g := by simpa [Value.ownBlock] using he
    subst this
    exact Blk.ne_ (t := e) hh hg hne rfl
end
theorem madeCells3 (a b c : Value) (n : Nat) : (madeCells #[a, b, c] (n * 3)).toList = (List.replicate n [a, b, c]).flatten := by
  induction n with
  | zero => simp [madeCells]
  | succ n ih =>
    rw [List.replicate_succ', List.flatten_append, ← ih]
    have e : ∀ m, m % 3 = 0 → (madeCells #[a, b, c] (m + 3)).toList = (madeCells #[a, b, c] m).toList ++ [a, b, c] := by
      intro m hm
      simp only [madeCells, Array.toList_map, Array.toList_range, List.range_succ, List.map_append, List.map_cons, List.map_nil, List.append_assoc, List.cons_append, List.nil_append, List.size_toArray, List.length_cons, List.length_nil]
      rw [hm, show (m + 1) % 3 = 1 by omega, show (m + 2) % 3 = 2 by omega]
      rfl
    rw [Nat.succ_mul, e (n * 3) (by omega)]
    simp

section
variable {P : Program} {ops : Array Oper} {rest : List Oper} {o : Oper} {a : Act} {Q : Exit → Act → World → Prop}
/-- append(s, x) of a record, behind the block that x was laid in. -/
theorem wpList_pushR {w : World} {t e : TypeId} {z : Value} {sz bytes : Nat} (E : ElT P t e z sz bytes) (hgd : o.guard = none) (s x : Operand)
    (ho : o.op = .call { callee := .builtin .append, args := #[s, x], argTypes := #[t, t] })
    {W : World} {B base n : Nat} {v : Value} {us xs : List Value} (hown : w.ownsRow base e sz v n xs) (hs : a.eval s = v) (hx : a.eval x = .slice (some ⟨w.heap.size, 0, none⟩) 1 1)
    (hb : Below B W w) (hbB : B ≤ base) (hbase : base ≤ w.heap.size) (hus : us.length = sz) (h1 : ∀ u ∈ us, u.oneCell' = true)
    (hn : (n + 1) * bytes ≤ 140737488355328) (hm : n + 1 ≤ maxLen)
    (h : ∀ A' c' w', n + 1 ≤ c' → c' ≤ maxLen → w'.ownsRow base e sz (.slice A' (n + 1) c') (n + 1) (xs ++ us) → w.grownBy w' v.ownBlock → Below B W w' → w.heap.size < w'.heap.size →
      (Value.ownBlock (.slice A' (n + 1) c') = v.ownBlock ∨ ∃ g, Value.ownBlock (.slice A' (n + 1) c') = some g ∧ w.heap.size ≤ g) → wpList P ops Q rest (a.put o.dst (.slice A' (n + 1) c')) w') :
    wpList P ops Q (o :: rest) a (w.alloc (.cells us.toArray e)) := by
  obtain ⟨i, hi, hz0, hz1, hz2⟩ := info_parts E.hi
  refine wpList_append_own_at _ hgd s x t ho base e i z sz bytes E.ht hi hz0 hz1 hz2 E.hz E.hs v n xs hs (World.ownsRow.alloc hown _) ⟨w.heap.size, 0, none⟩ 1 1 us hx (by omega) ?_ h1 hm hn (by simp; omega) ?_
  · have := World.news_of_block (heap_alloc_new w (.cells us.toArray e))
    simpa using this
  intro v' w' hown' hg _ hat
  obtain ⟨A', c', rfl, hc1, hc2⟩ := row_slice hown'
  have hg2 : w.grownBy w' v.ownBlock := (World.grownBy_alloc w (.cells us.toArray e) v.ownBlock).trans hg
  have hsz := hg.size
  simp at hsz
  refine h A' c' w' hc1 hc2 hown' hg2 (hb.grown hg2 (Nat.le_trans hbB hbase) (fun k hk => by have := (World.ownsRow.lt hown k hk).1; omega)) (by omega) ?_
  rcases hat with e1 | e1
  · exact .inl e1
  · exact .inr ⟨_, e1, by simp⟩
/-- make([]T, n), T of three cells: the row is the call's own. -/
theorem wpList_mkR {w : World} {t e : TypeId} {x y z : Value} {bytes : Nat} (E : ElT P t e (.agg #[x, y, z]) 3 bytes) (hgd : o.guard = none) (lo co : Operand) (ho : o.op = Op.makeSlice t lo co)
    {W : World} {B : Nat} {kl kc : IntKind} {L C : Int} (n : Nat) (hl : a.eval lo = .int kl L) (hc : a.eval co = .int kc C) (hL : L = (n : Int)) (hC : C = (n : Int)) (hb : Below B W w) (hbase : B ≤ w.heap.size)
    (hn : n * bytes ≤ 140737488355328) (hm : n ≤ maxLen)
    (h : ∀ w', w'.ownsRow w.heap.size e 3 (.slice (some ⟨w.heap.size, 0, none⟩) n n) n (List.replicate n [x, y, z]).flatten → w.grownBy w' none → Below B W w' → w'.heap.size = w.heap.size + 1 → wpList P ops Q rest (a.put o.dst (.slice (some ⟨w.heap.size, 0, none⟩) n n)) w') :
    wpList P ops Q (o :: rest) a w := by
  obtain ⟨i, hi, hz0, hs1, hb1⟩ := info_parts E.hi
  subst hL hC
  have hmC : (n : Int) ≤ 9223372036854775807 := by have h := hm; simp only [maxLen] at h; omega
  have hbC : (i.bytes : Int) * (n : Int) ≤ 281474976710656 := by
    have h : ((i.bytes * n : Nat) : Int) ≤ 281474976710656 := by rw [hb1, Nat.mul_comm]; omega
    rwa [Int.natCast_mul] at h
  have hrun := run_make (P := P) w t e i (.agg #[x, y, z]) E.ht hi hz0 kl kc (n : Int) (n : Int) (by omega) (by omega) hbC hmC
  rw [Int.toNat_natCast, hs1] at hrun
  refine wpList_plain hgd fun K hK => ?_
  unfold Oper.wp
  simp [execOp, ho, hl, hc, hrun, Result.andThen]
  refine hK _ _ (h _ ?_ (World.grownBy_alloc _ _ _) (hb.alloc hbase _) (by simp))
  refine ⟨by simp, .inr ⟨_, n, _, rfl, Nat.le_refl _, heap_alloc_new w _, Nat.le_refl _, hm, by simp [size_madeCells], ?_⟩⟩
  rw [List.take_of_length_le (by simp [size_madeCells])]
  exact madeCells3 x y z n
end
theorem grown_new {w w' W : World} {gc gm : Nat} (hb : w.grownBy w' (some gc)) (hg : w'.grownBy W (some gm)) (hle : w.heap.size ≤ gm) : w.grownBy W (some gc) :=
  ⟨hg.os.trans hb.os, hg.tape.trans hb.tape, hg.output.trans hb.output, Nat.le_trans hb.size hg.size, fun k hk hne => (hg.block k (Nat.lt_of_lt_of_le hk hb.size) (fun e => by injection e with e; omega)).trans (hb.block k hk hne)⟩
theorem row_blk {w : World} {base : Nat} {e : TypeId} {g n c sz : Nat} {xs : List Value} (h : w.ownsRow base e sz (.slice (some ⟨g, 0, none⟩) n c) n xs) : ∃ cs, Blk w g e cs := by
  rcases h.2 with ⟨hv, _⟩ | ⟨g', cap, cur, hv, _, hh, _⟩
  · cases hv
  · injection hv with e1 _ _
    injection e1 with e1
    injection e1 with e1
    subst e1
    exact ⟨cur, hh⟩
theorem set3_app {A B : List Value} {x y z a b c : Value} {m : Nat} (h : A.length = m) : (((A ++ ([x, y, z] ++ B)).set m a).set (m + 1) b).set (m + 2) c = A ++ ([a, b, c] ++ B) := by
  subst h
  rw [List.set_append_right _ _ (Nat.le_refl _), List.set_append_right _ _ (by omega), List.set_append_right _ _ (by omega)]
  simp
/-- A record of a row is stored, cell by cell. -/
theorem row_set3 {w : World} {base : Nat} {e : TypeId} {g n c m : Nat} {A B : List Value} {x y z a b d : Value} (h : w.ownsRow base e 3 (.slice (some ⟨g, 0, none⟩) n c) n (A ++ ([x, y, z] ++ B))) (hm : A.length = m) :
    ∃ W, W = ((w.setCell ⟨g, m, none⟩ a).setCell ⟨g, m + 1, none⟩ b).setCell ⟨g, m + 2, none⟩ d ∧ W.ownsRow base e 3 (.slice (some ⟨g, 0, none⟩) n c) n (A ++ ([a, b, d] ++ B)) ∧ w.grownBy W (some g) := by
  obtain ⟨h1, g1⟩ := h.stored m a
  obtain ⟨h2, g2⟩ := h1.stored (m + 1) b
  obtain ⟨h3, g3⟩ := h2.stored (m + 2) d
  rw [set3_app hm] at h3
  exact ⟨_, rfl, h3, (g1.trans g2).trans g3⟩
/-- Three cells of a block are stored. -/
theorem store3g {w w' : World} {g gc : Nat} {ty : TypeId} {x y z a b c : Value} (h : Blk w' g ty #[x, y, z]) (hb : w.grownBy w' (some gc)) (hg : w.heap.size ≤ g) :
    ∃ W3, W3 = (((w'.setCell ⟨g, 0, none⟩ a).setCell ⟨g, 1, none⟩ b).setCell ⟨g, 2, none⟩ c) ∧ Blk W3 g ty #[a, b, c] ∧ w.grownBy W3 (some gc) ∧ ∀ k, k ≠ g → W3.heap[k]? = w'.heap[k]? := by
  refine ⟨_, rfl, by simpa using ((h.set_ 0 a).set_ 1 b).set_ 2 c, ⟨hb.os, hb.tape, hb.output, by simpa [World.setCell] using hb.size, fun k hk hne => ?_⟩, fun k hk => ?_⟩
  · rw [Below.heap_setCell _ _ _ _ (show k ≠ g by omega), Below.heap_setCell _ _ _ _ (show k ≠ g by omega), Below.heap_setCell _ _ _ _ (show k ≠ g by omega)]
    exact hb.block k hk hne
  · rw [Below.heap_setCell _ _ _ _ hk, Below.heap_setCell _ _ _ _ hk, Below.heap_setCell _ _ _ _ hk]
theorem grown_drew {w : World} {row : Option Nat} : w.grownBy w.drew row := ⟨rfl, rfl, rfl, Nat.le_refl _, fun _ _ _ => rfl⟩
theorem cell_new {w0 : World} {p : Addr} {u : Value} (h : w0.cell? p = some u) (hp : p.block < w0.drew.heap.size) : ∀ W, New w0.drew W → W.cell? p = some u := fun _ hW => (Below.cell hW hp).trans h
/-- A literal's cells are read, records. -/
theorem Reads.litR (w : World) (e : TypeId) (cs : Array Value) (n sz : Nat) (xs : List Value) (h : cs.toList = xs) (hn : xs.length = n * sz) : Reads (w.alloc (.cells cs e)) (w.alloc (.cells cs e)).heap.size sz (some ⟨w.heap.size, 0, none⟩) n xs := by
  refine ⟨hn, fun _ => ⟨_, rfl, by simp, ?_⟩⟩
  have := World.news_of_block (heap_alloc_new w (.cells cs e))
  rwa [h] at this
/-- Both parts of a pair, as the walk reads them. -/
theorem Reads.pair2 {w : World} {B n i : Nat} {A : Option Addr} {l : List (Int × Int)} (h : Reads w B 2 A n (pairs l)) (hi : i < n) :
    ∃ ad, A = some ad ∧ ad.block < B ∧ w.cell? (ad.add (i * 2)) = some (.int .i64 (l.getD i (0, 0)).1) ∧ w.cell? ⟨(ad.add (i * 2)).block, (ad.add (i * 2)).off + 1, none⟩ = some (.int .i64 (l.getD i (0, 0)).2) := by
  obtain ⟨ad, h1, h2, h3, h4⟩ := h.pair hi
  rw [← add_of_add] at h4
  exact ⟨ad, h1, h2, h3, h4⟩

end Go.Hm
/- append of records, at one operation. No program is named here. -/

namespace Go.Hm
open Go Go.RowKit

section
variable {P : Program} {o : Oper} {a : Act} {Q : Exit → Act → World → Prop} {K : Act → World → Prop}
/-- append(s, xs...) of records onto a row of the call's own. -/
theorem wp_appR {w : World} {t e : TypeId} {z : Value} {sz bytes : Nat} (E : ElT P t e z sz bytes) (s x : Operand)
    (ho : o.op = .call { callee := .builtin .append, args := #[s, x], argTypes := #[t, t] })
    {W : World} {B base n m c : Nat} {v : Value} {xs news : List Value} {A : Option Addr} (hown : w.ownsRow base e sz v n xs) (hr : Reads w w.heap.size sz A m news) (hs : a.eval s = v) (hx : a.eval x = .slice A m c)
    (hb : Below B W w) (hbB : B ≤ base) (hbase : base ≤ w.heap.size) (h1 : ∀ u ∈ news, u.oneCell' = true)
    (hn : (n + m) * bytes ≤ 140737488355328) (hm : n + m ≤ maxLen)
    (h : ∀ A' c' w', n + m ≤ c' → c' ≤ maxLen → w'.ownsRow base e sz (.slice A' (n + m) c') (n + m) (xs ++ news) → w.grownBy w' v.ownBlock → Below B W w' → K (a.put o.dst (.slice A' (n + m) c')) w') :
    Oper.wp P o a w K Q := by
  obtain ⟨i, hi, hz0, hz1, hz2⟩ := info_parts E.hi
  rcases A with _ | ad
  · have hm0 : m = 0 := by
      rcases Nat.eq_zero_or_pos m with h0 | h0
      · exact h0
      · obtain ⟨ad, h', _⟩ := hr.2 h0
        cases h'
    subst hm0
    have hn0 : news = [] := List.eq_nil_of_length_eq_zero (by have := hr.1; omega)
    subst hn0
    have hrun : ∀ ty, (Builtin.append_ #[t, t] ty #[v, .slice none 0 c]).run P w = .ok v w := by
      intro ty
      rcases hown.2 with ⟨rfl, hx0⟩ | ⟨g, cap, cur, rfl, _, _, hnc, _⟩
      · simp [Builtin.append_, run_underlying E.ht, sizeOf, typeInfo, hi, Builtin.lenOf, Builtin.firstCells]
      · simp [Builtin.append_, run_underlying E.ht, sizeOf, typeInfo, hi, Builtin.lenOf, Builtin.firstCells, hnc, storeCells]
    obtain ⟨A', c', rfl, hc1, hc2⟩ := row_slice hown
    unfold Oper.wp execOp
    simp only [ho, resolve, invoke, builtin, Sem.run_bind, Sem.run_pure, Result.andThen_ok, List.map_toArray, List.map_cons, List.map_nil, hs, hx, hrun]
    exact h A' c' w hc1 hc2 (by simpa using hown) (World.grownBy.refl w _) hb
  · have hl : news.length = m * sz := hr.1
    have hcells : ∀ j u, news[j]? = some u → w.cell? (ad.add j) = some u := by
      intro j u hu
      rcases Nat.eq_zero_or_pos m with h0 | h0
      · subst h0
        have hn : news = [] := List.eq_nil_of_length_eq_zero (by omega)
        subst hn
        simp at hu
      · obtain ⟨ad', h', _, hc⟩ := hr.2 h0
        injection h' with h'
        subst h'
        exact hc j u hu
    obtain ⟨v', w', hr', hown', hg, _, _⟩ := run_append_own_at (P := P) w base t o.type e i z sz bytes E.ht hi hz0 hz1 hz2 E.hz E.hs v n xs hown ad m c news hl hcells h1 hm hn hbase
    obtain ⟨A', c', rfl, hc1, hc2⟩ := row_slice hown'
    unfold Oper.wp execOp
    simp only [ho, resolve, invoke, builtin, Sem.run_bind, Sem.run_pure, Result.andThen_ok, List.map_toArray, List.map_cons, List.map_nil, hs, hx, hr']
    exact h A' c' w' hc1 hc2 hown' hg (hb.grown hg (Nat.le_trans hbB hbase) (fun k hk => by have := (World.ownsRow.lt hown k hk).1; omega))
end
/-- The blocks that a row may turn. -/
def rowT (v : Value) : List Nat := match v.ownBlock with | some g => [g] | none => []
theorem Turns.row {w w' : World} {v : Value} (h : w.grownBy w' v.ownBlock) : Turns (rowT v) w w' := by
  unfold rowT
  cases e : v.ownBlock with
  | none => rw [e] at h; exact Turns.of_none h
  | some g => rw [e] at h; exact Turns.of_far h (by simp)
theorem rowT_ge {w : World} {base sz n : Nat} {e : TypeId} {v : Value} {xs : List Value} (h : w.ownsRow base e sz v n xs) : ∀ x ∈ rowT v, base ≤ x ∧ x < w.heap.size := by
  intro x hx
  unfold rowT at hx
  cases e : v.ownBlock with
  | none => rw [e] at hx; simp at hx
  | some g => rw [e] at hx; simp at hx; subst hx; exact World.ownsRow.lt h _ e
theorem rowT_ne {w : World} {base sz n : Nat} {e t : TypeId} {v : Value} {xs : List Value} {g : Nat} {cs : Array Value} (h : w.ownsRow base e sz v n xs) (hg : Blk w g t cs) (hne : e ≠ t) : g ∉ rowT v := by
  intro hx
  unfold rowT at hx
  cases e' : v.ownBlock with
  | none => rw [e'] at hx; simp at hx
  | some g' => rw [e'] at hx; simp at hx; subst hx; exact row_blk_ne h hg hne e'
theorem row_touch {w w' : World} {base sz n : Nat} {e : TypeId} {v : Value} {xs : List Value} {T : List Nat} (h : w.ownsRow base e sz v n xs) (k : Turns T w w') (hT : ∀ x ∈ T, v.ownBlock ≠ some x) : w'.ownsRow base e sz v n xs := by
  refine ⟨h.1, ?_⟩
  rcases h.2 with hn | ⟨g, cap, cur, rfl, hbg, hgg, rest⟩
  · exact .inl hn
  · refine .inr ⟨g, cap, cur, rfl, hbg, ?_, rest⟩
    rw [k.block g (Array.getElem?_eq_some_iff.1 hgg).1 (fun hm => hT g hm rfl)]
    exact hgg
/-- A row of another element type is not the one that is turned. -/
theorem row_row {w : World} {base base2 sz sz2 n n2 : Nat} {e e2 : TypeId} {v v2 : Value} {xs xs2 : List Value} (h : w.ownsRow base e sz v n xs) (h2 : w.ownsRow base2 e2 sz2 v2 n2 xs2) (hne : e ≠ e2) : ∀ x ∈ rowT v2, v.ownBlock ≠ some x := by
  intro x hx
  unfold rowT at hx
  cases e' : v2.ownBlock with
  | none => rw [e'] at hx; simp at hx
  | some g =>
    rw [e'] at hx
    simp at hx
    subst hx
    rcases h2.2 with ⟨rfl, _⟩ | ⟨g', cap, cur, rfl, _, hh, _⟩
    · simp [Value.ownBlock] at e'
    · have : g' = x := by simpa [Value.ownBlock] using e'
      subst this
      exact row_blk_ne h hh hne

end Go.Hm
/- Logs: contracts on Log.Hash, Log.Frames. -/

namespace Go.Hm
open Go Go.RowKit
theorem PartsT.keep {e t : TypeId} {w w' : World} {D : List PartS} {g : Nat} {cs : Array Value} (h : PartsT e w D) (hg : w.grownBy w' (some g)) (hT : Blk w g t cs) (hne : e ≠ t) : PartsT e w' D := fun d hd => ⟨(h d hd).1.keep hg hT hne, (h d hd).2⟩
theorem turns_cell (w : World) (g i : Nat) (u : Value) : w.grownBy (w.setCell ⟨g, i, none⟩ u) (some g) := (Turns.setCell (T := [g]) u (by simp) w).far
theorem recsP_set (D : List PartS) (d : PartS) (k m : Nat) (h : D.length = k) : (recs partV D ++ List.replicate (m + 1) (Value.slice none 0 0)).set k (.slice d.1 d.2.2.length d.2.1) = recs partV (D ++ [d]) ++ List.replicate m (Value.slice none 0 0) := by
  have h2 := recsP_len D
  rw [List.set_append_right _ _ (by omega), recsP_snoc, h2, h, Nat.sub_self, List.replicate_succ, List.set_cons_zero, List.append_assoc]
  rfl
/-- As Turns, for blocks below B alone. -/
structure TurnsB (B : Nat) (T : List Nat) (w w' : World) : Prop where
  os : w'.os = w.os
  tape : w'.tape = w.tape
  output : w'.output = w.output
  size : w.heap.size ≤ w'.heap.size
  block : ∀ k, k < B → k ∉ T → w'.heap[k]? = w.heap[k]?

section
variable {B : Nat} {T : List Nat} {w w' w2 : World}
theorem TurnsB.refl (B : Nat) (T : List Nat) (w : World) : TurnsB B T w w := ⟨rfl, rfl, rfl, Nat.le_refl _, fun _ _ _ => rfl⟩
theorem TurnsB.trans (h : TurnsB B T w w') (k : TurnsB B T w' w2) : TurnsB B T w w2 :=
  ⟨k.os.trans h.os, k.tape.trans h.tape, k.output.trans h.output, Nat.le_trans h.size k.size, fun i hi hT => (k.block i hi hT).trans (h.block i hi hT)⟩
theorem TurnsB.of (h : Turns T w w') (hB : B ≤ w.heap.size) : TurnsB B T w w' := ⟨h.os, h.tape, h.output, h.size, fun k hk hT => h.block k (Nat.lt_of_lt_of_le hk hB) hT⟩
theorem TurnsB.far {g : Nat} (h : w.grownBy w' (some g)) (hg : B ≤ g) (hB : B ≤ w.heap.size) : TurnsB B T w w' := ⟨h.os, h.tape, h.output, h.size, fun k hk _ => h.block k (Nat.lt_of_lt_of_le hk hB) (fun e => by injection e with e; omega)⟩
theorem TurnsB.alloc (o : Obj) (hB : B ≤ w.heap.size) : TurnsB B T w (w.alloc o) := .of (Turns.of_new ((Below.refl _ w).alloc (Nat.le_refl _) o)) hB
theorem TurnsB.turns (h : TurnsB w.heap.size T w w') : Turns T w w' := ⟨h.os, h.tape, h.output, h.size, h.block⟩
end

end Go.Hm

namespace Go.Proofs.YtgfemjpeegbhhaaDoor
open Go.RowKit Go.Hm
/-- A log that keeps the frames L in the slice V. -/
def LogOf (t : TypeId) (w : World) (base g : Nat) (V : Value) (L : List (List Nat)) : Prop :=
  ∃ A n c D, V = .slice A n c ∧ Blk w g t #[.slice A n c] ∧ Own w base 22 (.slice A n c) (recs partV D) ∧ PartsT 5 w D ∧ bytesOf D = L
abbrev LogAt (w : World) (base g : Nat) (V : Value) (L : List (List Nat)) : Prop := LogOf 62 w base g V L
theorem LogOf.new {t : TypeId} {w w' : World} {base g : Nat} {V : Value} {L : List (List Nat)} (h : LogOf t w base g V L) (hb : New w w') : LogOf t w' base g V L := by
  obtain ⟨A, n, c, D, rfl, h1, h2, h3, h4⟩ := h
  exact ⟨A, n, c, D, rfl, h1.below hb h1.lt, h2.later hb, h3.below hb, h4⟩
theorem LogOf.lt {t : TypeId} {w : World} {base g : Nat} {V : Value} {L : List (List Nat)} (h : LogOf t w base g V L) : g < w.heap.size := by
  obtain ⟨A, n, c, D, rfl, h1, h2, h3, h4⟩ := h
  exact h1.lt
theorem LogOf.ge {t : TypeId} {w : World} {base g : Nat} {V : Value} {L : List (List Nat)} (h : LogOf t w base g V L) : ∀ x ∈ rowT V, base ≤ x ∧ x < w.heap.size := by
  obtain ⟨A, n, c, D, rfl, h1, h2, h3, h4⟩ := h
  exact rowT_ge h2
/-- The rows of a log, as they are read. -/
theorem LogOf.rows {t : TypeId} {w : World} {base g : Nat} {V : Value} {L : List (List Nat)} (h : LogOf t w base g V L) : ∃ A c D, V = .slice A L.length c ∧ RowsAt w A L.length c D ∧ bytesOf D = L ∧ w.cell? ⟨g, 0, none⟩ = some (.slice A L.length c) := by
  obtain ⟨A, n, c, D, rfl, h1, h2, h3, rfl⟩ := h
  have hn := h2.len
  rw [recsP_len] at hn
  have hc := h2.cap
  rw [bytesOf_len, ← hn]
  exact ⟨A, c, D, rfl, ⟨h2.reads, h3.ins, hc.1⟩, rfl, h1.cell 0⟩
/-- A log to which another one, of blocks of its own, was turned. -/
theorem LogOf.turn {t : TypeId} {w w' : World} {base g : Nat} {V : Value} {L : List (List Nat)} {T : List Nat} (h : LogOf t w base g V L) (k : Turns T w w') (hg : g ∉ T) (hV : ∀ x ∈ T, V.ownBlock ≠ some x) (hp : ∀ x ∈ T, x < w.heap.size → ∀ cs, ¬ Blk w x 5 cs) : LogOf t w' base g V L := by
  obtain ⟨A, n, c, D, rfl, h1, h2, h3, h4⟩ := h
  refine ⟨A, n, c, D, rfl, h1.touch k hg, h2.touch k hV, fun d hd => ⟨⟨⟨(h3 d hd).1.1.1, fun hn => ?_⟩, fun hn ad ha => ?_⟩, (h3 d hd).2⟩, h4⟩
  · obtain ⟨ad, e1, hb, hc⟩ := (h3 d hd).1.1.2 hn
    obtain ⟨cs, hB⟩ := (h3 d hd).1.2 hn ad e1
    have hT : ad.block ∉ T := fun hm => hp _ hm hb cs hB
    refine ⟨ad, e1, Nat.lt_of_lt_of_le hb k.size, fun j u hu => ?_⟩
    rw [World.cell?_of_block (a := ad.add j) (k.block (ad.add j).block (by rw [block_of_add]; exact hb) (by rw [block_of_add]; exact hT))]
    exact hc j u hu
  · obtain ⟨cs, hB⟩ := (h3 d hd).1.2 hn ad ha
    exact ⟨cs, hB.touch k (fun hm => hp _ hm hB.lt cs hB)⟩
/-- The answer v; the log keeps L then, and only it was turned. -/
def PostOf (t : TypeId) (v : Value) (base g : Nat) (V : Value) (L : List (List Nat)) (w : World) (e : Ending) (w' : World) : Prop :=
  e = .returned v ∧ ∃ V', LogOf t w' base g V' L ∧ (V'.ownBlock = V.ownBlock ∨ ∃ h, V'.ownBlock = some h ∧ w.heap.size ≤ h) ∧ Turns (g :: rowT V) w w'
abbrev LogPost (v : Value) (base g : Nat) (V : Value) (L : List (List Nat)) (w : World) (e : Ending) (w' : World) : Prop := PostOf 62 v base g V L w e w'
set_option maxHeartbeats 2000000 in
set_option maxRecDepth 100000 in
theorem lhash_any {w : World} {base g : Nat} {V : Value} {L : List (List Nat)} (hL : LogAt w base g V L) (hbs : base ≤ w.heap.size) (hLn : L.length ≤ 1000000) {s : List Nat} {A : Option Addr} {n c : Nat} {D : List PartS} (h : RowsAt w A n c D) (hn : n ≤ 9223372036854775806) (hs8 : ∀ x ∈ s, x < 256) (hs : s.length ≤ 140737488351232) (ht : tsum (bytesOf D) ≤ 990000) (hD8 : ∀ p ∈ bytesOf D, ∀ x ∈ p, x < 256) (hC2 : ∀ w', Turns (g :: rowT V) w w' → ConstIn w') :
    Calls Tryd.prog 36 #[.pointer (some ⟨g, 0, none⟩), .string (bstr s), .slice A n c] w (LogPost (digV (hashO s (bytesOf D))) base g V (L ++ (frameO s (bytesOf D)).toList) w) := by
  have c0 : New w (w.alloc (.cells (ints .u8 zero32).toArray 32)) := (Below.refl _ _).alloc (Nat.le_refl _) _
  have FR := Lib.hid (frame_any (h.later c0) hn hs8 hs (by omega))
  have HC := Lib.hid hC2
  have HL := Lib.hid hL
  have G0 := Lib.hid (Blk.new w 32 (ints .u8 zero32).toArray)
  have HO : hashO s (bytesOf D) = hashO s (bytesOf D) := rfl
  conv at HO => rhs; unfold hashO
  replace HO := Lib.hid HO
  have HF8 := Lib.hid (fun f (hf : frameO s (bytesOf D) = some f) => And.intro (frameO_lt hs8 hD8 hf) (frameO_len hf ht))
  generalize frameO s (bytesOf D) = o at *
  generalize hashO s (bytesOf D) = ho at *
  obtain ⟨W0, hW0⟩ : ∃ W, W = w.alloc (.cells (ints .u8 zero32).toArray 32) := ⟨_, rfl⟩
  rw [← hW0] at FR c0 G0
  have HW := Lib.hid hW0
  have C0 := Lib.hid c0
  clear h hs8 hs ht hD8 hC2 hW0 c0 hL
  go_enter Tryd.func36, Tryd.ntmps36
  go_wp2_with fail
  have F := FR.out
  rw [HW.out] at F
  refine F.mono ?_
  rintro e w1 hf
  obtain ⟨A1, n1, c1, rfl, o1, b1⟩ := hf.u
  have b1 : New W0 w1 := by rw [HW.out]; exact b1
  have o1 : Own w1 W0.heap.size 5 (.slice A1 n1 c1) (nums .u8 (o.getD [])) := by rw [HW.out]; exact o1
  have G1 := Lib.hid (G0.out.below b1 G0.out.lt)
  have B1 := Lib.hid (New.trans C0.out b1)
  clear F FR hf HW C0 G0
  cases o with
  | none =>
    have hh : ho = zero32 := by rw [HO.out]; rfl
    subst hh
    have H := Lib.hid (And.intro (row_of_blk G1.out) (And.intro (i32d (l := zero32) (by simp [zero32])) (And.intro (ints_one .u8 zero32) (blk_setRow G1.out (ints .u8 zero32).toArray))))
    have BE := Lib.hid (New.far B1.out (far_setRow (g := w.heap.size) w1 (ints .u8 zero32).toArray) (Nat.le_refl _))
    clear G1 B1 b1 o1 HO
    go_wp2_with (refine wpList_store_row rfl 32 (.tmp 6) (.tmp 17) rfl w.heap.size (ints .u8 zero32).toArray rfl rfl _ _ H.out.1 H.out.2.1 rfl H.out.2.2.1 ?_)
    refine bodyPost_ret (results_cell_row rfl _ _ w.heap.size _ (ints .u8 zero32).toArray (0, 0) _ rfl H.out.2.2.2 digarr rfl H.out.2.1) rfl ⟨rfl, V, ?_, .inl rfl, Turns.of_new BE.out⟩
    rw [Option.toList_none, List.append_nil]
    exact HL.out.new BE.out
  | some f =>
    have hh : ho = sumI f := by rw [HO.out, Option.map_some, Option.getD_some]
    subst hh
    obtain ⟨f8, fl⟩ := HF8.out f rfl
    obtain rfl : n1 = f.length := by have := o1.len; rwa [nums_length] at this
    obtain ⟨Al, nl, cl, Dl, rfl, HG, HO', HP, hLb⟩ := HL.out.new B1.out
    have hnl : nl = L.length := by have := HO'.len; rw [recsP_len] at this; rw [← hLb, bytesOf_len]; exact this
    have hl1 : (recs partV Dl).length = L.length := by rw [recsP_len, ← bytesOf_len, hLb]
    have k1 : w1.cell? ⟨g, 0, none⟩ = some (.slice Al nl cl) := HG.cell 0
    have hbs1 : base ≤ w1.heap.size := Nat.le_trans hbs B1.out.size
    have hW1 := Lib.hid B1.out.size
    have hgw : g ≠ w.heap.size := by have := HL.out.lt; omega
    have HLB := Lib.hid hLb
    have HNL := Lib.hid hnl
    have HL1 := Lib.hid hl1
    clear HO HF8 hLb hnl hl1
    have F8 := Lib.hid f8
    go_wp2_with ((refine wpList_push elR rfl (.tmp 22) (.tmp 24) rfl (W := w1) (B := 0) HO' rfl rfl (Below.refl _ _) (Nat.zero_le _) hbs1 rfl (by rw [HL1.out]; omega) (by rw [HL1.out]; simp only [maxLen]; omega) ?_)
                 intro A7 c7 w7 _ _ o7 g7 b7 z7 a7
                 have e7 : (recs partV Dl).length + 1 = L.length + 1 := by rw [HL1.out]
                 rw [e7] at o7 a7 ⊢
                 have o7 : Own w7 base 22 (.slice A7 (L.length + 1) c7) (recs partV (Dl ++ [(A1, c1, f)])) := by rw [recsP_snoc]; exact o7
                 have G7 := HG.push HO' g7 (by decide)
                 have G7' := Lib.hid (G1.out.push HO' g7 (by decide))
                 have p7 := ((HP.push HO' g7 (by decide)).snoc (d := (A1, c1, f)) ((TR.of_own o1).push HO' g7 (by decide)) o1.cap.1 (by have := o1.cap.2; simp only [maxLen] at this; omega))
                 have r7 := ((TR.of_own o1).push HO' g7 (by decide)).1
                 have k7 : w7.cell? ⟨g, 0, none⟩ = some (.slice Al nl cl) := G7.cell 0
                 have f7 : w7.frozen? ⟨g, 0, none⟩ = false := G7.frozen 0
                 have T7 := Lib.hid (Turns.row g7)
                 have hc1 := o1.cap.1
                 have O7 := Lib.hid o7
                 have P7 := Lib.hid p7
                 have R7 := Lib.hid r7
                 have HG7 := Lib.hid G7
                 have A7' := Lib.hid a7
                 clear o7 p7 e7 HG HO' HP o1 G7 G1 r7 g7 a7)
    have ts : Turns (g :: rowT (.slice Al nl cl)) w (w7.setCell ⟨g, 0, none⟩ (.slice A7 (L.length + 1) c7)) :=
      ((Turns.of_new B1.out).trans (T7.out.more (by intro x hx; simp [hx]))).trans (Turns.setCell _ (by simp) w7)
    have P8 := Lib.hid (P7.out.keep (turns_cell w7 g 0 (.slice A7 (L.length + 1) c7)) HG7.out (by decide))
    have SU := Lib.hid (sum_any (l := f) (c := c1) (P8.out (A1, c1, f) (by simp)).1.1 F8.out hc1 (by omega) (HC.out _ ts))
    have L8 : LogAt (w7.setCell ⟨g, 0, none⟩ (.slice A7 (L.length + 1) c7)) base g (.slice A7 (L.length + 1) c7) (L ++ [f]) :=
      ⟨A7, L.length + 1, c7, Dl ++ [(A1, c1, f)], rfl, HG7.out.set_ 0 _, O7.out.keepT (turns_cell _ _ _ _) HG7.out (by decide), P8.out, by rw [bytesOf_snoc, HLB.out]⟩
    have G8 := Lib.hid (G7'.out.far (p := ⟨g, 0, none⟩) (by exact fun e => hgw e.symm) (.slice A7 (L.length + 1) c7))
    have L8' := Lib.hid L8
    have TS := Lib.hid ts
    clear k1 k7 f7 ts L8 HL1 HLB HC G7' T7 O7 P7 R7 HG7 P8 b1 B1 o1
    go_wp2_with fail
    (with_reducible refine SU.out.mono ?_)
    rintro e w9 ⟨rfl, b9⟩
    have G9 := G8.out.below b9 G8.out.lt
    have L9 := L8'.out.new b9
    have T9 := TS.out.trans (Turns.of_new b9)
    have hz : (ints .u8 zero32).toArray.size = (ints .u8 (sumI f)).toArray.size := by simp [ints, zero32, sumI_len2]
    have H := Lib.hid (And.intro (row_of_blk G9) (And.intro (i32d (sumI_len2 f)) (And.intro hz (And.intro (ints_one .u8 (sumI f)) (blk_setRow G9 (ints .u8 (sumI f)).toArray)))))
    have T10 := Lib.hid (Turns.new_ (((T9.more (T' := w.heap.size :: g :: rowT (.slice Al nl cl)) (by intro x hx; simp at hx ⊢; simp [hx])).trans (Turns.of_far (far_setRow (g := w.heap.size) w9 (ints .u8 (sumI f)).toArray) (by simp)))) (Nat.le_refl _))
    have L10 := Lib.hid (L9.turn (T := [w.heap.size]) (Turns.of_far (far_setRow (g := w.heap.size) w9 (ints .u8 (sumI f)).toArray) (by simp)) (by simpa using hgw)
      (by intro x hx; simp at hx; subst hx; obtain ⟨A', n', c', D', e', _, o', _⟩ := L9; rw [e']; exact o'.blk_ne G9 (by decide))
      (by intro x hx _ cs hB; simp at hx; subst hx; exact Blk.ne_ G9 hB (by decide) rfl))
    obtain ⟨cs, hcs⟩ : ∃ cs, cs = (ints .u8 (sumI f)).toArray := ⟨_, rfl⟩
    have hdv : digV (sumI f) = .agg cs := by rw [hcs]; rfl
    have HV := Lib.hid hdv
    rw [← hcs] at H T10 L10 ⊢
    clear hcs hdv
    clear G9 L9 T9 b9 SU hz L8' TS G8
    go_wp2_with (refine wpList_store_row rfl 32 (.tmp 6) (.tmp 29) rfl w.heap.size cs rfl rfl _ _ H.out.1 H.out.2.1 H.out.2.2.1 H.out.2.2.2.1 ?_)
    rw [HV.out]
    exact bodyPost_ret (results_cell_row rfl _ _ w.heap.size _ cs (0, 0) _ rfl H.out.2.2.2.2 digarr rfl H.out.2.1) rfl ⟨rfl, _, L10.out, A7'.out.imp id (fun ⟨h, h1, h2⟩ => ⟨h, h1, Nat.le_trans (hW1.out) h2⟩), T10.out⟩
/-- Clones of the frames L. -/
def FramesPost (L : List (List Nat)) (w : World) (e : Ending) (w' : World) : Prop :=
  ∃ A c D, e = .returned (.slice A L.length c) ∧ Own w' w.heap.size 22 (.slice A L.length c) (recs partV D) ∧ (∀ d ∈ D, Own w' w.heap.size 5 (.slice d.1 d.2.2.length d.2.1) (nums .u8 d.2.2)) ∧ bytesOf D = L ∧ New w w'
theorem FramesPost.rows {w w' : World} {A : Option Addr} {n c : Nat} {D : List PartS} (o : Own w' w.heap.size 22 (.slice A n c) (recs partV D)) (h : ∀ d ∈ D, Own w' w.heap.size 5 (.slice d.1 d.2.2.length d.2.1) (nums .u8 d.2.2)) : RowsAt w' A n c D := by
  have hn := o.len
  rw [recsP_len] at hn
  subst hn
  exact ⟨o.reads, fun d hd => ⟨(h d hd).reads, (h d hd).cap.1, by have := (h d hd).cap.2; simp only [maxLen] at this; omega⟩, o.cap.1⟩
set_option maxHeartbeats 1000000 in
set_option maxRecDepth 100000 in
theorem lframes_any {w : World} {base g : Nat} {V : Value} {L : List (List Nat)} (hL : LogAt w base g V L) (hLn : L.length ≤ 1000000) (hl : ∀ p ∈ L, p.length ≤ 140737488355328) :
    Calls Tryd.prog 22 #[.pointer (some ⟨g, 0, none⟩)] w (FramesPost L w) := by
  obtain ⟨A, c, D, _, HR, hb, hcell⟩ := hL.rows
  have hD : D.length = L.length := by rw [← hb, bytesOf_len]
  have HR := Lib.hid HR
  have HB := Lib.hid hb
  have HD := Lib.hid hD
  have H8 := Lib.hid hl
  have HC := Lib.hid (fun (W : World) (hW : New w W) => (Below.cell hW (p := ⟨g, 0, none⟩) hL.lt).trans hcell)
  obtain ⟨n, hn⟩ : ∃ n, n = L.length := ⟨_, rfl⟩
  rw [← hn] at HR hcell HC HD hLn
  have HN := Lib.hid hn
  clear hL hl hb hn hD
  go_enter Tryd.func22, Tryd.ntmps22
  go_wp2_with (refine wpList_mk elR rfl (.tmp 10) (.tmp 10) rfl (W := w) (B := w.heap.size) n n rfl rfl rfl rfl (Nat.le_refl _) (Below.refl _ _) (Nat.le_refl _) rfl (by omega) (by simp only [maxLen]; omega) ?_
               intro w1 o1 g1 b1 s1
               have k1 := HC.out w1 b1
               have O1 : Hid (∃ D2 : List PartS, D2.length = 0 ∧ Own w1 w.heap.size 22 (.slice (some ⟨w.heap.size, 0, none⟩) n n) (recs partV D2 ++ List.replicate (n - 0) (.slice none 0 0)) ∧ (∀ d ∈ D2, Own w1 w.heap.size 5 (.slice d.1 d.2.2.length d.2.1) (nums .u8 d.2.2)) ∧ bytesOf D2 = L.take 0) := Lib.hid ⟨[], rfl, o1, (fun d hd => nomatch hd), rfl⟩
               have B1 := Lib.hid b1
               clear o1 g1 s1 b1)
  clear k1 hcell
  go_loopw [17] (fun i wr => ∃ k : Nat, k ≤ n ∧ i = .int .i64 (k : Int) ∧ Hid (∃ D2 : List PartS, D2.length = k ∧ Own wr w.heap.size 22 (.slice (some ⟨w.heap.size, 0, none⟩) n n) (recs partV D2 ++ List.replicate (n - k) (.slice none 0 0)) ∧ (∀ d ∈ D2, Own wr w.heap.size 5 (.slice d.1 d.2.2.length d.2.1) (nums .u8 d.2.2)) ∧ bytesOf D2 = L.take k) ∧ Hid (New w wr)) (fun i _ => n - (intOf i).toNat)
  case atStart => exact ⟨0, by omega, rfl, O1, B1⟩
  case round =>
    clear O1 B1
    obtain ⟨k, hk, rfl, O, b⟩ := hrel
    by_cases hlt : k < n
    · have hkD : k < D.length := by rw [HD.out]; exact hlt
      obtain ⟨ad, rfl, _⟩ := HR.out.at_ hkD
      have kc := HR.out.cells hkD wr b.out
      have RD := ((HR.out.later b.out).parts.at_ hkD).1
      have e1 := bytesOf_at D k
      have tk := take_snoc L k [] (by rw [← HN.out]; exact hlt)
      have g1 := H8.out _ (mem_getD (L := L) (k := k) (by rw [← HN.out]; exact hlt))
      rw [HB.out] at e1
      rw [e1] at g1 tk
      generalize D.getD k (none, 0, []) = d at *
      have TK := Lib.hid tk
      have CL := Lib.hid (bclone_any (c := d.2.1) RD g1)
      clear e1 tk g1 RD
      go_wp2_with (go_at_call 40; refine CL.out.mono ?_; rintro e w5 ⟨A5, n5, c5, rfl, o5, b5⟩
                   obtain ⟨D2, h1, h2, h3, h4⟩ := O.out
                   have o2 := h2.later b5
                   obtain ⟨g', u, hA, hge, hlt', hx, k0, f0, st⟩ := o2.at_ (i := k) hlt
                   obtain rfl : w.heap.size = g' := by injection hA with hA; injection hA
                   have k0 : w5.cell? ⟨w.heap.size, k, none⟩ = some u := k0
                   have f0 : w5.frozen? ⟨w.heap.size, k, none⟩ = false := f0
                   obtain ⟨cs, hcs⟩ := Own.row o2 w.heap.size rfl
                   have s5 := st (.slice A5 n5 c5)
                   have S5 := Lib.hid s5
                   have CS := Lib.hid hcs
                   have O5 := Lib.hid o5
                   have OO := Lib.hid (And.intro h1 (And.intro h3 h4))
                   have B5 := Lib.hid (New.trans b.out b5)
                   have BB := Lib.hid b5
                   clear h1 h2 h3 h4 o2 st s5 hcs o5 b5 hx O)
      clear k0 f0 kc
      have hn5 : n5 = d.2.2.length := by have := O5.out.len; rwa [nums_length] at this
      subst hn5
      have b6 := Lib.hid (B5.out.setCell (p := ⟨w.heap.size, k, none⟩) (Nat.le_refl _) (.slice A5 d.2.2.length c5))
      have O6 : Hid (∃ D2 : List PartS, D2.length = k + 1 ∧ Own (w5.setCell ⟨w.heap.size, k, none⟩ (.slice A5 d.2.2.length c5)) w.heap.size 22 (.slice (some ⟨w.heap.size, 0, none⟩) n n) (recs partV D2 ++ List.replicate (n - (k + 1)) (.slice none 0 0)) ∧ (∀ x ∈ D2, Own (w5.setCell ⟨w.heap.size, k, none⟩ (.slice A5 d.2.2.length c5)) w.heap.size 5 (.slice x.1 x.2.2.length x.2.1) (nums .u8 x.2.2)) ∧ bytesOf D2 = L.take (k + 1)) := Lib.hid (by
        obtain ⟨h1, h3, h4⟩ := OO.out
        refine ⟨D2 ++ [(A5, c5, d.2.2)], by rw [List.length_append, h1]; rfl, ?_, ?_, by rw [bytesOf_snoc, h4, TK.out]⟩
        · have s6 := S5.out
          rw [show n - k = (n - (k + 1)) + 1 by omega] at s6
          rw [← recsP_set D2 (A5, c5, d.2.2) k _ h1]
          exact s6
        · intro x hx
          rcases List.mem_append.1 hx with hx | hx
          · exact ((h3 x hx).later BB.out).keepT (turns_cell _ _ _ _) CS.out (by decide)
          · obtain rfl := List.mem_singleton.1 hx
            exact ((O5.out.base_le (b' := w.heap.size) (b.out.size)).keepT (turns_cell _ _ _ _) CS.out (by decide)))
      clear S5 CS O5 OO B5 BB TK
      go_roundw
      case rel => exact ⟨k + 1, by omega, by go_num, O6, b6⟩
      case measure => simp [intOf]; omega
    · obtain rfl : k = n := by omega
      obtain ⟨D2, h1, h2, h3, h4⟩ := O.out
      rw [Nat.sub_self, List.replicate_zero, List.append_nil] at h2
      have hL : bytesOf D2 = L := by rw [h4, List.take_of_length_le (by rw [← HN.out]; omega)]
      have F : Hid (FramesPost L w (.returned (.slice (some ⟨w.heap.size, 0, none⟩) k k)) wr) := Lib.hid ⟨_, k, D2, by rw [← HN.out], by rw [← HN.out]; exact h2, h3, hL, b.out⟩
      clear h1 h2 h3 h4 hL O b
      go_wp2
      go_ret
      exact F.out

end Go.Proofs.YtgfemjpeegbhhaaDoor
/- Arrays of numbers are compared. No program is named here. -/

namespace Go.Hm
open Go Go.RowKit

section
variable {P : Program} {e : TypeId} {k : IntKind}
theorem run_eqItems_ints (d : Nat) (he : P.underlying e = some (.int k)) (hk : P.plainKey e = true) (l m : List Int) (w : World) : ∀ is : List Nat, (∀ i ∈ is, i < l.length ∧ i < m.length) →
    (Op.eqItems (d + 1) e 1 (ints k l).toArray (ints k m).toArray is).run P w = .ok (is.all fun i => l.getD i 0 == m.getD i 0) w
  | [], _ => by simp [Op.eqItems]
  | i :: is, h => by
    obtain ⟨h1, h2⟩ := h i (by simp)
    have p1 := run_part_plain (P := P) w hk (xs := (ints k l).toArray) (off := i * 1) (v := .int k (l.getD i 0)) (by simpa using ints_at k l i h1)
    have p2 := run_part_plain (P := P) w hk (xs := (ints k m).toArray) (off := i * 1) (v := .int k (m.getD i 0)) (by simpa using ints_at k m i h2)
    have ih := run_eqItems_ints d he hk l m w is (fun j hj => h j (by simp [hj]))
    have q := run_equalIn_int (P := P) w d e k k (l.getD i 0) (m.getD i 0) he
    simp only [Op.eqItems, Sem.run_bind, p1, p2, q, Result.andThen_ok, List.all_cons]
    cases hb : (l.getD i 0 == m.getD i 0)
    · simp
    · simp [ih]
theorem range_all {l m : List Int} (h : l.length = m.length) : ((List.range l.length).all fun i => l.getD i 0 == m.getD i 0) = (l == m) := by
  rw [Bool.eq_iff_iff, List.all_eq_true, beq_iff_eq]
  constructor
  · intro hh
    refine List.ext_getElem h fun i h1 h2 => ?_
    have := hh i (List.mem_range.2 h1)
    rw [List.getD_eq_getElem?_getD, List.getElem?_eq_getElem h1, List.getD_eq_getElem?_getD, List.getElem?_eq_getElem h2] at this
    simpa using this
  · rintro rfl i _
    simp
theorem run_eql_arr {t : TypeId} {n : Nat} (hu : P.underlying t = some (.array n e)) (he : P.underlying e = some (.int k)) (hk : P.plainKey e = true) (hi : (P.info? e).isSome = true) (hc : P.cellsOf e = 1) (l m : List Int) (hl : l.length = n) (hm : m.length = n) (w : World) :
    (binOp .eql t (.agg (ints k l).toArray) (.agg (ints k m).toArray)).run P w = .ok (.bool (l == m)) w := by
  cases hq : P.info? e with
  | none => rw [hq] at hi; cases hi
  | some i =>
    rw [run_eql_struct, run_equalIn_array w 9999 _ _ hu hq, hc, run_eqItems_ints 9998 he hk l m w _ (fun i hi => by have := List.mem_range.1 hi; omega), ← hl, range_all (by omega)]
    simp [Result.andThen]
end

end Go.Hm
/- Contracts on tag.extract, tag.Extract. -/

namespace Go.Hm
open Go Go.RowKit
theorem extractO_nil (B : List (List Nat)) : extractO [] B = none := rfl
theorem extractO_step (A B : List (List Nat)) (k : Nat) (hk : k < A.length) : extractO (A.drop k) B = (match (B.find? fun y => decide (A.getD k [] ≠ y ∧ sumI (A.getD k []) = sumI y)) with | some y => some (A.getD k [], y) | none => extractO (A.drop (k + 1)) B) := by
  have e : A.drop k = A.getD k [] :: A.drop (k + 1) := by
    rw [List.drop_eq_getElem_cons hk, List.getD_eq_getElem?_getD, List.getElem?_eq_getElem hk, Option.getD_some]
  rw [e]
  show List.findSome? _ _ = _
  rw [List.findSome?_cons]
  cases (B.find? fun y => decide (A.getD k [] ≠ y ∧ sumI (A.getD k []) = sumI y)) <;> rfl

end Go.Hm

namespace Go.Proofs.YtgfemjpeegbhhaaDoor
open Go.RowKit Go.Hm
theorem eqDig2 (l m : List Nat) (W : World) : (binOp .eql 32 (.agg (ints .u8 (sumI l)).toArray) (.agg (ints .u8 (sumI m)).toArray)).run Tryd.prog W = .ok (.bool (sumI l == sumI m)) W :=
  run_eql_arr digarr (by kernel_rfl) (by kernel_rfl) (by kernel_rfl) (by kernel_rfl) _ _ (sumI_len2 l) (sumI_len2 m) W
/-- Two rows of bytes, or none. -/
def TwoPost (o : Option (List Nat × List Nat)) (w : World) (e : Ending) (w' : World) : Prop :=
  ∃ A n c B m d, e = .returned (.tuple #[.slice A n c, .slice B m d, .bool o.isSome]) ∧ Reads w' w'.heap.size 1 A n (nums .u8 ((o.map Prod.fst).getD [])) ∧ Reads w' w'.heap.size 1 B m (nums .u8 ((o.map Prod.snd).getD [])) ∧ (n ≤ c ∧ c ≤ 9223372036854775807) ∧ (m ≤ d ∧ d ≤ 9223372036854775807) ∧ New w w'
theorem TwoPost.none_ {w w' : World} (h : New w w') : TwoPost none w (.returned (.tuple #[.slice none 0 0, .slice none 0 0, .bool false])) w' :=
  ⟨none, 0, 0, none, 0, 0, rfl, Reads.none_, Reads.none_, ⟨by omega, by omega⟩, ⟨by omega, by omega⟩, h⟩
theorem TwoPost.some_ {w w' W : World} {A B : Option Addr} {n c m d base base2 : Nat} {x y : List Nat} (h : New w w') (o1 : Own W base 5 (.slice A n c) (nums .u8 x)) (hb : New W w') (o2 : Own w' base2 5 (.slice B m d) (nums .u8 y)) : TwoPost (some (x, y)) w (.returned (.tuple #[.slice A n c, .slice B m d, .bool true])) w' :=
  ⟨A, n, c, B, m, d, rfl, (o1.later hb).reads, o2.reads, ⟨o1.cap.1, by have := o1.cap.2; simp only [maxLen] at this; omega⟩, ⟨o2.cap.1, by have := o2.cap.2; simp only [maxLen] at this; omega⟩, h⟩
set_option maxHeartbeats 4000000 in
set_option maxRecDepth 100000 in
theorem extract_any {w : World} {A B : Option Addr} {n c m d : Nat} {D E : List PartS} (h : RowsAt w A n c D) (k : RowsAt w B m d E) (hn : n ≤ 9223372036854775806) (hm : m ≤ 9223372036854775806) (h8 : ∀ p ∈ bytesOf D, (∀ x ∈ p, x < 256) ∧ p.length ≤ 1000000) (k8 : ∀ p ∈ bytesOf E, (∀ x ∈ p, x < 256) ∧ p.length ≤ 1000000) (hC : ConstIn w) :
    Calls Tryd.prog 42 #[.slice A n c, .slice B m d, .func (.func 28) #[] #[]] w (TwoPost (extractO (bytesOf D) (bytesOf E)) w) := by
  obtain rfl := h.len
  obtain rfl := k.len
  have HR := Lib.hid h
  have KR := Lib.hid k
  have H8 := Lib.hid h8
  have K8 := Lib.hid k8
  have HC := Lib.hid hC
  have HB := Lib.hid (bytesOf_len D)
  have KB := Lib.hid (bytesOf_len E)
  have PA := Lib.hid (pairs_any k hm k8 hC)
  obtain ⟨X, hX⟩ : ∃ X, X = extractO (bytesOf D) (bytesOf E) := ⟨_, rfl⟩
  rw [← hX]
  have HX : Hid (X = extractO ((bytesOf D).drop 0) (bytesOf E)) := Lib.hid hX
  clear h k h8 k8 hC hX
  go_enter Tryd.func42, Tryd.ntmps42
  go_wp2_with fail
  (with_reducible refine PA.out.mono ?_)
  rintro e w0 ⟨rfl, M0, b0⟩
  have M0 := Lib.hid M0
  have B0 := Lib.hid b0
  clear b0 PA
  go_wp2
  go_loopw [19] (fun i wr => ∃ k : Nat, k ≤ D.length ∧ i = .int .i64 (k : Int) ∧ Hid (X = extractO ((bytesOf D).drop k) (bytesOf E)) ∧ Hid (MapF Tryd.prog 32 wr w.heap.size E.length (pairsF (bytesOf E) E.length)) ∧ Hid (New w wr)) (fun i _ => D.length - (intOf i).toNat)
  case atStart => exact ⟨0, by omega, rfl, HX, M0, B0⟩
  case round =>
    clear M0 B0 HX
    obtain ⟨k, hk, rfl, HX, M, b⟩ := hrel
    by_cases hlt : k < D.length
    · obtain ⟨ad, rfl, _⟩ := HR.out.at_ hlt
      have hc := HR.out.cells hlt wr b.out
      have RD := ((HR.out.later b.out).parts.at_ hlt)
      have e1 := bytesOf_at D k
      have g1 := H8.out _ (mem_getD (L := bytesOf D) (k := k) (by rw [HB.out]; exact hlt))
      have hst := extractO_step (bytesOf D) (bytesOf E) k (by rw [HB.out]; exact hlt)
      rw [find_pairs, KB.out] at hst
      rw [e1] at g1 hst
      rw [← HX.out] at hst
      generalize D.getD k (none, 0, []) = d at *
      have SU := Lib.hid (sum_any (c := d.2.1) RD.1 g1.1 RD.2.1 g1.2 (HC.out.new b.out))
      have HST := Lib.hid hst
      clear hst
      go_wp2_with fail
      refine SU.out.mono ?_
      rintro e w1 ⟨rfl, b1⟩
      have M1 := Lib.hid (M.out.new b1)
      obtain ⟨cs, hcs⟩ : ∃ cs, cs = (ints .u8 (sumI d.2.2)).toArray := ⟨_, rfl⟩
      have HD := Lib.hid (show .agg cs = digV (sumI d.2.2) by rw [hcs]; rfl)
      rw [← hcs]
      have KY := Lib.hid (keyAt d.2.2)
      have RDD := Lib.hid RD.1
      have G8 := Lib.hid g1
      have HE1 := Lib.hid e1
      have B1 := Lib.hid (New.trans b.out b1)
      clear hcs RD e1 SU M
      cases hf : pairsF (bytesOf E) E.length (sumI d.2.2) with
      | none =>
        have HF := Lib.hid hf
        have HN := HST.out
        rw [hf] at HN
        have HX2 : Hid (X = extractO ((bytesOf D).drop (k + 1)) (bytesOf E)) := Lib.hid HN
        have c2 : New w1 (w1.alloc (.cells #[.int .i64 0, .int .i64 0] 89)) := (Below.refl _ _).alloc (Nat.le_refl _) _
        have M2 := Lib.hid (M1.out.new c2)
        have B2 := Lib.hid (New.trans B1.out c2)
        clear hf HN c2 b1 HST
        go_wp2_with (first
          | (rw [HD.out]; refine wpList_lookF rfl (.tmp 24) (.tmp 27) 86 rfl keyedK mapT (zeroPair _) M1.out KY.out rfl rfl ?_; rw [HF.out]; simp only [pairV, Option.getD_none, Option.isSome_none])
          | fail)
        go_roundw
        case rel => exact ⟨k + 1, by omega, by go_num, HX2, M2, B2⟩
        case measure => simp [intOf]; omega
      | some p =>
        have hpi := pairsF_is (bytesOf E) E.length (sumI d.2.2)
        rw [hf] at hpi
        obtain ⟨a, ha, h1, _, _, h4⟩ := hpi
        obtain ⟨p1, p2⟩ := p
        obtain rfl : p1 = (a : Int) := h1
        have hp2b : p2 ≠ -1 → ∃ b, b < E.length ∧ p2 = (b : Int) := by
          rcases h4 with ⟨h5, _⟩ | ⟨b, hb, h5, _⟩
          · exact fun h => absurd h5 h
          · exact fun _ => ⟨b, hb, h5⟩
        have HN := HST.out
        rw [hf] at HN
        simp only [Int.toNat_natCast] at HN
        have c2 : New w1 (w1.alloc (.cells #[.int .i64 (a : Int), .int .i64 p2] 89)) := (Below.refl _ _).alloc (Nat.le_refl _) _
        have M2 := Lib.hid (M1.out.new c2)
        have b3 := New.trans B1.out c2
        have g3 := Blk.new w1 89 #[.int .i64 (a : Int), .int .i64 p2]
        obtain ⟨ae, rfl, _⟩ := KR.out.at_ ha
        have ca := KR.out.cells ha _ b3
        have Ra := ((KR.out.later b3).parts.at_ ha).1
        have KA := Lib.hid (fun (W : World) (hW : New w W) => KR.out.cells ha W hW)
        have La := (K8.out _ (mem_getD (L := bytesOf E) (k := a) (by rw [KB.out]; exact ha)))
        have ea := bytesOf_at E a
        rw [ea] at La HN
        have rd := Reads.later RDD.out (New.trans b1 c2)
        generalize E.getD a (none, 0, []) = x at *
        have EQ := Lib.hid (equal_any (c := d.2.1) (e := x.2.1) rd Ra G8.out.1 La.1)
        have C1 := Lib.hid (fun (W : World) (hW : New (w1.alloc (.cells #[.int .i64 (a : Int), .int .i64 p2] 89)) W) => bclone_any (c := d.2.1) (Reads.later rd hW) (by have := G8.out.2; omega))
        have C2 := Lib.hid (fun (W : World) (hW : New (w1.alloc (.cells #[.int .i64 (a : Int), .int .i64 p2] 89)) W) => bclone_any (c := x.2.1) (Reads.later Ra hW) (by have := La.2; omega))
        have GC := Lib.hid (fun (W : World) (hW : New (w1.alloc (.cells #[.int .i64 (a : Int), .int .i64 p2] 89)) W) => And.intro ((g3.below hW g3.lt).cell 0) ((g3.below hW g3.lt).cell 1))
        have HF := Lib.hid hf
        have B3 := Lib.hid b3
        by_cases hx : d.2.2 = x.2.2
        · rw [decide_eq_true hx] at EQ
          rw [if_neg (fun h => h hx)] at HN
          by_cases hp2 : p2 = -1
          · have d1 : (p2 == (-1 : Int)) = true := by rw [beq_iff_eq]; exact hp2
            have d2 : (p2 != (-1 : Int)) = false := by rw [bne_eq_false_iff_eq]; exact hp2
            rw [if_neg (fun h => h hp2)] at HN
            have HX2 : Hid (X = extractO ((bytesOf D).drop (k + 1)) (bytesOf E)) := Lib.hid HN
            subst hp2
            clear hf HN c2 b1 HST h4 hp2b rd Ra b3 La ea hx C1 C2 GC g3
            go_wp2_with (first
              | (rw [HD.out]; refine wpList_lookF rfl (.tmp 24) (.tmp 27) 86 rfl keyedK mapT (zeroPair _) M1.out KY.out rfl rfl ?_; rw [HF.out]; simp only [pairV, Option.getD_some, Option.isSome_some])
              | (go_at_call 64; (with_reducible refine EQ.out.mono ?_); rintro e5 w5 ⟨rfl, rfl⟩)
              | fail)
            go_roundw
            case rel => exact ⟨k + 1, by omega, by go_num, HX2, M2, B3⟩
            case measure => simp [intOf]; omega
          · have d1 : (p2 == (-1 : Int)) = false := by rw [beq_eq_false_iff_ne]; exact hp2
            have d2 : (p2 != (-1 : Int)) = true := by rw [bne_iff_ne]; exact hp2
            rw [if_pos hp2] at HN
            obtain ⟨q, hq, rfl⟩ := hp2b hp2
            have KQ := Lib.hid (fun (W : World) (hW : New w W) => KR.out.cells hq W hW)
            have Rq := ((KR.out.later b3).parts.at_ hq).1
            have Lq := (K8.out _ (mem_getD (L := bytesOf E) (k := q) (by rw [KB.out]; exact hq)))
            have eq := bytesOf_at E q
            rw [Int.toNat_natCast, eq] at HN
            rw [eq] at Lq
            generalize E.getD q (none, 0, []) = y at *
            have C3 := Lib.hid (fun (W : World) (hW : New (w1.alloc (.cells #[.int .i64 (a : Int), .int .i64 (q : Int)] 89)) W) => bclone_any (c := y.2.1) (Reads.later Rq hW) (by have := Lq.2; omega))
            have HN := Lib.hid HN
            clear hf c2 b1 HST h4 hp2b rd Ra b3 La ea hx C2 hp2 Rq Lq eq M2 g3
            go_wp2_with (first
              | (rw [HD.out]; refine wpList_lookF rfl (.tmp 24) (.tmp 27) 86 rfl keyedK mapT (zeroPair _) M1.out KY.out rfl rfl ?_; rw [HF.out]; simp only [pairV, Option.getD_some, Option.isSome_some])
              | (go_at_call 64; (with_reducible refine EQ.out.mono ?_); rintro e5 w5 ⟨rfl, rfl⟩)
              | fail)
            refine wp_region_up New [(true, 0), (true, 2), (true, 3), (true, 4), (true, 5), (true, 6), (false, 1), (false, 7), (true, 8), (true, 9), (true, 10)]
              New.refl New.trans (by kernel_rfl) (by kernel_rfl) (by kernel_rfl) (by kernel_rfl) ?_
            have hU := New.drew (w1.alloc (.cells #[.int .i64 (a : Int), .int .i64 (q : Int)] 89))
            iterate 6 (
              refine up_quiet rfl rfl (v := ?_) (fun W hW => ?_) ?_
              rotate_left
              · have c0 := GC.out W (New.trans hU hW)
                have c2 := KQ.out W (New.trans B3.out (New.trans hU hW))
                go_simp <;> with_reducible rfl
              simp only [Act.put, List.setIfInBounds_toArray, List.set_cons_zero, List.set_cons_succ])
            refine up_call rfl rfl (fun K hK => ?_)
            go_simp
            (with_reducible refine (C1.out _ hU).mono ?_)
            rintro e8 u8 ⟨A8, n8, c8, rfl, o8, b8⟩
            refine hK _ _ b8 ?_
            clear hK
            replace hU := New.trans hU b8
            refine up_call rfl rfl (fun K hK => ?_)
            go_simp
            (with_reducible refine (C3.out _ hU).mono ?_)
            rintro e9 u9 ⟨A9, n9, c9, rfl, o9, b9⟩
            refine hK _ _ b9 ?_
            clear hK
            replace hU := New.trans hU b9
            iterate 3 (
              refine up_quiet rfl rfl (v := ?_) (fun W hW => ?_) ?_
              rotate_left
              · skip
                go_simp <;> with_reducible rfl
              simp only [Act.put, List.setIfInBounds_toArray, List.set_cons_zero, List.set_cons_succ])
            refine up_nil ?_
            have RES := Lib.hid (TwoPost.some_ (New.trans B3.out hU) o8 b9 o9)
            clear o8 o9 hU b8 b9
            go_wp2
            go_ret3
            rw [HN.out]
            exact RES.out
        · rw [decide_eq_false hx] at EQ
          rw [if_pos hx] at HN
          have HN := Lib.hid HN
          clear hf c2 b1 HST h4 hp2b rd Ra b3 La ea hx M2 g3
          go_wp2_with (first
            | (rw [HD.out]; refine wpList_lookF rfl (.tmp 24) (.tmp 27) 86 rfl keyedK mapT (zeroPair _) M1.out KY.out rfl rfl ?_; rw [HF.out]; simp only [pairV, Option.getD_some, Option.isSome_some])
            | (go_at_call 64; (with_reducible refine EQ.out.mono ?_); rintro e5 w5 ⟨rfl, rfl⟩)
            | fail)
          refine wp_region_up New [(true, 0), (true, 2), (true, 3), (true, 4), (true, 5), (true, 6), (false, 1), (false, 7), (true, 8), (true, 9), (true, 10)]
            New.refl New.trans (by kernel_rfl) (by kernel_rfl) (by kernel_rfl) (by kernel_rfl) ?_
          have hU := New.drew (w1.alloc (.cells #[.int .i64 (a : Int), .int .i64 p2] 89))
          iterate 6 (
            refine up_quiet rfl rfl (v := ?_) (fun W hW => ?_) ?_
            rotate_left
            · have c0 := GC.out W (New.trans hU hW)
              have c2 := KA.out W (New.trans B3.out (New.trans hU hW))
              go_simp <;> with_reducible rfl
            simp only [Act.put, List.setIfInBounds_toArray, List.set_cons_zero, List.set_cons_succ])
          refine up_call rfl rfl (fun K hK => ?_)
          go_simp
          (with_reducible refine (C1.out _ hU).mono ?_)
          rintro e8 u8 ⟨A8, n8, c8, rfl, o8, b8⟩
          refine hK _ _ b8 ?_
          clear hK
          replace hU := New.trans hU b8
          refine up_call rfl rfl (fun K hK => ?_)
          go_simp
          (with_reducible refine (C2.out _ hU).mono ?_)
          rintro e9 u9 ⟨A9, n9, c9, rfl, o9, b9⟩
          refine hK _ _ b9 ?_
          clear hK
          replace hU := New.trans hU b9
          iterate 3 (
            refine up_quiet rfl rfl (v := ?_) (fun W hW => ?_) ?_
            rotate_left
            · skip
              go_simp <;> with_reducible rfl
            simp only [Act.put, List.setIfInBounds_toArray, List.set_cons_zero, List.set_cons_succ])
          refine up_nil ?_
          have RES := Lib.hid (TwoPost.some_ (New.trans B3.out hU) o8 b9 o9)
          clear o8 o9 hU b8 b9
          go_wp2
          go_ret3
          rw [HN.out]
          exact RES.out
    · obtain rfl : k = D.length := by omega
      have hx := HX.out
      rw [List.drop_of_length_le (by rw [HB.out]; omega), extractO_nil] at hx
      have HN := Lib.hid hx
      clear hx
      go_wp2
      go_ret3
      rw [HN.out]
      exact TwoPost.none_ b.out

end Go.Proofs.YtgfemjpeegbhhaaDoor
/- Contracts on tag.Extract, hypostyleref02.Extract. -/

namespace Go.Proofs.YtgfemjpeegbhhaaDoor
open Go.RowKit Go.Hm
set_option maxHeartbeats 1000000 in
set_option maxRecDepth 100000 in
theorem lextract_any {w : World} {bx gx by_ gy : Nat} {Vx Vy : Value} {L M : List (List Nat)} (hx : LogAt w bx gx Vx L) (hy : LogAt w by_ gy Vy M) (hL : L.length ≤ 1000000) (hM : M.length ≤ 1000000) (h8 : ∀ p ∈ L, (∀ x ∈ p, x < 256) ∧ p.length ≤ 1000000) (k8 : ∀ p ∈ M, (∀ x ∈ p, x < 256) ∧ p.length ≤ 1000000) (hC : ConstIn w) :
    Calls Tryd.prog 27 #[.pointer (some ⟨gx, 0, none⟩), .pointer (some ⟨gy, 0, none⟩)] w (TwoPost (extractO L M) w) := by
  obtain ⟨A, c, D, _, HR, hb, hcell⟩ := hx.rows
  obtain ⟨B, d, E, _, KR, kb, kcell⟩ := hy.rows
  have EX : ∀ W : World, New w W → Calls Tryd.prog 42 #[.slice A L.length c, .slice B M.length d, .func (.func 28) #[] #[]] W (TwoPost (extractO L M) W) := fun W hW => by
    have := extract_any (HR.later hW) (KR.later hW) (by omega) (by omega) (by rw [hb]; exact h8) (by rw [kb]; exact k8) (hC.new hW)
    rwa [hb, kb] at this
  have EX := Lib.hid EX
  have CX := Lib.hid (fun (W : World) (hW : New w W) => (Below.cell hW (p := ⟨gx, 0, none⟩) hx.lt).trans hcell)
  have CY := Lib.hid (fun (W : World) (hW : New w W) => (Below.cell hW (p := ⟨gy, 0, none⟩) hy.lt).trans kcell)
  generalize L.length = n at *
  generalize M.length = m at *
  generalize extractO L M = o at *
  clear HR KR hb kb hcell kcell h8 k8 hC hx hy hL hM
  go_enter Tryd.func27, Tryd.ntmps27
  go_wp2
  refine wp_region_up New [(true, 0), (true, 1), (true, 2), (true, 3), (true, 4), (true, 5), (true, 6), (true, 7), (false, 8), (true, 9), (true, 10), (true, 11), (true, 12), (true, 13), (true, 14)]
    New.refl New.trans (by kernel_rfl) (by kernel_rfl) (by kernel_rfl) (by kernel_rfl) ?_
  have hU := New.drew w
  iterate 8 (
    refine up_quiet rfl rfl (v := ?_) (fun W hW => ?_) ?_
    rotate_left
    · have c0 := CX.out W (New.trans hU hW)
      have c2 := CY.out W (New.trans hU hW)
      go_simp <;> with_reducible rfl
    simp only [Act.put, List.setIfInBounds_toArray, List.set_cons_zero, List.set_cons_succ])
  refine up_call rfl rfl (fun K hK => ?_)
  go_simp
  (with_reducible refine (EX.out _ hU).mono ?_)
  rintro e u h
  obtain ⟨A1, n1, c1, A2, n2, c2, rfl, r1, r2, k1, k2, b1⟩ := h
  refine hK _ _ b1 ?_
  clear hK
  replace hU := New.trans hU b1
  iterate 6 (
    refine up_quiet rfl rfl (v := ?_) (fun W hW => ?_) ?_
    rotate_left
    · skip
      go_simp <;> with_reducible rfl
    simp only [Act.put, List.setIfInBounds_toArray, List.set_cons_zero, List.set_cons_succ])
  refine up_nil ?_
  have RES : Hid (TwoPost o w (.returned (.tuple #[.slice A1 n1 c1, .slice A2 n2 c2, .bool o.isSome])) u) := Lib.hid ⟨A1, n1, c1, A2, n2, c2, rfl, r1, r2, k1, k2, hU⟩
  clear r1 r2 k1 k2 b1 hU EX CX CY
  go_wp2
  go_ret3
  exact RES.out

end Go.Proofs.YtgfemjpeegbhhaaDoor
/- Contracts of package cursor: laying numbers. -/

namespace Go.Proofs.YtgfemjpeegbhhaaDoor
open Go.RowKit Go.Hm


set_option maxHeartbeats 1000000 in
set_option maxRecDepth 100000 in
theorem put_u64 {w : World} {A : Option Addr} {n c : Nat} {l : List Nat} (x : Nat) (h : Reads w w.heap.size 1 A n (nums .u8 l)) (hl : n ≤ 140737488355200) :
    Calls Tryd.prog 58 #[.slice A n c, .int .u64 (x : Int), .int .i64 8] w (BytesPost (l ++ low x 8) w) := by
  obtain rfl := h.len
  go_enter Tryd.func58, Tryd.ntmps58
  go_wp2_with (first
    | (refine wpList_mk elB rfl (.tmp 10) (.tmp 14) rfl (W := w) (B := w.heap.size) l.length (l.length + 8) rfl rfl rfl (by simp) (by omega) (Below.refl _ _) (Nat.le_refl _) rfl (by omega) (by simp only [maxLen]; omega) ?_
       intro w1 hown1 hg1 hb1 hs1)
    | (refine wpList_cp elB rfl (.tmp 16) (.tmp 17) rfl (W := w) (B := w.heap.size) hown1 (h.grown_far hg1 (by simp)) rfl rfl l.length (Nat.min_self _) hb1 (Nat.le_refl _) (nums_oneCell _ _) ?_
       intro w2 hown2 hg2 hb2 hs2))
  rw [List.take_of_length_le (by rw [nums_length]; omega), List.drop_of_length_le (by simp), List.append_nil] at hown2
  have hs0 := hb2.size
  clear hown1 hg1 hb1 hs1 hg2 hs2
  go_loopw [7, 20] (fun v i wr => ∃ (k : Nat) (A : Option Addr) (c : Nat), k ≤ 8 ∧ i = .int .i64 (k : Int) ∧ v = .slice A (l.length + k) c ∧ Own wr w.heap.size 5 (.slice A (l.length + k) c) (nums .u8 (l ++ low x k)) ∧ Below w.heap.size w wr) (fun _ i _ => 8 - (intOf i).toNat)
  case atStart => exact ⟨0, _, _, by omega, rfl, rfl, by simpa [low] using hown2, hb2⟩
  case round =>
    obtain ⟨k, A', c', hk, rfl, rfl, hown, hb⟩ := hrel
    have hz := hb.size
    by_cases hlt : k < 8
    · have S := Lib.hid (byte_at x k)
      have hlen : (l ++ low x k).length = l.length + k := by rw [List.length_append, low_len]
      have HL := Lib.hid hlen
      clear hlen
      go_wp2_with (first
        | (refine wpList_pushN elB rfl (.tmp 23) (.tmp 29) rfl (W := w) (B := w.heap.size) hown rfl rfl (x / 256 ^ k % 256) (by rw [S.out]) hb (Nat.le_refl _) (by omega) (by omega) (by simp only [maxLen]; omega) ?_
           intro A3 c3 w3 _ _ hown3 hg3 hb3 _ _))
      go_roundw
      case rel => exact ⟨k + 1, A3, c3, by omega, by go_num, rfl, by rw [List.append_assoc] at hown3; exact hown3, hb3⟩
      case measure => simp [intOf]; omega
    · obtain rfl : k = 8 := by omega
      go_wp2
      go_ret
      exact ⟨A', _, c', rfl, hown, hb⟩

set_option maxHeartbeats 1000000 in
set_option maxRecDepth 100000 in
theorem lay_u64 {w : World} {A : Option Addr} {n c : Nat} {l : List Nat} (x : Nat) (h : Reads w w.heap.size 1 A n (nums .u8 l)) (hl : n ≤ 140737488355200) :
    Calls Tryd.prog 37 #[.slice A n c, .int .u64 (x : Int)] w (BytesPost (l ++ low x 8) w) := by
  obtain rfl := h.len
  go_enter Tryd.func37, Tryd.ntmps37
  go_wp2_with (go_at_call 58; refine (put_u64 x h hl).mono ?_; rintro e w1 ⟨A', n', c', rfl, k1, k2⟩)
  go_ret
  exact ⟨A', n', c', rfl, k1, k2⟩

end Go.Proofs.YtgfemjpeegbhhaaDoor
/- Contracts of the document's own answer for layer 3. -/

namespace Go.Proofs.YtgfemjpeegbhhaaDoor
open Go.RowKit Go.Hm

set_option maxHeartbeats 400000 in
set_option maxRecDepth 100000 in
theorem rlow_any {w : World} {A : Option Addr} {n c : Nat} {l : List Nat} (x k0 : Nat) (h : Reads w w.heap.size 1 A n (nums .u8 l)) (hl : n ≤ 140737488355200) (hk0 : k0 ≤ 8) (hx : x ≤ 18446744073709551615) :
    Calls Tryd.prog 39 #[.slice A n c, .int .u64 (x : Int), .int .i64 (k0 : Int)] w (BytesPost (l ++ low x k0) w) := by
  obtain rfl := h.len
  go_enter Tryd.func39, Tryd.ntmps39
  go_wp2_with (first
    | (refine wpList_pushesN elB rfl (.tmp 9) (.tmp 10) rfl (W := w) (B := w.heap.size) (k := .u8) (l := []) (l2 := l) (c2 := c) (Own.empty _ _) ((h.alloc (Nat.le_refl _) _).more (by simp)) rfl rfl ((Below.refl _ _).alloc (Nat.le_refl _) _) (Nat.le_refl _) (by simp) (by omega) (by simp only [maxLen]; omega) ?_
       simp only [Nat.zero_add, List.nil_append]
       intro A1 c1 w1 _ _ o1 _ b1 _))
  have hs0 := b1.size
  go_loopw [1, 7, 8] (fun n v i wr => ∃ (k : Nat) (A : Option Addr) (c : Nat), k ≤ k0 ∧ i = .int .i64 (k : Int) ∧ n = .int .u64 ((x / 256 ^ k : Nat) : Int) ∧ v = .slice A (l.length + k) c ∧ Own wr w.heap.size 5 (.slice A (l.length + k) c) (nums .u8 (l ++ low x k)) ∧ Below w.heap.size w wr) (fun _ _ i _ => k0 - (intOf i).toNat)
  case atStart => exact ⟨0, _, _, by omega, rfl, by simp, rfl, by simpa [low] using o1, b1⟩
  case round =>
    obtain ⟨k, A', c', hk, rfl, rfl, rfl, hown, hb⟩ := hrel
    have hz := hb.size
    have hq : x / 256 ^ k ≤ x := Nat.div_le_self _ _
    generalize hy : x / 256 ^ k = y at *
    have Hy := Lib.hid hy
    clear hy
    by_cases hlt : k < k0
    · go_wp2_with (first
        | (refine wpList_pushN elB rfl (.tmp 17) (.tmp 20) rfl (W := w) (B := w.heap.size) hown rfl rfl (y % 256) (by simp) hb (Nat.le_refl _) (by omega) (by omega) (by simp only [maxLen]; omega) ?_
           intro A3 c3 w3 _ _ hown3 hg3 hb3 _ _))
      go_roundw
      case rel => exact ⟨k + 1, A3, c3, by omega, by go_num, by rw [Nat.pow_succ, ← Nat.div_div_eq_div_mul, Hy.out]; go_num, rfl, by rw [List.append_assoc, ← Hy.out] at hown3; exact hown3, hb3⟩
      case measure => simp [intOf]; omega
    · obtain rfl : k = k0 := by omega
      go_wp2
      go_ret
      exact ⟨A', _, c', rfl, hown, hb⟩
theorem rlow_of {w0 w : World} {A : Option Addr} {n c : Nat} {l : List Nat} (x k0 : Nat) (h : Reads w0 w0.heap.size 1 A n (nums .u8 l)) (hb : Below w0.heap.size w0 w) (hl : n ≤ 140737488355200) (hk0 : k0 ≤ 8) (hx : x ≤ 18446744073709551615) :
    Calls Tryd.prog 39 #[.slice A n c, .int .u64 (x : Int), .int .i64 (k0 : Int)] w (BytesPost (l ++ low x k0) w) :=
  rlow_any x k0 ((h.below hb).more hb.size) hl hk0 hx
theorem rlow4 {w0 w : World} {A : Option Addr} {n c : Nat} {l : List Nat} (x : Nat) (h : Reads w0 w0.heap.size 1 A n (nums .u8 l)) (hb : Below w0.heap.size w0 w) (hl : n ≤ 140737488355200) (hx : x ≤ 18446744073709551615) :
    Calls Tryd.prog 39 #[.slice A n c, .int .u64 (x : Int), .int .i64 4] w (BytesPost (l ++ low x 4) w) :=
  rlow_any x 4 ((h.below hb).more hb.size) hl (by omega) hx
theorem rlow8 {w0 w : World} {A : Option Addr} {n c : Nat} {l : List Nat} (x : Nat) (h : Reads w0 w0.heap.size 1 A n (nums .u8 l)) (hb : Below w0.heap.size w0 w) (hl : n ≤ 140737488355200) (hx : x ≤ 18446744073709551615) :
    Calls Tryd.prog 39 #[.slice A n c, .int .u64 (x : Int), .int .i64 8] w (BytesPost (l ++ low x 8) w) :=
  rlow_any x 8 ((h.below hb).more hb.size) hl (by omega) hx

end Go.Proofs.YtgfemjpeegbhhaaDoor
