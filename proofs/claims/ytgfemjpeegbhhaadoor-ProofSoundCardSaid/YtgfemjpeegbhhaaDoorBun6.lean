/- Texts merged, for a claim has at most 60 files: TreL, TreN, TreO, TreR, TreQ, TreB, Nat, Ord02, Open, Small02, LawC, Const, OpenT. -/
import Derived.BigRegion
import Derived.Deep.DeepCutAuto
import Derived.Deep.Fields
import Derived.Deep.Slices
import Derived.Great.BuildSlice
import Derived.Great.FillDense
import Derived.LaidHandle
import Derived.LaidLaws
import Derived.LaidMore
import Derived.Lib.SmallJoins
import Derived.OpenShut
import Derived.ProofKit
import Derived.RegionTactic
import Derived.Stop.Joined
import Derived.Test.YtgfemjpeegbhhaaDoorBun1
import Derived.Test.YtgfemjpeegbhhaaDoorBun2
import Derived.Test.YtgfemjpeegbhhaaDoorBun3
import Derived.Test.YtgfemjpeegbhhaaDoorBun4
import Derived.Test.YtgfemjpeegbhhaaDoorBun5
import Derived.Test.YtgfemjpeegbhhaaDoorProg
import Derived.Test.YtgfemjpeegbhhaaDoorRows
/- Logs of both kinds: what layer 21 needs of them; contracts on ref21.Log.Hash, Leaf, Node. -/

namespace Go.Hm
open Go Go.RowKit
theorem turns_seq {w w1 w2 : World} {g : Nat} {V V1 : Value} (t1 : Turns (g :: rowT V) w w1) (a1 : V1.ownBlock = V.ownBlock ∨ ∃ h, V1.ownBlock = some h ∧ w.heap.size ≤ h) (t2 : Turns (g :: rowT V1) w1 w2) : Turns (g :: rowT V) w w2 :=
  ⟨t2.os.trans t1.os, t2.tape.trans t1.tape, t2.output.trans t1.output, Nat.le_trans t1.size t2.size, fun k hk hT => by
    refine (t2.block k (Nat.lt_of_lt_of_le hk t1.size) (fun hm => ?_)).trans (t1.block k hk hT)
    rcases List.mem_cons.1 hm with rfl | hm
    · exact hT (by simp)
    · rcases a1 with a1 | ⟨h, a1, a2⟩
      · refine hT (List.mem_cons_of_mem _ ?_)
        unfold rowT at hm ⊢
        rwa [a1] at hm
      · unfold rowT at hm
        rw [a1] at hm
        simp at hm
        omega⟩
theorem alt_seq {w w1 : World} {V V1 V2 : Value} (hw : w.heap.size ≤ w1.heap.size) (a1 : V1.ownBlock = V.ownBlock ∨ ∃ h, V1.ownBlock = some h ∧ w.heap.size ≤ h) (a2 : V2.ownBlock = V1.ownBlock ∨ ∃ h, V2.ownBlock = some h ∧ w1.heap.size ≤ h) : V2.ownBlock = V.ownBlock ∨ ∃ h, V2.ownBlock = some h ∧ w.heap.size ≤ h := by
  rcases a2 with a2 | ⟨h, a2, a3⟩
  · rw [a2]; exact a1
  · exact .inr ⟨h, a2, Nat.le_trans hw a3⟩
theorem row_out {w : World} {g x : Nat} {V V1 : Value} (hx : x ∉ g :: rowT V) (hw : x < w.heap.size) (a1 : V1.ownBlock = V.ownBlock ∨ ∃ h, V1.ownBlock = some h ∧ w.heap.size ≤ h) : x ∉ g :: rowT V1 := fun hm => by
  rcases List.mem_cons.1 hm with rfl | hm
  · exact hx (by simp)
  · rcases a1 with a1 | ⟨h, a1, a2⟩
    · refine hx (List.mem_cons_of_mem _ ?_)
      unfold rowT at hm ⊢
      rwa [a1] at hm
    · unfold rowT at hm
      rw [a1] at hm
      simp at hm
      omega
/-- A digest's cells. -/
def digC (d : List Nat) : List Value := (List.range 32).map fun i => .int .u8 ((d.getD i 0 : Nat) : Int)
theorem digC_len (d : List Nat) : (digC d).length = 32 := by simp [digC]
theorem digC_eq {d : List Nat} (h : d.length = 32) : digC d = nums .u8 d := by
  unfold digC nums
  refine List.ext_getElem (by simp [h]) fun i h1 h2 => ?_
  have hi : i < d.length := by simpa using h2
  simp [List.getD_eq_getElem?_getD, hi]
def dV (d : List Nat) : Value := .agg (nums .u8 d).toArray
theorem dV_hash (s : List Nat) (L : List (List Nat)) : digV (hashO s L) = dV (hashN s L) := by unfold digV dV; rw [hashN_val]
/-- Digests that lie in the world, apart from the blocks T. -/
structure LeafIn (w : World) (A : Option Addr) (L : List (List Nat)) (T : List Nat) : Prop where
  row : Reads w w.heap.size 32 A L.length (recs digC L)
  digs : Digs L
  far : 0 < L.length → ∀ ad, A = some ad → ad.block ∉ T
theorem LeafIn.turn {w w' : World} {A : Option Addr} {L : List (List Nat)} {T T' : List Nat} (h : LeafIn w A L T) (k : Turns T w w') (hT : ∀ x, x < w.heap.size → x ∉ T → x ∉ T') : LeafIn w' A L T' := by
  refine ⟨⟨h.row.1, fun hn => ?_⟩, h.digs, fun hn ad ha => ?_⟩
  · obtain ⟨ad, e, hb, hc⟩ := h.row.2 hn
    refine ⟨ad, e, Nat.lt_of_lt_of_le hb k.size, fun j u hu => ?_⟩
    rw [World.cell?_of_block (a := ad.add j) (k.block (ad.add j).block (by rw [block_of_add]; exact hb) (by rw [block_of_add]; exact h.far hn ad e))]
    exact hc j u hu
  · obtain ⟨ad', e, hb, _⟩ := h.row.2 hn
    rw [ha] at e
    injection e with e
    subst e
    exact hT _ hb (h.far hn ad ha)
theorem LeafIn.take {w : World} {A : Option Addr} {L : List (List Nat)} {T : List Nat} (h : LeafIn w A L T) {k : Nat} (hk : k ≤ L.length) : LeafIn w A (L.take k) T := by
  have hl : (L.take k).length = k := by rw [List.length_take]; omega
  refine ⟨?_, h.digs.take k, fun hn => h.far (by omega)⟩
  have := h.row.take hk
  rw [recs_take (sz := 32) digC_len L k hk] at this
  rwa [hl]
theorem LeafIn.drop {w : World} {A : Option Addr} {L : List (List Nat)} {T : List Nat} (h : LeafIn w A L T) {k c : Nat} (hk : k ≤ L.length) (hc : L.length ≤ c) : LeafIn w (if c = k then A else A.map (·.add (k * 32))) (L.drop k) T := by
  have hl : (L.drop k).length = L.length - k := by rw [List.length_drop]
  refine ⟨?_, h.digs.drop k, fun hn ad ha => ?_⟩
  · have := h.row.cut hk hc
    rw [recs_drop (sz := 32) digC_len L k hk] at this
    rwa [hl]
  · split at ha
    · exact h.far (by omega) ad ha
    · cases A with
      | none => cases ha
      | some a =>
        simp only [Option.map_some, Option.some.injEq] at ha
        rw [← ha, block_of_add]
        exact h.far (by omega) a rfl

end Go.Hm

namespace Go.Proofs.YtgfemjpeegbhhaaDoor
open Go.RowKit Go.Hm
theorem LogOf.own {t : TypeId} {w : World} {base g B : Nat} {V : Value} {L : List (List Nat)} (h : LogOf t w base g V L) (hb : B ≤ base) (hg : B ≤ g) : ∀ x ∈ g :: rowT V, B ≤ x := by
  intro x hx
  rcases List.mem_cons.1 hx with rfl | hx
  · exact hg
  · exact Nat.le_trans hb (h.ge x hx).1
theorem LogOf.noB {t : TypeId} (ht : t ≠ 5) {w : World} {base g : Nat} {V : Value} {L : List (List Nat)} (h : LogOf t w base g V L) : ∀ x ∈ g :: rowT V, x < w.heap.size → ∀ cs, ¬ Blk w x 5 cs := by
  obtain ⟨A, n, c, D, rfl, h1, h2, _⟩ := h
  intro x hx _ cs hB
  rcases List.mem_cons.1 hx with rfl | hx
  · exact Blk.ne_ h1 hB ht rfl
  · exact rowT_ne h2 hB (by decide) hx
/-- A block of another type is none of a log's. -/
theorem LogOf.notT {t u : TypeId} {w : World} {base g x : Nat} {V : Value} {L : List (List Nat)} {cs : Array Value} (h : LogOf t w base g V L) (hB : Blk w x u cs) (h1 : t ≠ u) (h2 : 22 ≠ u) : x ∉ g :: rowT V := fun hx => by
  obtain ⟨A, n, c, D, rfl, hb, ho, _⟩ := h
  rcases List.mem_cons.1 hx with rfl | hx
  · exact Blk.ne_ hb hB h1 rfl
  · exact rowT_ne ho hB h2 hx
abbrev tL : TypeId := 62
abbrev tR : TypeId := 30
set_option maxHeartbeats 2000000 in
set_option maxRecDepth 100000 in
theorem rlhash_any {w : World} {base g : Nat} {V : Value} {L : List (List Nat)} (hL : LogOf tR w base g V L) (hbs : base ≤ w.heap.size) (hLn : L.length ≤ 1000000) {s : List Nat} {A : Option Addr} {n c : Nat} {D : List PartS} (h : ∀ w', Turns (g :: rowT V) w w' → RowsAt w' A n c D) (hn : n ≤ 9223372036854775806) (hs8 : ∀ x ∈ s, x < 256) (hs : s.length ≤ 140737488351232) (ht : tsum (bytesOf D) ≤ 990000) (hD8 : ∀ p ∈ bytesOf D, ∀ x ∈ p, x < 256) :
    Calls Tryd.prog 38 #[.pointer (some ⟨g, 0, none⟩), .string (bstr s), .slice A n c] w (PostOf tR (digV (hashO s (bytesOf D))) base g V (L ++ (frameO s (bytesOf D)).toList) w) := by
  have c0 : New w (w.alloc (.cells (ints .u8 zero32).toArray 32)) := (Below.refl _ _).alloc (Nat.le_refl _) _
  have FR := Lib.hid (rframe_any ((h w (Turns.refl _ _)).later c0) hn hs8 hs (by omega))
  have HA := Lib.hid (fun w' (k : Turns (g :: rowT V) w w') => rhash_any (h w' k) hn hs8 hs ht hD8)
  have HL := Lib.hid hL
  have G0 := Lib.hid (Blk.new w 32 (ints .u8 zero32).toArray)
  have hl32 := Lib.hid (hashO_len s (bytesOf D))
  generalize frameO s (bytesOf D) = o at *
  generalize hashO s (bytesOf D) = ho at *
  obtain ⟨W0, hW0⟩ : ∃ W, W = w.alloc (.cells (ints .u8 zero32).toArray 32) := ⟨_, rfl⟩
  rw [← hW0] at FR c0 G0
  have HW := Lib.hid hW0
  have C0 := Lib.hid c0
  have ZS := Lib.hid (show (ints .u8 zero32).toArray.size = (ints .u8 ho).toArray.size by simp [ints, zero32, hl32.out])
  have I32 := Lib.hid (i32d hl32.out)
  have ONE := Lib.hid (ints_one .u8 ho)
  have hgw : g ≠ w.heap.size := by have := hL.lt; omega
  clear h hs8 hs ht hD8 hW0 c0 hL
  go_enter Tryd.func38, Tryd.ntmps38
  go_wp2_with fail
  have F := FR.out
  rw [HW.out] at F
  refine F.mono ?_
  rintro e w1 hf
  obtain ⟨A1, n1, c1, rfl, o1, b1⟩ := hf.u
  have b1 : New W0 w1 := by rw [HW.out]; exact b1
  have o1 : Own w1 W0.heap.size 5 (.slice A1 n1 c1) (nums .u8 (o.getD [])) := by rw [HW.out]; exact o1
  have G1 := Lib.hid (G0.out.below b1 G0.out.lt)
  have B1 := Lib.hid (New.trans C0.out b1)
  clear F FR hf HW C0 G0
  obtain ⟨cs, hcs⟩ : ∃ cs, cs = (ints .u8 ho).toArray := ⟨_, rfl⟩
  have hdv : digV ho = .agg cs := by rw [hcs]; rfl
  have HV := Lib.hid hdv
  rw [← hcs] at ZS I32 ONE
  rw [hdv]
  clear hcs hdv
  go_upto_if 15 with (fail)
  go_cut [] (fun wx => ∃ V', LogOf tR wx base g V' (L ++ o.toList) ∧ (V'.ownBlock = V.ownBlock ∨ ∃ h, V'.ownBlock = some h ∧ w.heap.size ≤ h) ∧ Turns (g :: rowT V) w wx ∧ Blk wx w.heap.size 32 (ints .u8 zero32).toArray)
  case first =>
    cases o with
    | none =>
      go_wp2_with fail
      go_meet
      exact ⟨V, by rw [Option.toList_none, List.append_nil]; exact HL.out.new B1.out, .inl rfl, Turns.of_new B1.out, G1.out⟩
    | some f =>
      obtain rfl : n1 = f.length := by have := o1.len; rwa [show (some f).getD [] = f from rfl, nums_length] at this
      obtain ⟨Al, nl, cl, Dl, rfl, HG, HO', HP, hLb⟩ := HL.out.new B1.out
      have hl1 : (recs partV Dl).length = L.length := by rw [recsP_len, ← bytesOf_len, hLb]
      have k1 : w1.cell? ⟨g, 0, none⟩ = some (.slice Al nl cl) := HG.cell 0
      have hbs1 : base ≤ w1.heap.size := Nat.le_trans hbs B1.out.size
      have HLB := Lib.hid hLb
      have HL1 := Lib.hid hl1
      clear hLb hl1
      go_wp2_with ((refine wpList_push elR rfl (.tmp 20) (.tmp 22) rfl (W := w1) (B := 0) HO' rfl rfl (Below.refl _ _) (Nat.zero_le _) hbs1 rfl (by rw [HL1.out]; omega) (by rw [HL1.out]; simp only [maxLen]; omega) ?_)
                   intro A7 c7 w7 _ _ o7 g7 b7 z7 a7
                   have G7 := HG.push HO' g7 (by decide)
                   have G7' := Lib.hid (G1.out.push HO' g7 (by decide))
                   have p7 := ((HP.push HO' g7 (by decide)).snoc (d := (A1, c1, f)) ((TR.of_own o1).push HO' g7 (by decide)) o1.cap.1 (by have := o1.cap.2; simp only [maxLen] at this; omega))
                   have k7 : w7.cell? ⟨g, 0, none⟩ = some (.slice Al nl cl) := G7.cell 0
                   have f7 : w7.frozen? ⟨g, 0, none⟩ = false := G7.frozen 0
                   have T7 := Lib.hid (Turns.row g7)
                   have O7 := Lib.hid o7
                   have P7 := Lib.hid p7
                   have HG7 := Lib.hid G7
                   have A7' := Lib.hid a7
                   clear o7 p7 HG HO' HP o1 G7 G1 g7 a7)
      go_meet
      refine ⟨.slice A7 ((recs partV Dl).length + 1) c7, ⟨A7, (recs partV Dl).length + 1, c7, Dl ++ [(A1, c1, f)], rfl, HG7.out.set_ 0 _, ?_, P7.out.keep (turns_cell w7 g 0 _) HG7.out (by decide), by rw [bytesOf_snoc, HLB.out]; rfl⟩, A7'.out.imp id (fun ⟨h, h1, h2⟩ => ⟨h, h1, Nat.le_trans B1.out.size h2⟩), ?_, G7'.out.far (p := ⟨g, 0, none⟩) (by exact fun e => hgw e.symm) _⟩
      · rw [recsP_snoc]
        exact O7.out.keepT (turns_cell _ _ _ _) HG7.out (by decide)
      · exact ((Turns.of_new B1.out).trans (T7.out.more (by intro x hx; simp [hx]))).trans (Turns.setCell _ (by simp) w7)
  case rest =>
    obtain ⟨V', L8, a8, t8, G8⟩ := hcut
    have HA := Lib.hid (HA.out wc t8)
    have L8 := Lib.hid L8
    have T8 := Lib.hid t8
    have G8 := Lib.hid G8
    have A8 := Lib.hid a8
    clear t8 a8 G1 B1 b1 o1 HL
    rw [HV.out] at HA
    go_wp2_with fail
    refine HA.out.mono ?_
    rintro e w9 ⟨rfl, b9⟩
    have G9 := G8.out.below b9 G8.out.lt
    have L9 := L8.out.new b9
    have T9 := T8.out.trans (Turns.of_new b9)
    have H := Lib.hid (And.intro (row_of_blk G9) (blk_setRow G9 cs))
    have T10 := Lib.hid (Turns.new_ (((T9.more (T' := w.heap.size :: g :: rowT V) (by intro x hx; simp at hx ⊢; simp [hx])).trans (Turns.of_far (far_setRow (g := w.heap.size) w9 cs) (by simp)))) (Nat.le_refl _))
    have L10 := Lib.hid (L9.turn (T := [w.heap.size]) (Turns.of_far (far_setRow (g := w.heap.size) w9 cs) (by simp)) (by simpa using hgw)
      (by intro x hx; simp at hx; subst hx; obtain ⟨A', n', c', D', e', _, o', _⟩ := L9; rw [e']; exact o'.blk_ne G9 (by decide))
      (by intro x hx _ cs hB; simp at hx; subst hx; exact Blk.ne_ G9 hB (by decide) rfl))
    clear G9 L9 T9 b9 T8 G8 L8 HA
    go_wp2_with (refine wpList_store_row rfl 32 (.tmp 6) (.tmp 28) rfl w.heap.size cs rfl rfl _ _ H.out.1 I32.out ZS.out ONE.out ?_)
    exact bodyPost_ret (results_cell_row rfl _ _ w.heap.size _ cs (0, 0) _ rfl H.out.2 digarr rfl I32.out) rfl ⟨by rw [HV.out], V', L10.out, A8.out, T10.out⟩

end Go.Proofs.YtgfemjpeegbhhaaDoor
/- Contracts on Leaf of both kinds. -/

namespace Go.Hm
open Go Go.RowKit
theorem new_alloc2 (w : World) (o : Obj) : New w (w.alloc o) := (Below.refl _ _).alloc (Nat.le_refl _) o
theorem Reads.litM3 (w : World) (e : TypeId) (fr : Nat × Nat) (cs : Array Value) (n : Nat) (xs : List Value) (h : cs.toList = xs) (hn : n = xs.length) : Reads (w.alloc (.cells cs e fr)) (w.alloc (.cells cs e fr)).heap.size 1 (some ⟨w.heap.size, 0, none⟩) n xs := by
  subst hn
  refine ⟨by simp, fun _ => ⟨_, rfl, by simp, ?_⟩⟩
  have := World.news_of_block (heap_alloc_new w (.cells cs e fr))
  rwa [h] at this
def u64N (k : Int) : Nat := (k % 18446744073709551616).toNat
/-- The parts of a leaf. -/
def leafP (k n : Int) (d : List Nat) : List (List Nat) := [low (u64N k) 8, low (u64N n) 8, d]
theorem reads_turn {w w' : World} {T : List Nat} {s n : Nat} {A : Option Addr} {xs : List Value} (h : Reads w w.heap.size s A n xs) (k : Turns T w w') (hT : 0 < n → ∀ ad, A = some ad → ad.block ∉ T) : Reads w' w'.heap.size s A n xs :=
  ⟨h.1, fun hn => by
    obtain ⟨ad, e, hb, hc⟩ := h.2 hn
    refine ⟨ad, e, Nat.lt_of_lt_of_le hb k.size, fun j u hu => ?_⟩
    rw [World.cell?_of_block (a := ad.add j) (k.block (ad.add j).block (by rw [block_of_add]; exact hb) (by rw [block_of_add]; exact hT hn ad e))]
    exact hc j u hu⟩
theorem rows_turn {w w' : World} {T : List Nat} {A : Option Addr} {n c : Nat} {D : List PartS} (h : RowsAt w A n c D) (k : Turns T w w') (h1 : 0 < n → ∀ ad, A = some ad → ad.block ∉ T) (h2 : ∀ d ∈ D, 0 < d.2.2.length → ∀ ad, d.1 = some ad → ad.block ∉ T) : RowsAt w' A n c D :=
  ⟨reads_turn h.row k h1, fun d hd => ⟨reads_turn (h.parts d hd).1 k (h2 d hd), (h.parts d hd).2⟩, h.cap⟩

end Go.Hm

namespace Go.Proofs.YtgfemjpeegbhhaaDoor
open Go.RowKit Go.Hm
/-- The answer is laid in its own block: what a call at a log answers. -/
theorem post_store {t : TypeId} {w w9 : World} {base g : Nat} {V V' : Value} {L : List (List Nat)} (hg : g < w.heap.size) (l9 : LogOf t w9 base g V' L) (a9 : V'.ownBlock = V.ownBlock ∨ ∃ h, V'.ownBlock = some h ∧ w.heap.size ≤ h) (t9 : Turns (g :: rowT V) w w9) {old : Array Value} (G9 : Blk w9 w.heap.size 32 old) (cs : Array Value) :
    ∃ V', LogOf t (w9.setRow w.heap.size cs) base g V' L ∧ (V'.ownBlock = V.ownBlock ∨ ∃ h, V'.ownBlock = some h ∧ w.heap.size ≤ h) ∧ Turns (g :: rowT V) w (w9.setRow w.heap.size cs) := by
  refine ⟨V', l9.turn (T := [w.heap.size]) (Turns.of_far (far_setRow (g := w.heap.size) w9 cs) (by simp)) (by simp; omega) ?_ ?_, a9, ?_⟩
  · intro x hx
    simp at hx
    subst hx
    obtain ⟨A', n', c', D', e', _, o', _⟩ := l9
    rw [e']
    exact o'.blk_ne G9 (by decide)
  · intro x hx _ cs hB
    simp at hx
    subst hx
    exact Blk.ne_ G9 hB (by decide) rfl
  · exact Turns.new_ ((t9.more (T' := w.heap.size :: g :: rowT V) (by intro x hx; simp at hx ⊢; simp [hx])).trans (Turns.of_far (far_setRow (g := w.heap.size) w9 cs) (by simp))) (Nat.le_refl _)
set_option maxHeartbeats 2000000 in
set_option maxRecDepth 100000 in
theorem leaf_any {w : World} {base g : Nat} {V : Value} {L : List (List Nat)} (hL : LogOf tL w base g V L) (hbs : base ≤ w.heap.size) (hLn : L.length ≤ 1000000) {s d : List Nat} {k n : Int} {A : Option Addr} {c : Nat} (hs8 : ∀ x ∈ s, x < 256) (hs : s.length ≤ 140737488351232) (hd : Reads w w.heap.size 1 A d.length (nums .u8 d)) (hd8 : ∀ x ∈ d, x < 256) (hdl : d.length ≤ 900000) (hdc : d.length ≤ c) (hc : c ≤ 9223372036854775807) (hC : ∀ w', Turns (g :: rowT V) w w' → ConstIn w') :
    Calls Tryd.prog 15 #[.pointer (some ⟨g, 0, none⟩), .string (bstr s), .int .i64 k, .int .i64 n, .slice A d.length c] w (PostOf tL (digV (hashO s (leafP k n d))) base g V (L ++ (frameO s (leafP k n d)).toList) w) := by
  have c0 := new_alloc2 w (.cells (ints .u8 zero32).toArray 32)
  have G0 := Lib.hid (Blk.new w 32 (ints .u8 zero32).toArray)
  have HL := Lib.hid hL
  have HD := Lib.hid hd
  have H8 := Lib.hid hd8
  have S8 := Lib.hid hs8
  have HC := Lib.hid hC
  have hgl : g < w.heap.size := hL.lt
  obtain ⟨W0, hW0⟩ : ∃ W, W = w.alloc (.cells (ints .u8 zero32).toArray 32) := ⟨_, rfl⟩
  have U := Lib.hid (fun (x : Nat) (hx : x ≤ 18446744073709551615) (W : World) => lay_u64 (w := W) (A := none) (n := 0) (c := 0) (l := []) x Reads.none_ (by omega))
  have e1 : IntKind.u64.wrap k = ((u64N k : Nat) : Int) := by unfold u64N; rw [IntKind.wrap_u64]; omega
  have e2 : IntKind.u64.wrap n = ((u64N n : Nat) : Int) := by unfold u64N; rw [IntKind.wrap_u64]; omega
  have e3 : k % 18446744073709551616 = ((u64N k : Nat) : Int) := by unfold u64N; omega
  have e4 : n % 18446744073709551616 = ((u64N n : Nat) : Int) := by unfold u64N; omega
  have h3 : u64N k ≤ 18446744073709551615 := by unfold u64N; omega
  have h4 : u64N n ≤ 18446744073709551615 := by unfold u64N; omega
  have LP := Lib.hid (show leafP k n d = [low (u64N k) 8, low (u64N n) 8, d] from rfl)
  generalize leafP k n d = lp at *
  generalize u64N k = ku at *
  generalize u64N n = nu at *
  rw [← hW0] at c0 G0
  have HW := Lib.hid hW0
  have C0 := Lib.hid c0
  clear hd hd8 hs8 hL c0 hW0 hC
  go_enter Tryd.func15, Tryd.ntmps15
  go_wp2_with fail
  refine (U.out ku h3 _).mono ?_
  rintro e w1 ⟨A1, n1, c1, rfl, o1, b1⟩
  have b1 : New W0 w1 := by rw [HW.out]; exact b1
  have o1 : Own w1 W0.heap.size 5 (.slice A1 n1 c1) (nums .u8 (low ku 8)) := by rw [HW.out]; exact o1
  obtain rfl : n1 = 8 := by have := o1.len; rwa [nums_length, low_len] at this
  have O1 := Lib.hid o1
  have B1 := Lib.hid (New.trans C0.out b1)
  have G1 := Lib.hid (G0.out.below b1 G0.out.lt)
  clear o1 b1 HW C0 G0 e1 e3
  go_wp2_with fail
  refine (U.out nu h4 _).mono ?_
  rintro e w2 ⟨A2, n2, c2, rfl, o2, b2⟩
  have o2 : Own w2 w1.heap.size 5 (.slice A2 n2 c2) (nums .u8 (low nu 8)) := o2
  obtain rfl : n2 = 8 := by have := o2.len; rwa [nums_length, low_len] at this
  have B2 := Lib.hid (New.trans B1.out b2)
  have G2 := Lib.hid (G1.out.below b2 G1.out.lt)
  have O1 := Lib.hid (O1.out.later b2)
  have rr : RowsAt (w2.alloc (.cells #[.slice A1 8 c1, .slice A2 8 c2, .slice A d.length c] 22)) (some ⟨w2.heap.size, 0, none⟩) 3 3 [(A1, c1, low ku 8), (A2, c2, low nu 8), (A, c, d)] := by
    have l1 := low_len ku 8
    have l2 := low_len nu 8
    refine ⟨Reads.litM3 w2 _ (0, 0) _ 3 _ (by simp [recs, partV, l1, l2]) (by simp [recs, partV]), fun x hx => ?_, Nat.le_refl _⟩
    simp only [List.mem_cons, List.not_mem_nil, or_false] at hx
    have q1 := O1.out.cap
    have q2 := o2.cap
    simp only [maxLen] at q1 q2
    have cN := new_alloc2 w2 (.cells #[.slice A1 8 c1, .slice A2 8 c2, .slice A d.length c] 22)
    rcases hx with rfl | rfl | rfl
    · exact ⟨by show Reads _ _ 1 A1 (low ku 8).length _; rw [l1]; exact Reads.later O1.out.reads cN, by show (low ku 8).length ≤ c1; omega, by show c1 ≤ _; omega⟩
    · exact ⟨by show Reads _ _ 1 A2 (low nu 8).length _; rw [l2]; exact Reads.later o2.reads cN, by show (low nu 8).length ≤ c2; omega, by show c2 ≤ _; omega⟩
    · exact ⟨Reads.later HD.out (New.trans B2.out cN), hdc, hc⟩
  have hbo : bytesOf [(A1, c1, low ku 8), (A2, c2, low nu 8), (A, c, d)] = lp := by rw [LP.out]; rfl
  have c3 := New.trans B2.out (new_alloc2 w2 (.cells #[.slice A1 8 c1, .slice A2 8 c2, .slice A d.length c] 22))
  have hp8 : ∀ p ∈ bytesOf [(A1, c1, low ku 8), (A2, c2, low nu 8), (A, c, d)], ∀ x ∈ p, x < 256 := by
    intro p hp
    simp only [bytesOf, List.map_cons, List.map_nil, List.mem_cons, List.not_mem_nil, or_false] at hp
    rcases hp with rfl | rfl | rfl
    · exact low_lt ku 8
    · exact low_lt nu 8
    · exact H8.out
  have hts : tsum (bytesOf [(A1, c1, low ku 8), (A2, c2, low nu 8), (A, c, d)]) ≤ 990000 := by simp [bytesOf, tsum, low_len]; omega
  have lh := lhash_any (HL.out.new c3) (Nat.le_trans hbs c3.size) hLn rr (by omega) S8.out hs hts hp8 (fun w' k => HC.out w' ((Turns.of_new c3).trans k))
  rw [hbo] at lh
  have LH := Lib.hid lh
  have C3 := Lib.hid c3
  have G3 := Lib.hid (G2.out.alloc (.cells #[.slice A1 8 c1, .slice A2 8 c2, .slice A d.length c] 22))
  clear rr hbo c3 lh o2 b2 e2 e4
  go_wp2_with fail
  refine LH.out.mono ?_
  rintro e w4 ⟨rfl, V', l4, a4, t4⟩
  obtain ⟨cs, hcs⟩ : ∃ cs, cs = (ints .u8 (hashO s lp)).toArray := ⟨_, rfl⟩
  have hdv : digV (hashO s lp) = .agg cs := by rw [hcs]; rfl
  have HV := Lib.hid hdv
  have hl32 := hashO_len s lp
  have I32 : (Tryd.prog.info? 32).map (·.size) = some cs.size := by rw [hcs]; exact i32d hl32
  have ZS : (ints .u8 zero32).toArray.size = cs.size := by rw [hcs]; simp [ints, zero32, hl32]
  have ONE : cs.all (·.oneCell') = true := by rw [hcs]; exact ints_one _ _
  have g4 := G3.out.touch t4 ((HL.out.new C3.out).notT G3.out (by decide) (by decide))
  have PS := Lib.hid (post_store hgl l4 (a4.imp id fun ⟨h, h1, h2⟩ => ⟨h, h1, Nat.le_trans C3.out.size h2⟩) ((Turns.of_new C3.out).trans t4) g4 cs)
  have H := Lib.hid (And.intro (row_of_blk g4) (blk_setRow g4 cs))
  have I32 := Lib.hid I32
  have ZS := Lib.hid ZS
  have ONE := Lib.hid ONE
  rw [hdv]
  clear hcs hdv l4 a4 t4 g4 hl32 LH
  go_wp2_with (refine wpList_store_row rfl 32 (.tmp 10) (.tmp 21) rfl w.heap.size cs rfl rfl _ _ H.out.1 I32.out ZS.out ONE.out ?_)
  exact bodyPost_ret (results_cell_row rfl _ _ w.heap.size _ cs (0, 0) _ rfl H.out.2 digarr rfl I32.out) rfl ⟨by rw [HV.out], PS.out⟩
set_option maxHeartbeats 2000000 in
set_option maxRecDepth 100000 in
theorem rleaf_any {w : World} {base g : Nat} {V : Value} {L : List (List Nat)} (hL : LogOf tR w base g V L) (hbs : base ≤ w.heap.size) (hLn : L.length ≤ 1000000) {s d : List Nat} {k n : Int} {A : Option Addr} {c : Nat} (hs8 : ∀ x ∈ s, x < 256) (hs : s.length ≤ 140737488351232) (hd : Reads w w.heap.size 1 A d.length (nums .u8 d)) (hdT : 0 < d.length → ∀ ad, A = some ad → ad.block ∉ g :: rowT V) (hd8 : ∀ x ∈ d, x < 256) (hdl : d.length ≤ 900000) (hdc : d.length ≤ c) (hc : c ≤ 9223372036854775807) :
    Calls Tryd.prog 16 #[.pointer (some ⟨g, 0, none⟩), .string (bstr s), .int .i64 k, .int .i64 n, .slice A d.length c] w (PostOf tR (digV (hashO s (leafP k n d))) base g V (L ++ (frameO s (leafP k n d)).toList) w) := by
  have c0 := new_alloc2 w (.cells (ints .u8 zero32).toArray 32)
  have G0 := Lib.hid (Blk.new w 32 (ints .u8 zero32).toArray)
  have HL := Lib.hid hL
  have HD := Lib.hid hd
  have HDT := Lib.hid hdT
  have H8 := Lib.hid hd8
  have S8 := Lib.hid hs8
  have hgl : g < w.heap.size := hL.lt
  obtain ⟨W0, hW0⟩ : ∃ W, W = w.alloc (.cells (ints .u8 zero32).toArray 32) := ⟨_, rfl⟩
  have U := Lib.hid (fun (x : Nat) (hx : x ≤ 18446744073709551615) (W : World) => rlow_any (w := W) (A := none) (n := 0) (c := 0) (l := []) x 8 Reads.none_ (by omega) (by omega) hx)
  have e1 : IntKind.u64.wrap k = ((u64N k : Nat) : Int) := by unfold u64N; rw [IntKind.wrap_u64]; omega
  have e2 : IntKind.u64.wrap n = ((u64N n : Nat) : Int) := by unfold u64N; rw [IntKind.wrap_u64]; omega
  have e3 : k % 18446744073709551616 = ((u64N k : Nat) : Int) := by unfold u64N; omega
  have e4 : n % 18446744073709551616 = ((u64N n : Nat) : Int) := by unfold u64N; omega
  have h3 : u64N k ≤ 18446744073709551615 := by unfold u64N; omega
  have h4 : u64N n ≤ 18446744073709551615 := by unfold u64N; omega
  have LP := Lib.hid (show leafP k n d = [low (u64N k) 8, low (u64N n) 8, d] from rfl)
  generalize leafP k n d = lp at *
  generalize u64N k = ku at *
  generalize u64N n = nu at *
  rw [← hW0] at c0 G0
  have HW := Lib.hid hW0
  have C0 := Lib.hid c0
  have C00 := Lib.hid c0.size
  clear hd hdT hd8 hs8 hL c0 hW0
  go_enter Tryd.func16, Tryd.ntmps16
  go_wp2_with fail
  refine (U.out ku h3 _).mono ?_
  rintro e w1 ⟨A1, n1, c1, rfl, o1, b1⟩
  have b1 : New W0 w1 := by rw [HW.out]; exact b1
  have o1 : Own w1 W0.heap.size 5 (.slice A1 n1 c1) (nums .u8 (low ku 8)) := by rw [HW.out]; exact o1
  obtain rfl : n1 = 8 := by have := o1.len; rwa [nums_length, low_len] at this
  have O1 := Lib.hid o1
  have B1 := Lib.hid (New.trans C0.out b1)
  have G1 := Lib.hid (G0.out.below b1 G0.out.lt)
  clear o1 b1 HW C0 G0 e1 e3
  go_wp2_with fail
  refine (U.out nu h4 _).mono ?_
  rintro e w2 ⟨A2, n2, c2, rfl, o2, b2⟩
  have o2 : Own w2 w1.heap.size 5 (.slice A2 n2 c2) (nums .u8 (low nu 8)) := o2
  obtain rfl : n2 = 8 := by have := o2.len; rwa [nums_length, low_len] at this
  have B2 := Lib.hid (New.trans B1.out b2)
  have G2 := Lib.hid (G1.out.below b2 G1.out.lt)
  have O1 := Lib.hid (O1.out.later b2)
  have rr : RowsAt (w2.alloc (.cells #[.slice A1 8 c1, .slice A2 8 c2, .slice A d.length c] 22)) (some ⟨w2.heap.size, 0, none⟩) 3 3 [(A1, c1, low ku 8), (A2, c2, low nu 8), (A, c, d)] := by
    have l1 := low_len ku 8
    have l2 := low_len nu 8
    refine ⟨Reads.litM3 w2 _ (0, 0) _ 3 _ (by simp [recs, partV, l1, l2]) (by simp [recs, partV]), fun x hx => ?_, Nat.le_refl _⟩
    simp only [List.mem_cons, List.not_mem_nil, or_false] at hx
    have q1 := O1.out.cap
    have q2 := o2.cap
    simp only [maxLen] at q1 q2
    have cN := new_alloc2 w2 (.cells #[.slice A1 8 c1, .slice A2 8 c2, .slice A d.length c] 22)
    rcases hx with rfl | rfl | rfl
    · exact ⟨by show Reads _ _ 1 A1 (low ku 8).length _; rw [l1]; exact Reads.later O1.out.reads cN, by show (low ku 8).length ≤ c1; omega, by show c1 ≤ _; omega⟩
    · exact ⟨by show Reads _ _ 1 A2 (low nu 8).length _; rw [l2]; exact Reads.later o2.reads cN, by show (low nu 8).length ≤ c2; omega, by show c2 ≤ _; omega⟩
    · exact ⟨Reads.later HD.out (New.trans B2.out cN), hdc, hc⟩
  have hbo : bytesOf [(A1, c1, low ku 8), (A2, c2, low nu 8), (A, c, d)] = lp := by rw [LP.out]; rfl
  have c3 := New.trans B2.out (new_alloc2 w2 (.cells #[.slice A1 8 c1, .slice A2 8 c2, .slice A d.length c] 22))
  have hp8 : ∀ p ∈ bytesOf [(A1, c1, low ku 8), (A2, c2, low nu 8), (A, c, d)], ∀ x ∈ p, x < 256 := by
    intro p hp
    simp only [bytesOf, List.map_cons, List.map_nil, List.mem_cons, List.not_mem_nil, or_false] at hp
    rcases hp with rfl | rfl | rfl
    · exact low_lt ku 8
    · exact low_lt nu 8
    · exact H8.out
  have hts : tsum (bytesOf [(A1, c1, low ku 8), (A2, c2, low nu 8), (A, c, d)]) ≤ 990000 := by simp [bytesOf, tsum, low_len]; omega
  have lg := HL.out.new c3
  have keep : ∀ w', Turns (g :: rowT V) (w2.alloc (.cells #[.slice A1 8 c1, .slice A2 8 c2, .slice A d.length c] 22)) w' → RowsAt w' (some ⟨w2.heap.size, 0, none⟩) 3 3 [(A1, c1, low ku 8), (A2, c2, low nu 8), (A, c, d)] := fun w' k => by
    have lowT : ∀ x ∈ g :: rowT V, x < w.heap.size := fun x hx => by
      rcases List.mem_cons.1 hx with rfl | hx
      · exact hgl
      · exact (HL.out.ge x hx).2
    have z0 := C00.out
    have q1 := O1.out.lt
    have q2 := o2.lt
    refine rows_turn rr k (fun _ ad ha => ?_) (fun x hx hn ad ha hm => ?_)
    · injection ha with ha
      subst ha
      exact fun hm => by have h9 : w2.heap.size < w.heap.size := lowT _ hm; have := B2.out.size; omega
    · simp only [List.mem_cons, List.not_mem_nil, or_false] at hx
      rcases hx with rfl | rfl | rfl
      · obtain ⟨g', u, hA, hge, _⟩ := O1.out.at_ (i := 0) (by omega)
        rw [show A1 = some ad from ha] at hA
        injection hA with hA
        subst hA
        have : g' < w.heap.size := lowT _ hm
        omega
      · obtain ⟨g', u, hA, hge, _⟩ := o2.at_ (i := 0) (by omega)
        rw [show A2 = some ad from ha] at hA
        injection hA with hA
        subst hA
        have : g' < w.heap.size := lowT _ hm
        have := B1.out.size
        omega
      · exact HDT.out hn ad ha hm
  have lh := rlhash_any lg (Nat.le_trans hbs c3.size) hLn keep (by omega) S8.out hs hts hp8
  rw [hbo] at lh
  have LH := Lib.hid lh
  have C3 := Lib.hid c3
  have G3 := Lib.hid (G2.out.alloc (.cells #[.slice A1 8 c1, .slice A2 8 c2, .slice A d.length c] 22))
  clear rr hbo c3 lh o2 b2 e2 e4
  go_wp2_with fail
  refine LH.out.mono ?_
  rintro e w4 ⟨rfl, V', l4, a4, t4⟩
  obtain ⟨cs, hcs⟩ : ∃ cs, cs = (ints .u8 (hashO s lp)).toArray := ⟨_, rfl⟩
  have hdv : digV (hashO s lp) = .agg cs := by rw [hcs]; rfl
  have HV := Lib.hid hdv
  have hl32 := hashO_len s lp
  have I32 : (Tryd.prog.info? 32).map (·.size) = some cs.size := by rw [hcs]; exact i32d hl32
  have ZS : (ints .u8 zero32).toArray.size = cs.size := by rw [hcs]; simp [ints, zero32, hl32]
  have ONE : cs.all (·.oneCell') = true := by rw [hcs]; exact ints_one _ _
  have g4 := G3.out.touch t4 ((HL.out.new C3.out).notT G3.out (by decide) (by decide))
  have PS := Lib.hid (post_store hgl l4 (a4.imp id fun ⟨h, h1, h2⟩ => ⟨h, h1, Nat.le_trans C3.out.size h2⟩) ((Turns.of_new C3.out).trans t4) g4 cs)
  have H := Lib.hid (And.intro (row_of_blk g4) (blk_setRow g4 cs))
  have I32 := Lib.hid I32
  have ZS := Lib.hid ZS
  have ONE := Lib.hid ONE
  rw [hdv]
  clear hcs hdv l4 a4 t4 g4 hl32 LH
  go_wp2_with (refine wpList_store_row rfl 32 (.tmp 10) (.tmp 21) rfl w.heap.size cs rfl rfl _ _ H.out.1 I32.out ZS.out ONE.out ?_)
  exact bodyPost_ret (results_cell_row rfl _ _ w.heap.size _ cs (0, 0) _ rfl H.out.2 digarr rfl I32.out) rfl ⟨by rw [HV.out], PS.out⟩

end Go.Proofs.YtgfemjpeegbhhaaDoor
/- Contracts on Node of both kinds. -/

namespace Go.Hm
open Go Go.RowKit
theorem reads_blk {w : World} {g : Nat} {t : TypeId} {cs : Array Value} {l : List Nat} (h : Blk w g t cs) (hl : cs.toList = nums .u8 l) : Reads w w.heap.size 1 (some ⟨g, 0, none⟩) l.length (nums .u8 l) := by
  refine ⟨by simp [nums], fun _ => ⟨_, rfl, h.lt, fun j u hu => ?_⟩⟩
  have e : (⟨g, 0, none⟩ : Addr).add j = ⟨g, j, none⟩ := by unfold Addr.add; split <;> simp_all
  rw [e, h.cell, ← hu, ← hl, Array.getElem?_toList]

end Go.Hm

namespace Go.Proofs.YtgfemjpeegbhhaaDoor
open Go.RowKit Go.Hm
set_option maxHeartbeats 2000000 in
set_option maxRecDepth 100000 in
theorem node_any {w : World} {base g : Nat} {V : Value} {L : List (List Nat)} (hL : LogOf tL w base g V L) (hbs : base ≤ w.heap.size) (hLn : L.length ≤ 1000000) {a b : List Nat} (ha : DigN a) (hb : DigN b) (hC : ∀ w', Turns (g :: rowT V) w w' → ConstIn w') :
    Calls Tryd.prog 17 #[.pointer (some ⟨g, 0, none⟩), dV a, dV b] w (PostOf tL (dV (hashN nodeTag [a, b])) base g V (L ++ [frameL nodeTag [a, b]]) w) := by
  obtain ⟨ca, hca⟩ : ∃ cs, cs = (nums .u8 a).toArray := ⟨_, rfl⟩
  obtain ⟨cb, hcb⟩ : ∃ cs, cs = (nums .u8 b).toArray := ⟨_, rfl⟩
  have hva : dV a = .agg ca := by rw [hca]; rfl
  have hvb : dV b = .agg cb := by rw [hcb]; rfl
  obtain ⟨W3, hW3⟩ : ∃ W, W = ((w.alloc (.cells ca 32)).alloc (.cells cb 32)).alloc (.cells (ints .u8 zero32).toArray 32) := ⟨_, rfl⟩
  have z1 : (w.alloc (.cells ca 32)).heap.size = w.heap.size + 1 := by simp
  have z2 : ((w.alloc (.cells ca 32)).alloc (.cells cb 32)).heap.size = w.heap.size + 2 := by simp
  have zs : W3.heap.size = w.heap.size + 3 := by rw [hW3]; simp
  have b3 : New w W3 := by rw [hW3]; exact New.trans (New.trans (new_alloc2 _ _) (new_alloc2 _ _)) (new_alloc2 _ _)
  have ga : Blk W3 w.heap.size 32 ca := by rw [hW3]; exact ((Blk.new w _ ca).alloc _).alloc _
  have gb : Blk W3 (w.heap.size + 1) 32 cb := by
    rw [hW3]
    have := Blk.new (w.alloc (.cells ca 32)) 32 cb
    rw [z1] at this
    exact this.alloc _
  have gr : Blk W3 (w.heap.size + 2) 32 (ints .u8 zero32).toArray := by
    rw [hW3]
    have := Blk.new ((w.alloc (.cells ca 32)).alloc (.cells cb 32)) 32 (ints .u8 zero32).toArray
    rwa [z2] at this
  have hgl : g < w.heap.size := hL.lt
  have lowT : ∀ x ∈ g :: rowT V, x < w.heap.size := fun x hx => by
    rcases List.mem_cons.1 hx with rfl | hx
    · exact hgl
    · exact (hL.ge x hx).2
  obtain ⟨W4, hW4⟩ : ∃ W, W = (W3.alloc (.cells #[.slice (some ⟨w.heap.size, 0, none⟩) 32 32, .slice (some ⟨w.heap.size + 1, 0, none⟩) 32 32] 22)).drew := ⟨_, rfl⟩
  have b34 : New W3 W4 := by rw [hW4]; exact New.trans (new_alloc2 W3 _) (New.drew _)
  have rr : RowsAt W4 (some ⟨w.heap.size + 3, 0, none⟩) 2 2 [(some ⟨w.heap.size, 0, none⟩, 32, a), (some ⟨w.heap.size + 1, 0, none⟩, 32, b)] := by
    refine ⟨?_, fun x hx => ?_, Nat.le_refl _⟩
    · rw [hW4, ← zs]
      exact Reads.litM3 W3 _ (0, 0) _ 2 _ (by simp [recs, partV, ha.1, hb.1]) (by simp [recs, partV])
    · simp only [List.mem_cons, List.not_mem_nil, or_false] at hx
      rcases hx with rfl | rfl
      · exact ⟨by show Reads _ _ 1 _ a.length _; exact Reads.later (reads_blk ga (by rw [hca])) b34, by show a.length ≤ 32; rw [ha.1]; omega, by show (32 : Nat) ≤ _; omega⟩
      · exact ⟨by show Reads _ _ 1 _ b.length _; exact Reads.later (reads_blk gb (by rw [hcb])) b34, by show b.length ≤ 32; rw [hb.1]; omega, by show (32 : Nat) ≤ _; omega⟩
  have hbo : bytesOf [((some ⟨w.heap.size, 0, none⟩ : Option Addr), 32, a), (some ⟨w.heap.size + 1, 0, none⟩, 32, b)] = [a, b] := rfl
  have hp8 : ∀ p ∈ [a, b], ∀ x ∈ p, x < 256 := by
    intro p hp
    simp only [List.mem_cons, List.not_mem_nil, or_false] at hp
    rcases hp with rfl | rfl
    · exact ha.2
    · exact hb.2
  have hts : tsum [a, b] ≤ 990000 := by simp [tsum, ha.1, hb.1]
  have b04 := New.trans b3 b34
  have lh := lhash_any (s := nodeTag) (hL.new b04) (Nat.le_trans hbs b04.size) hLn rr (by omega) (by decide) (by decide) hts hp8 (fun w' k => hC w' ((Turns.of_new b04).trans k))
  rw [hbo, frame_node] at lh
  obtain ⟨cs, hcs⟩ : ∃ cs, cs = (ints .u8 (hashO nodeTag [a, b])).toArray := ⟨_, rfl⟩
  have hdv : digV (hashO nodeTag [a, b]) = .agg cs := by rw [hcs]; rfl
  have hdv2 : dV (hashN nodeTag [a, b]) = .agg cs := by rw [← dV_hash, hdv]
  have hl32 := hashO_len nodeTag [a, b]
  have I32 : (Tryd.prog.info? 32).map (·.size) = some cs.size := by rw [hcs]; exact i32d hl32
  have ZS : (ints .u8 zero32).toArray.size = cs.size := by rw [hcs]; simp [ints, zero32, hl32]
  have ONE : cs.all (·.oneCell') = true := by rw [hcs]; exact ints_one _ _
  rw [hdv] at lh
  rw [hva, hvb, hdv2]
  have LH := Lib.hid lh
  have I32 := Lib.hid I32
  have ZS := Lib.hid ZS
  have ONE := Lib.hid ONE
  have HL := Lib.hid hL
  have GR := Lib.hid (gr.below b34 gr.lt)
  have B04 := Lib.hid b04
  have HW3 := Lib.hid hW3
  have HW4 := Lib.hid hW4
  have LOWT := Lib.hid lowT
  have ZSZ := Lib.hid zs
  clear hcs hdv hdv2 hl32 lh hts hp8 rr b34 ga gb gr z1 z2 zs hW3 hW4 b3 b04 hva hvb hca hcb hL lowT hC
  go_enter Tryd.func17, Tryd.ntmps17
  go_wp2
  have hw3 := HW3.out
  refine wp_region_up (TurnsB w.heap.size (g :: rowT V)) [(true, 0), (true, 1), (true, 2), (false, 3), (false, 4), (false, 5)]
    (TurnsB.refl _ _) TurnsB.trans (by kernel_rfl) (by kernel_rfl) (by kernel_rfl) (by kernel_rfl) ?_
  iterate 3 (
    refine up_quiet rfl rfl (v := ?_) (fun W hW => ?_) ?_
    rotate_left
    · skip
      go_simp <;> with_reducible rfl
    simp only [Act.put, List.setIfInBounds_toArray, List.set_cons_zero, List.set_cons_succ])
  have e3 : ((w.alloc (.cells ca 32)).alloc (.cells cb 32)).alloc (.cells (ints .u8 zero32).toArray 32) = W3 := hw3.symm
  rw [show (((w.alloc (.cells ca 32)).alloc (.cells cb 32)).alloc (.cells #[.int .u8 0, .int .u8 0, .int .u8 0, .int .u8 0, .int .u8 0, .int .u8 0, .int .u8 0, .int .u8 0, .int .u8 0, .int .u8 0, .int .u8 0, .int .u8 0, .int .u8 0, .int .u8 0, .int .u8 0, .int .u8 0, .int .u8 0, .int .u8 0, .int .u8 0, .int .u8 0, .int .u8 0, .int .u8 0, .int .u8 0, .int .u8 0, .int .u8 0, .int .u8 0, .int .u8 0, .int .u8 0, .int .u8 0, .int .u8 0, .int .u8 0, .int .u8 0] 32)).drew = W3.drew from by rw [hw3]; rfl]
  clear e3 hw3
  have zs := ZSZ.out
  refine up_call rfl rfl (fun K hK => ?_)
  go_simp
  have hw4 := HW4.out
  refine hK _ _ (.alloc _ (by show w.heap.size ≤ W3.heap.size; omega)) ?_
  clear hK
  rw [← hw4]
  clear hw4
  refine up_call rfl rfl (fun K hK => ?_)
  go_simp
  refine LH.out.mono ?_
  rintro e w5 ⟨rfl, V', l5, a5, t5⟩
  refine hK _ _ (.of t5 B04.out.size) ?_
  clear hK
  have nT : w.heap.size + 2 ∉ g :: rowT V := fun hx => by have := LOWT.out _ hx; omega
  have g5 := GR.out.touch t5 nT
  refine up_call rfl rfl (fun K hK => ?_)
  refine wp_store_row 32 (.tmp 6) (.tmp 11) rfl (w.heap.size + 2) cs rfl rfl _ _ (row_of_blk g5) I32.out ZS.out ONE.out ?_
  refine hK _ _ (.far (far_setRow (g := w.heap.size + 2) _ cs) (by omega) (Nat.le_trans B04.out.size t5.size)) ?_
  clear hK
  refine up_nil ?_
  have G6 := Lib.hid (blk_setRow g5 cs)
  have P6 : Hid (∃ V', LogOf tL (w5.setRow (w.heap.size + 2) cs) base g V' (L ++ [frameL nodeTag [a, b]]) ∧ (V'.ownBlock = V.ownBlock ∨ ∃ h, V'.ownBlock = some h ∧ w.heap.size ≤ h) ∧ Turns (g :: rowT V) w (w5.setRow (w.heap.size + 2) cs)) := Lib.hid (by
    have tt : Turns [w.heap.size + 2] w5 (w5.setRow (w.heap.size + 2) cs) := Turns.of_far (far_setRow (g := w.heap.size + 2) w5 cs) (by simp)
    refine ⟨V', l5.turn tt (by simp; omega) ?_ ?_, a5.imp id (fun ⟨h, h1, h2⟩ => ⟨h, h1, Nat.le_trans B04.out.size h2⟩), ?_⟩
    · intro x hx
      simp at hx
      subst hx
      obtain ⟨A', n', c', D', e', _, o', _⟩ := l5
      rw [e']
      exact o'.blk_ne g5 (by decide)
    · intro x hx _ cs hB
      simp at hx
      subst hx
      exact Blk.ne_ g5 hB (by decide) rfl
    · exact Turns.new_ ((((Turns.of_new B04.out).trans t5).more (T' := (w.heap.size + 2) :: g :: rowT V) (by intro x hx; simp at hx ⊢; simp [hx])).trans (tt.more (by intro x hx; simp at hx ⊢; simp [hx]))) (by omega))
  clear l5 a5 t5 g5
  go_wp2
  exact bodyPost_ret (results_cell_row rfl _ _ (w.heap.size + 2) _ cs (0, 0) _ rfl G6.out digarr rfl I32.out) rfl ⟨rfl, P6.out⟩
set_option maxHeartbeats 2000000 in
set_option maxRecDepth 100000 in
theorem rnode_any {w : World} {base g : Nat} {V : Value} {L : List (List Nat)} (hL : LogOf tR w base g V L) (hbs : base ≤ w.heap.size) (hLn : L.length ≤ 1000000) {a b : List Nat} (ha : DigN a) (hb : DigN b) :
    Calls Tryd.prog 18 #[.pointer (some ⟨g, 0, none⟩), dV a, dV b] w (PostOf tR (dV (hashN nodeTag [a, b])) base g V (L ++ [frameL nodeTag [a, b]]) w) := by
  obtain ⟨ca, hca⟩ : ∃ cs, cs = (nums .u8 a).toArray := ⟨_, rfl⟩
  obtain ⟨cb, hcb⟩ : ∃ cs, cs = (nums .u8 b).toArray := ⟨_, rfl⟩
  have hva : dV a = .agg ca := by rw [hca]; rfl
  have hvb : dV b = .agg cb := by rw [hcb]; rfl
  obtain ⟨W3, hW3⟩ : ∃ W, W = ((w.alloc (.cells ca 32)).alloc (.cells cb 32)).alloc (.cells (ints .u8 zero32).toArray 32) := ⟨_, rfl⟩
  have z1 : (w.alloc (.cells ca 32)).heap.size = w.heap.size + 1 := by simp
  have z2 : ((w.alloc (.cells ca 32)).alloc (.cells cb 32)).heap.size = w.heap.size + 2 := by simp
  have zs : W3.heap.size = w.heap.size + 3 := by rw [hW3]; simp
  have b3 : New w W3 := by rw [hW3]; exact New.trans (New.trans (new_alloc2 _ _) (new_alloc2 _ _)) (new_alloc2 _ _)
  have ga : Blk W3 w.heap.size 32 ca := by rw [hW3]; exact ((Blk.new w _ ca).alloc _).alloc _
  have gb : Blk W3 (w.heap.size + 1) 32 cb := by
    rw [hW3]
    have := Blk.new (w.alloc (.cells ca 32)) 32 cb
    rw [z1] at this
    exact this.alloc _
  have gr : Blk W3 (w.heap.size + 2) 32 (ints .u8 zero32).toArray := by
    rw [hW3]
    have := Blk.new ((w.alloc (.cells ca 32)).alloc (.cells cb 32)) 32 (ints .u8 zero32).toArray
    rwa [z2] at this
  have hgl : g < w.heap.size := hL.lt
  have lowT : ∀ x ∈ g :: rowT V, x < w.heap.size := fun x hx => by
    rcases List.mem_cons.1 hx with rfl | hx
    · exact hgl
    · exact (hL.ge x hx).2
  obtain ⟨W4, hW4⟩ : ∃ W, W = (W3.alloc (.cells #[.slice (some ⟨w.heap.size, 0, none⟩) 32 32, .slice (some ⟨w.heap.size + 1, 0, none⟩) 32 32] 22)).drew := ⟨_, rfl⟩
  have b34 : New W3 W4 := by rw [hW4]; exact New.trans (new_alloc2 W3 _) (New.drew _)
  have rr : RowsAt W4 (some ⟨w.heap.size + 3, 0, none⟩) 2 2 [(some ⟨w.heap.size, 0, none⟩, 32, a), (some ⟨w.heap.size + 1, 0, none⟩, 32, b)] := by
    refine ⟨?_, fun x hx => ?_, Nat.le_refl _⟩
    · rw [hW4, ← zs]
      exact Reads.litM3 W3 _ (0, 0) _ 2 _ (by simp [recs, partV, ha.1, hb.1]) (by simp [recs, partV])
    · simp only [List.mem_cons, List.not_mem_nil, or_false] at hx
      rcases hx with rfl | rfl
      · exact ⟨by show Reads _ _ 1 _ a.length _; exact Reads.later (reads_blk ga (by rw [hca])) b34, by show a.length ≤ 32; rw [ha.1]; omega, by show (32 : Nat) ≤ _; omega⟩
      · exact ⟨by show Reads _ _ 1 _ b.length _; exact Reads.later (reads_blk gb (by rw [hcb])) b34, by show b.length ≤ 32; rw [hb.1]; omega, by show (32 : Nat) ≤ _; omega⟩
  have hbo : bytesOf [((some ⟨w.heap.size, 0, none⟩ : Option Addr), 32, a), (some ⟨w.heap.size + 1, 0, none⟩, 32, b)] = [a, b] := rfl
  have hp8 : ∀ p ∈ [a, b], ∀ x ∈ p, x < 256 := by
    intro p hp
    simp only [List.mem_cons, List.not_mem_nil, or_false] at hp
    rcases hp with rfl | rfl
    · exact ha.2
    · exact hb.2
  have hts : tsum [a, b] ≤ 990000 := by simp [tsum, ha.1, hb.1]
  have b04 := New.trans b3 b34
  have keep : ∀ w', Turns (g :: rowT V) W4 w' → RowsAt w' (some ⟨w.heap.size + 3, 0, none⟩) 2 2 [(some ⟨w.heap.size, 0, none⟩, 32, a), (some ⟨w.heap.size + 1, 0, none⟩, 32, b)] := fun w' k => by
    refine rows_turn rr k (fun _ ad hd hm => ?_) (fun x hx _ ad hd hm => ?_)
    · injection hd with hd
      subst hd
      have h9 : w.heap.size + 3 < w.heap.size := lowT _ hm
      omega
    · simp only [List.mem_cons, List.not_mem_nil, or_false] at hx
      rcases hx with rfl | rfl
      · injection hd with hd
        subst hd
        have h9 : w.heap.size < w.heap.size := lowT _ hm
        omega
      · injection hd with hd
        subst hd
        have h9 : w.heap.size + 1 < w.heap.size := lowT _ hm
        omega
  have lh := rlhash_any (s := nodeTag) (hL.new b04) (Nat.le_trans hbs b04.size) hLn keep (by omega) (by decide) (by decide) hts hp8
  rw [hbo, frame_node] at lh
  obtain ⟨cs, hcs⟩ : ∃ cs, cs = (ints .u8 (hashO nodeTag [a, b])).toArray := ⟨_, rfl⟩
  have hdv : digV (hashO nodeTag [a, b]) = .agg cs := by rw [hcs]; rfl
  have hdv2 : dV (hashN nodeTag [a, b]) = .agg cs := by rw [← dV_hash, hdv]
  have hl32 := hashO_len nodeTag [a, b]
  have I32 : (Tryd.prog.info? 32).map (·.size) = some cs.size := by rw [hcs]; exact i32d hl32
  have ZS : (ints .u8 zero32).toArray.size = cs.size := by rw [hcs]; simp [ints, zero32, hl32]
  have ONE : cs.all (·.oneCell') = true := by rw [hcs]; exact ints_one _ _
  rw [hdv] at lh
  rw [hva, hvb, hdv2]
  have LH := Lib.hid lh
  have I32 := Lib.hid I32
  have ZS := Lib.hid ZS
  have ONE := Lib.hid ONE
  have HL := Lib.hid hL
  have GR := Lib.hid (gr.below b34 gr.lt)
  have B04 := Lib.hid b04
  have HW3 := Lib.hid hW3
  have HW4 := Lib.hid hW4
  have LOWT := Lib.hid lowT
  have ZSZ := Lib.hid zs
  clear hcs hdv hdv2 hl32 lh hts hp8 rr b34 ga gb gr z1 z2 zs hW3 hW4 b3 b04 hva hvb hca hcb hL lowT
  go_enter Tryd.func18, Tryd.ntmps18
  go_wp2
  have hw3 := HW3.out
  refine wp_region_up (TurnsB w.heap.size (g :: rowT V)) [(true, 0), (true, 1), (true, 2), (false, 3), (false, 4), (false, 5)]
    (TurnsB.refl _ _) TurnsB.trans (by kernel_rfl) (by kernel_rfl) (by kernel_rfl) (by kernel_rfl) ?_
  iterate 3 (
    refine up_quiet rfl rfl (v := ?_) (fun W hW => ?_) ?_
    rotate_left
    · skip
      go_simp <;> with_reducible rfl
    simp only [Act.put, List.setIfInBounds_toArray, List.set_cons_zero, List.set_cons_succ])
  have e3 : ((w.alloc (.cells ca 32)).alloc (.cells cb 32)).alloc (.cells (ints .u8 zero32).toArray 32) = W3 := hw3.symm
  rw [show (((w.alloc (.cells ca 32)).alloc (.cells cb 32)).alloc (.cells #[.int .u8 0, .int .u8 0, .int .u8 0, .int .u8 0, .int .u8 0, .int .u8 0, .int .u8 0, .int .u8 0, .int .u8 0, .int .u8 0, .int .u8 0, .int .u8 0, .int .u8 0, .int .u8 0, .int .u8 0, .int .u8 0, .int .u8 0, .int .u8 0, .int .u8 0, .int .u8 0, .int .u8 0, .int .u8 0, .int .u8 0, .int .u8 0, .int .u8 0, .int .u8 0, .int .u8 0, .int .u8 0, .int .u8 0, .int .u8 0, .int .u8 0, .int .u8 0] 32)).drew = W3.drew from by rw [hw3]; rfl]
  clear e3 hw3
  have zs := ZSZ.out
  refine up_call rfl rfl (fun K hK => ?_)
  go_simp
  have hw4 := HW4.out
  refine hK _ _ (.alloc _ (by show w.heap.size ≤ W3.heap.size; omega)) ?_
  clear hK
  rw [← hw4]
  clear hw4
  refine up_call rfl rfl (fun K hK => ?_)
  go_simp
  refine LH.out.mono ?_
  rintro e w5 ⟨rfl, V', l5, a5, t5⟩
  refine hK _ _ (.of t5 B04.out.size) ?_
  clear hK
  have nT : w.heap.size + 2 ∉ g :: rowT V := fun hx => by have := LOWT.out _ hx; omega
  have g5 := GR.out.touch t5 nT
  refine up_call rfl rfl (fun K hK => ?_)
  refine wp_store_row 32 (.tmp 6) (.tmp 11) rfl (w.heap.size + 2) cs rfl rfl _ _ (row_of_blk g5) I32.out ZS.out ONE.out ?_
  refine hK _ _ (.far (far_setRow (g := w.heap.size + 2) _ cs) (by omega) (Nat.le_trans B04.out.size t5.size)) ?_
  clear hK
  refine up_nil ?_
  have G6 := Lib.hid (blk_setRow g5 cs)
  have P6 : Hid (∃ V', LogOf tR (w5.setRow (w.heap.size + 2) cs) base g V' (L ++ [frameL nodeTag [a, b]]) ∧ (V'.ownBlock = V.ownBlock ∨ ∃ h, V'.ownBlock = some h ∧ w.heap.size ≤ h) ∧ Turns (g :: rowT V) w (w5.setRow (w.heap.size + 2) cs)) := Lib.hid (by
    have tt : Turns [w.heap.size + 2] w5 (w5.setRow (w.heap.size + 2) cs) := Turns.of_far (far_setRow (g := w.heap.size + 2) w5 cs) (by simp)
    refine ⟨V', l5.turn tt (by simp; omega) ?_ ?_, a5.imp id (fun ⟨h, h1, h2⟩ => ⟨h, h1, Nat.le_trans B04.out.size h2⟩), ?_⟩
    · intro x hx
      simp at hx
      subst hx
      obtain ⟨A', n', c', D', e', _, o', _⟩ := l5
      rw [e']
      exact o'.blk_ne g5 (by decide)
    · intro x hx _ cs hB
      simp at hx
      subst hx
      exact Blk.ne_ g5 hB (by decide) rfl
    · exact Turns.new_ ((((Turns.of_new B04.out).trans t5).more (T' := (w.heap.size + 2) :: g :: rowT V) (by intro x hx; simp at hx ⊢; simp [hx])).trans (tt.more (by intro x hx; simp at hx ⊢; simp [hx]))) (by omega))
  clear l5 a5 t5 g5
  go_wp2
  exact bodyPost_ret (results_cell_row rfl _ _ (w.heap.size + 2) _ cs (0, 0) _ rfl G6.out digarr rfl I32.out) rfl ⟨rfl, P6.out⟩

end Go.Proofs.YtgfemjpeegbhhaaDoor
/- Contract on tree.Root. -/

namespace Go.Hm
open Go Go.RowKit
theorem turnsB_seq {T : List Nat} {w w1 w2 : World} {g : Nat} {V1 V2 : Value} (hT : ∀ x ∈ g :: rowT V1, x ∈ T) (hw : w.heap.size ≤ w1.heap.size) (a2 : V2.ownBlock = V1.ownBlock ∨ ∃ h, V2.ownBlock = some h ∧ w.heap.size ≤ h) (t2 : Turns (g :: rowT V2) w1 w2) : TurnsB w.heap.size T w1 w2 :=
  ⟨t2.os, t2.tape, t2.output, t2.size, fun k hk hm => t2.block k (by omega) (row_out (fun h => hm (hT k h)) hk a2)⟩
theorem LeafIn.at_ {w : World} {A : Option Addr} {L : List (List Nat)} {T : List Nat} (h : LeafIn w A L T) {i : Nat} (hi : i < L.length) :
    ∃ ad, A = some ad ∧ ∀ W, New w W → ∀ j v, (nums .u8 (L.getD i []))[j]? = some v → W.cell? ((ad.add (i * 32)).add j) = some v := by
  obtain ⟨ad, e, hb, hl, hc⟩ := Reads.rec_ (f := digC) (sz := 32) digC_len [] h.row hi (by omega)
  have hd : DigN (L.getD i []) := by
    refine h.digs _ ?_
    rw [List.getD_eq_getElem?_getD, List.getElem?_eq_getElem hl]
    exact List.getElem_mem hl
  refine ⟨ad, e, fun W hW j v hv => ?_⟩
  rw [add_of_add]
  rw [← digC_eq hd.1] at hv
  exact (Below.cell hW (by rw [block_of_add]; exact hb)).trans (hc j v hv)

end Go.Hm

namespace Go.Proofs.YtgfemjpeegbhhaaDoor
open Go.RowKit Go.Hm
theorem sD : Tryd.prog.underlying 23 = some (.slice (Tryd.prog.elem 23)) := by kernel_rfl
theorem zD (w : World) : (sizeOf (Tryd.prog.elem 23)).run Tryd.prog w = .ok 32 w := by kernel_rfl
theorem dslice_h (A : Option Addr) (n c m : Nat) (hc : m ≤ c) (w : World) : (Instr.sliceAt 23 (.slice A n c) none (some (.int .i64 (m : Int))) none).run Tryd.prog w = .ok (.slice A m c) w := by
  rw [run_sliceAt_slice w _ _ _ _ _ sD, run_slice_h w _ A n c sD .i64 (m : Int) (by omega) (by omega), zD]
  cases A <;> simp [Result.andThen, sliced, add_zero']
theorem dslice_l (A : Option Addr) (n c k : Nat) (hk : k ≤ n) (w : World) : (Instr.sliceAt 23 (.slice A n c) (some (.int .i64 (k : Int))) none none).run Tryd.prog w = .ok (.slice (if c = k then A else A.map (·.add (k * 32))) (n - k) (c - k)) w := by
  rw [run_sliceAt_slice w _ _ _ _ _ sD, run_slice_l w _ A n c sD .i64 (k : Int) (by omega) (by omega), zD]
  simp [Result.andThen, sliced]
theorem wpList_load_at {ops : Array Oper} {rest : List Oper} {o : Oper} {a : Act} {w : World} {Q : Exit → Act → World → Prop} (hgd : o.guard = none) (ty : TypeId) (x : Operand) (ho : o.op = .load ty x) {ad : Addr} {cs : List Value} {d : TypeDesc} (hx : a.eval x = .pointer (some ad)) (hc : ∀ j v, cs[j]? = some v → w.cell? (ad.add j) = some v) (hu : Tryd.prog.underlying ty = some d) (hd : d.isRow = true) (hi : (Tryd.prog.info? ty).map (·.size) = some cs.length)
    (h : wpList Tryd.prog ops Q rest (a.put o.dst (.agg cs.toArray)) w) : wpList Tryd.prog ops Q (o :: rest) a w := by
  refine wpList_plain hgd fun K hK => ?_
  unfold Oper.wp execOp
  simp only [ho, hx, Instr.loadAt, Instr.sureAddr, Sem.run_bind, Sem.run_pure, Result.andThen_ok, run_loadVar_at w ad ty cs d hc hu hd hi]
  exact hK _ _ h
theorem i32n {d : List Nat} (h : d.length = 32) : (Tryd.prog.info? 32).map (·.size) = some (nums .u8 d).toArray.size := by
  have := i32d (l := List.replicate 32 0) (by simp)
  rw [this]
  simp [ints, nums, h]
theorem one_n (d : List Nat) : (nums .u8 d).toArray.all (·.oneCell') = true := by
  rw [Array.all_eq_true_iff_forall_mem]
  intro v hv
  exact nums_oneCell .u8 d v (by simpa using hv)
set_option maxHeartbeats 4000000 in
set_option maxRecDepth 100000 in
theorem root_any : ∀ (m : Nat) {L : List (List Nat)} {w : World} {base g : Nat} {V : Value} {F : List (List Nat)} {A : Option Addr} {c : Nat}, L.length < m → LogOf tL w base g V F → base ≤ w.heap.size → F.length + L.length ≤ 900000 → LeafIn w A L (g :: rowT V) → L.length ≤ c → c ≤ 9223372036854775807 → (∀ w', Turns (g :: rowT V) w w' → ConstIn w') →
    Calls Tryd.prog 19 #[.pointer (some ⟨g, 0, none⟩), .slice A L.length c] w (PostOf tL (dV (rootD L).1) base g V (F ++ (rootD L).2) w) := by
  intro m
  induction m with
  | zero => intro L w base g V F A c h; omega
  | succ m ih =>
    intro L w base g V F A c hm hL hbs hn hlv hc hcm hC
    have c0 := new_alloc2 w (.cells (ints .u8 zero32).toArray 32)
    have G0 := Blk.new w 32 (ints .u8 zero32).toArray
    have hgl : g < w.heap.size := hL.lt
    obtain ⟨W0, hW0⟩ : ∃ W, W = w.alloc (.cells (ints .u8 zero32).toArray 32) := ⟨_, rfl⟩
    rw [← hW0] at c0 G0
    have L0 := hL.new c0
    have V0 := hlv.turn (Turns.of_new (T := g :: rowT V) c0) (fun x _ h => h)
    match L, hm, hn, hlv, hc, V0 with
    | [], _, hn, _, _, _ =>
      have lh := lhash_any (s := noneTag) (D := []) (A := none) (n := 0) (c := 0) L0 (Nat.le_trans hbs c0.size) (by simp at hn; omega) ⟨Reads.none_, (fun _ hd => nomatch hd), Nat.le_refl _⟩ (by omega) (by decide) (by decide) (by simp [bytesOf, tsum]) (by simp [bytesOf]) (fun w' k => hC w' ((Turns.of_new c0).trans k))
      rw [show bytesOf [] = [] from rfl, frame_none] at lh
      obtain ⟨cs, hcs⟩ : ∃ cs, cs = (nums .u8 (hashN noneTag [])).toArray := ⟨_, rfl⟩
      have hdv : dV (hashN noneTag []) = .agg cs := by rw [hcs]; rfl
      have I32 := i32n (hashN_dig noneTag []).1
      have ONE := one_n (hashN noneTag [])
      have ZS : (ints .u8 zero32).toArray.size = cs.size := by rw [hcs]; simp [ints, nums, zero32, (hashN_dig noneTag []).1]
      rw [dV_hash, hdv] at lh
      rw [← hcs] at I32 ONE
      rw [rootD_nil]
      show Calls _ _ _ _ (PostOf tL (dV (hashN noneTag [])) base g V (F ++ [frameL noneTag []]) w)
      rw [hdv]
      have LH := Lib.hid lh
      have I32 := Lib.hid I32
      have ONE := Lib.hid ONE
      have ZS := Lib.hid ZS
      have HL := Lib.hid L0
      have G0 := Lib.hid G0
      have C0 := Lib.hid c0
      have HW := Lib.hid hW0
      clear hcs hdv lh L0 c0 hC hlv hL ih hW0 V0
      go_enter Tryd.func19, Tryd.ntmps19
      go_wp2_with fail
      have F1 := LH.out
      rw [HW.out] at F1
      refine F1.mono ?_
      rintro e w4 ⟨rfl, V', l4, a4, t4⟩
      have t4 : Turns (g :: rowT V) W0 w4 := by rw [HW.out]; exact t4
      have g4 := G0.out.touch t4 (HL.out.notT G0.out (by decide) (by decide))
      have a4 : V'.ownBlock = V.ownBlock ∨ ∃ h, V'.ownBlock = some h ∧ w.heap.size ≤ h := a4.imp id fun ⟨h, h1, h2⟩ => ⟨h, h1, Nat.le_trans (by simp) h2⟩
      have PS := Lib.hid (post_store hgl l4 a4 ((Turns.of_new C0.out).trans t4) g4 cs)
      have H := Lib.hid (And.intro (row_of_blk g4) (blk_setRow g4 cs))
      clear l4 a4 t4 g4 F1 LH HW
      go_wp2_with (refine wpList_store_row rfl 32 (.tmp 4) (.tmp 12) rfl w.heap.size cs rfl rfl _ _ H.out.1 I32.out ZS.out ONE.out ?_)
      exact bodyPost_ret (results_cell_row rfl _ _ w.heap.size _ cs (0, 0) _ rfl H.out.2 digarr rfl I32.out) rfl ⟨rfl, PS.out⟩
    | [x], _, _, hlv, _, V0 =>
      have hx : DigN x := hlv.digs x (by simp)
      obtain ⟨ad, rfl, hcell⟩ := V0.at_ (i := 0) (by simp)
      have hcell := hcell W0 (Below.refl _ _)
      rw [Nat.zero_mul, add_zero'] at hcell
      obtain ⟨cs, hcs⟩ : ∃ cs, cs = (nums .u8 x).toArray := ⟨_, rfl⟩
      have hdv : dV x = .agg cs := by rw [hcs]; rfl
      have I32 := i32n hx.1
      have I32L : (Tryd.prog.info? 32).map (·.size) = some cs.toList.length := by rw [hcs]; simpa using i32n hx.1
      have ONE := one_n x
      have ZS : (ints .u8 zero32).toArray.size = cs.size := by rw [hcs]; simp [ints, nums, zero32, hx.1]
      have hcell : ∀ j v, cs.toList[j]? = some v → W0.cell? (ad.add j) = some v := by rw [hcs]; simpa using hcell
      rw [← hcs] at I32 ONE
      rw [rootD_one]
      show Calls _ _ _ _ (PostOf tL (dV x) base g V (F ++ []) w)
      rw [hdv, List.append_nil]
      have PS := Lib.hid (post_store hgl L0 (.inl rfl) (Turns.of_new c0) G0 cs)
      have H := Lib.hid (And.intro (row_of_blk G0) (blk_setRow G0 cs))
      rw [hW0] at hcell PS H
      have HC := Lib.hid hcell
      have I32 := Lib.hid I32
      have I32L := Lib.hid I32L
      have ONE := Lib.hid ONE
      have ZS := Lib.hid ZS
      clear hcs hdv L0 c0 G0 hC hlv hL ih hW0 V0 hcell
      show Calls _ _ #[_, .slice (some ad) 1 c] _ _
      go_enter Tryd.func19, Tryd.ntmps19
      go_wp2_with (first
        | (refine wpList_load_at rfl 32 (.tmp 16) rfl rfl HC.out digarr rfl I32L.out ?_)
        | (refine wpList_store_row rfl 32 (.tmp 4) (.tmp 17) rfl w.heap.size cs rfl rfl _ _ H.out.1 I32.out ZS.out ONE.out ?_))
      exact bodyPost_ret (results_cell_row rfl _ _ w.heap.size _ cs (0, 0) _ rfl H.out.2 digarr rfl I32.out) rfl ⟨rfl, PS.out⟩
    | x :: y :: r, hm, hn, hlv, hc, V0 =>
      have h2 : 2 ≤ (x :: y :: r).length := by simp
      obtain ⟨L, hLL⟩ : ∃ L, L = x :: y :: r := ⟨_, rfl⟩
      rw [← hLL] at h2 hm hn hlv hc V0 ⊢
      clear hLL
      obtain ⟨s1, s2, s3⟩ := splitN_lt h2
      have SP := split_any (L.length : Int) W0 (by omega) (by omega)
      rw [Int.toNat_natCast] at SP
      rw [rootD_many h2]
      have dg := hlv.digs
      have d1 := rootD_dig _ (dg.take (splitN L.length))
      have d2 := rootD_dig _ (dg.drop (splitN L.length))
      have tk : (L.take (splitN L.length)).length = splitN L.length := by rw [List.length_take]; omega
      have dr : (L.drop (splitN L.length)).length = L.length - splitN L.length := by rw [List.length_drop]
      have f1 := (rootD_nodes _ (dg.take (splitN L.length)) (by omega)).1
      have f2 := (rootD_nodes _ (dg.drop (splitN L.length)) (by omega)).1
      have ih1 := ih (L := L.take (splitN L.length)) (c := c) (by omega) L0 (Nat.le_trans hbs c0.size) (by omega) (V0.take (by omega)) (by omega) hcm (fun w' t => hC w' ((Turns.of_new c0).trans t))
      have ih2 := fun (w : World) (V : Value) (F : List (List Nat)) (A : Option Addr) (h1 : LogOf tL w base g V F) (h2 : base ≤ w.heap.size) (h3 : F.length + (L.length - splitN L.length) ≤ 900000) (h4 : LeafIn w A (L.drop (splitN L.length)) (g :: rowT V)) (h5 : ∀ w', Turns (g :: rowT V) w w' → ConstIn w') => ih (L := L.drop (splitN L.length)) (c := c - splitN L.length) (by omega) h1 h2 (by omega) h4 (by omega) (by omega) h5
      rw [tk] at ih1 f1
      rw [dr] at ih2 f2
      have DROP := fun (w : World) (A : Option Addr) (T : List Nat) (h : LeafIn w A L T) => h.drop (k := splitN L.length) (c := c) (by omega) hc
      have SLh := fun W => dslice_h A L.length c (splitN L.length) (by omega) W
      have SLl := fun W => dslice_l A L.length c (splitN L.length) (by omega) W
      generalize rootD (L.take (splitN L.length)) = ra at *
      generalize rootD (L.drop (splitN L.length)) = rb at *
      generalize splitN L.length = k at *
      obtain ⟨a, fa⟩ := ra
      obtain ⟨b, fb⟩ := rb
      simp only at d1 d2 f1 f2 ih1 ih2 ⊢
      obtain ⟨ca, hca⟩ : ∃ cs, cs = (nums .u8 a).toArray := ⟨_, rfl⟩
      have hva : dV a = .agg ca := by rw [hca]; rfl
      obtain ⟨cb, hcb⟩ : ∃ cs, cs = (nums .u8 b).toArray := ⟨_, rfl⟩
      have hvb : dV b = .agg cb := by rw [hcb]; rfl
      obtain ⟨cs, hcs⟩ : ∃ cs, cs = (nums .u8 (hashN nodeTag [a, b])).toArray := ⟨_, rfl⟩
      have hdv : dV (hashN nodeTag [a, b]) = .agg cs := by rw [hcs]; rfl
      have I32a : (Tryd.prog.info? 32).map (·.size) = some ca.size := by rw [hca]; exact i32n d1.1
      have ZSa : (ints .u8 zero32).toArray.size = ca.size := by rw [hca]; simp [ints, nums, zero32, d1.1]
      have ONEa : ca.all (·.oneCell') = true := by rw [hca]; exact one_n _
      have hdd := hashN_dig nodeTag [a, b]
      have I32 : (Tryd.prog.info? 32).map (·.size) = some cs.size := by rw [hcs]; exact i32n hdd.1
      have ZS : (ints .u8 zero32).toArray.size = cs.size := by rw [hcs]; simp [ints, nums, zero32, hdd.1]
      have ONE : cs.all (·.oneCell') = true := by rw [hcs]; exact one_n _
      have ND := fun (w : World) (V : Value) (F : List (List Nat)) (h1 : LogOf tL w base g V F) (h2 : base ≤ w.heap.size) (h3 : F.length ≤ 1000000) (h4 : ∀ w', Turns (g :: rowT V) w w' → ConstIn w') => node_any h1 h2 h3 d1 d2 h4
      rw [hva] at ih1
      rw [hvb] at ih2
      rw [hva, hvb, hdv] at ND
      rw [hdv]
      have IH1 := Lib.hid ih1
      have IH2 := Lib.hid ih2
      have ND2 := Lib.hid ND
      have DROPH := Lib.hid DROP
      have SP := Lib.hid SP
      have HL0 := Lib.hid L0
      have HLV := Lib.hid hlv
      have HC := Lib.hid hC
      have G0 := Lib.hid G0
      have C0 := Lib.hid c0
      have HW := Lib.hid hW0
      have I32a := Lib.hid I32a
      have ZSa := Lib.hid ZSa
      have ONEa := Lib.hid ONEa
      have I32 := Lib.hid I32
      have ZS := Lib.hid ZS
      have ONE := Lib.hid ONE
      have SLL := Lib.hid SLl
      clear hca hcb hcs hva hvb hdv hdd ih ih1 ih2 ND L0 c0 hC hlv hL hW0 V0 DROP dg d1 d2 tk dr SLl
      go_enter Tryd.func19, Tryd.ntmps19
      have q0 : ((L.length : Int) == 0) = false := by rw [beq_eq_false_iff_ne]; omega
      have q1 : ((L.length : Int) == 1) = false := by rw [beq_eq_false_iff_ne]; omega
      go_wp2_with fail
      have F1 := SP.out
      rw [HW.out] at F1
      refine F1.mono ?_
      rintro e w' ⟨rfl, rfl⟩
      clear F1 SP q0 q1
      go_wp2_with fail
      have F2 := IH1.out
      rw [HW.out] at F2
      refine F2.mono ?_
      rintro e w5 ⟨rfl, V1, l5, a5, t5⟩
      have t5 : Turns (g :: rowT V) W0 w5 := by rw [HW.out]; exact t5
      have a5 : V1.ownBlock = V.ownBlock ∨ ∃ h, V1.ownBlock = some h ∧ w.heap.size ≤ h := a5.imp id fun ⟨h, h1, h2⟩ => ⟨h, h1, Nat.le_trans (by simp) h2⟩
      have g5 := G0.out.touch t5 (HL0.out.notT G0.out (by decide) (by decide))
      have L5 := Lib.hid l5
      have A5 := Lib.hid a5
      have T5 := Lib.hid ((Turns.of_new (T := g :: rowT V) C0.out).trans t5)
      have G5 := Lib.hid g5
      clear F2 IH1 l5 a5 t5 g5 G0 HL0 SLh HW C0
      go_wp2_with (refine wpList_store_row rfl 32 (.tmp 6) (.tmp 25) rfl w5.heap.size ca rfl rfl _ _ (heap_alloc_new _ _) I32a.out ZSa.out ONEa.out ?_; rw [alloc_setRow])
      obtain ⟨w7, hw7⟩ : ∃ W, W = w5.alloc (.cells ca 32) := ⟨_, rfl⟩
      have n57 : New w5 w7 := by rw [hw7]; exact new_alloc2 _ _
      have g6 : Blk w7 w5.heap.size 32 ca := by rw [hw7]; exact Blk.new _ _ _
      rw [← hw7]
      have B6N := Lib.hid (show w5.heap.size ≠ w.heap.size by have := G5.out.lt; omega)
      generalize w5.heap.size = b6 at *
      clear hw7
      have t7 := T5.out.trans (Turns.of_new n57)
      have l7 := L5.out.new n57
      have nr : w.heap.size ∉ g :: rowT V1 := L5.out.notT G5.out (by decide) (by decide)
      have g7 := G5.out.below n57 G5.out.lt
      obtain ⟨w0, hw0⟩ : ∃ W, W = w7.drew := ⟨_, rfl⟩
      have n70 : New w7 w0 := by rw [hw0]; exact New.drew w7
      have t0 := t7.trans (Turns.of_new n70)
      have l0 := l7.new n70
      have lv0 := HLV.out.turn t0 (fun x hx hT => row_out hT hx A5.out)
      have R2 := IH2.out w0 V1 (F ++ fa) _ l0 (Nat.le_trans hbs t0.size) (by rw [List.length_append, f1]; omega) (DROPH.out w0 A _ lv0) (fun w' t => HC.out w' (turns_seq t0 A5.out t))
      have LR : ∀ W, TurnsB w0.heap.size (w.heap.size :: g :: rowT V1) w0 W → W.heap[b6]? = some (.cells ca 32 (0, 0)) := fun W hW => by
        have g60 := g6.below n70 g6.lt
        refine (hW.block b6 g60.lt (fun hx => ?_)).trans g60
        rcases List.mem_cons.1 hx with e | hx
        · exact B6N.out e
        · exact l0.notT g60 (by decide) (by decide) hx
      have R2 := Lib.hid R2
      have LR := Lib.hid LR
      have HW0 := Lib.hid hw0
      have G70 := Lib.hid (g7.below n70 g7.lt)
      have L00 := Lib.hid l0
      have T0 := Lib.hid t0
      have NR := Lib.hid nr
      clear t7 l7 nr g7 n70 t0 l0 lv0 n57 g6 T5 L5 G5 HLV IH2 DROPH hw0
      go_wp2
      refine wp_region_up (TurnsB w0.heap.size (w.heap.size :: g :: rowT V1)) [(true, 0), (true, 1), (true, 2), (true, 3), (true, 4), (true, 5), (false, 6), (false, 7), (false, 8)]
        (TurnsB.refl _ _) TurnsB.trans (by kernel_rfl) (by kernel_rfl) (by kernel_rfl) (by kernel_rfl) ?_
      rw [← HW0.out]
      iterate 1 (
        refine up_quiet rfl rfl (v := ?_) (fun W hW => ?_) ?_
        rotate_left
        · skip
          go_simp <;> with_reducible rfl
        simp only [Act.put, List.setIfInBounds_toArray, List.set_cons_zero, List.set_cons_succ])
      refine up_quiet rfl rfl (v := .agg ca) (fun W hW => exec_load_row rfl (LR.out W hW) digarr rfl I32a.out) ?_
      simp only [Act.put, List.setIfInBounds_toArray, List.set_cons_zero, List.set_cons_succ]
      iterate 3 (
        refine up_quiet rfl rfl (v := ?_) (fun W hW => ?_) ?_
        rotate_left
        · skip
          go_simp <;> with_reducible rfl
        simp only [Act.put, List.setIfInBounds_toArray, List.set_cons_zero, List.set_cons_succ])
      refine up_quiet rfl rfl (v := .slice (if c = k then A else A.map (·.add (k * 32))) (L.length - k) (c - k)) (fun W hW => exec_slice (SLL.out W)) ?_
      simp only [Act.put, List.setIfInBounds_toArray, List.set_cons_zero, List.set_cons_succ]
      refine up_call rfl rfl (fun K hK => ?_)
      go_simp
      refine R2.out.mono ?_
      rintro e w8 ⟨rfl, V2, l8, a8, t8⟩
      refine hK _ _ (.of (t8.more (by intro x hx; simp at hx ⊢; simp [hx])) (Nat.le_refl _)) ?_
      clear hK
      have t08 := turns_seq T0.out A5.out t8
      have a08 := alt_seq T0.out.size A5.out a8
      have g8 := G70.out.touch t8 NR.out
      have nd := ND2.out w8 V2 (F ++ fa ++ fb) l8 (Nat.le_trans hbs t08.size) (by rw [List.length_append, List.length_append, f1, f2]; omega) (fun w' t => HC.out w' (turns_seq t08 a08 t))
      have nr2 : w.heap.size ∉ g :: rowT V2 := l8.notT g8 (by decide) (by decide)
      refine up_call rfl rfl (fun K hK => ?_)
      go_simp
      refine nd.mono ?_
      rintro e w9 ⟨rfl, V3, l9, a9, t9⟩
      refine hK _ _ (turnsB_seq (fun x hx => List.mem_cons_of_mem _ hx) t8.size a8 t9) ?_
      clear hK
      have t09 := turns_seq t08 a08 t9
      have a09 := alt_seq t08.size a08 a9
      have g9 := g8.touch t9 nr2
      refine up_call rfl rfl (fun K hK => ?_)
      refine wp_store_row 32 (.tmp 4) (.tmp 33) rfl w.heap.size cs rfl rfl _ _ (row_of_blk g9) I32.out ZS.out ONE.out ?_
      refine hK _ _ (.of (Turns.of_far (far_setRow (g := w.heap.size) w9 cs) (by simp)) (Nat.le_trans t8.size t9.size)) ?_
      clear hK
      refine up_nil ?_
      have PS := post_store hgl l9 a09 t09 g9 cs
      rw [List.append_assoc, List.append_assoc] at PS
      have PS := Lib.hid PS
      have H := Lib.hid (blk_setRow g9 cs)
      clear t08 a08 g8 nd nr2 t09 a09 g9 l8 a8 t8 l9 a9 t9
      go_wp2
      exact bodyPost_ret (results_cell_row rfl _ _ w.heap.size _ cs (0, 0) _ rfl H.out digarr rfl I32.out) rfl ⟨rfl, by have := PS.out; simpa only [List.append_assoc] using this⟩

end Go.Proofs.YtgfemjpeegbhhaaDoor
/- Contract on ref21.Root. -/

namespace Go.Proofs.YtgfemjpeegbhhaaDoor
open Go.RowKit Go.Hm
set_option maxHeartbeats 4000000 in
set_option maxRecDepth 100000 in
theorem rroot_any : ∀ (m : Nat) {L : List (List Nat)} {w : World} {base g : Nat} {V : Value} {F : List (List Nat)} {A : Option Addr} {c : Nat}, L.length < m → LogOf tR w base g V F → base ≤ w.heap.size → F.length + L.length ≤ 900000 → LeafIn w A L (g :: rowT V) → L.length ≤ c → c ≤ 9223372036854775807 →
    Calls Tryd.prog 20 #[.pointer (some ⟨g, 0, none⟩), .slice A L.length c] w (PostOf tR (dV (rootD L).1) base g V (F ++ (rootD L).2) w) := by
  intro m
  induction m with
  | zero => intro L w base g V F A c h; omega
  | succ m ih =>
    intro L w base g V F A c hm hL hbs hn hlv hc hcm
    have c0 := new_alloc2 w (.cells (ints .u8 zero32).toArray 32)
    have G0 := Blk.new w 32 (ints .u8 zero32).toArray
    have hgl : g < w.heap.size := hL.lt
    obtain ⟨W0, hW0⟩ : ∃ W, W = w.alloc (.cells (ints .u8 zero32).toArray 32) := ⟨_, rfl⟩
    rw [← hW0] at c0 G0
    have L0 := hL.new c0
    have V0 := hlv.turn (Turns.of_new (T := g :: rowT V) c0) (fun x _ h => h)
    match L, hm, hn, hlv, hc, V0 with
    | [], _, hn, _, _, _ =>
      have lh := rlhash_any (s := noneTag) (D := []) (A := none) (n := 0) (c := 0) L0 (Nat.le_trans hbs c0.size) (by simp at hn; omega) (fun _ _ => ⟨Reads.none_, (fun _ hd => nomatch hd), Nat.le_refl _⟩) (by omega) (by decide) (by decide) (by simp [bytesOf, tsum]) (by simp [bytesOf])
      rw [show bytesOf [] = [] from rfl, frame_none] at lh
      obtain ⟨cs, hcs⟩ : ∃ cs, cs = (nums .u8 (hashN noneTag [])).toArray := ⟨_, rfl⟩
      have hdv : dV (hashN noneTag []) = .agg cs := by rw [hcs]; rfl
      have I32 := i32n (hashN_dig noneTag []).1
      have ONE := one_n (hashN noneTag [])
      have ZS : (ints .u8 zero32).toArray.size = cs.size := by rw [hcs]; simp [ints, nums, zero32, (hashN_dig noneTag []).1]
      rw [dV_hash, hdv] at lh
      rw [← hcs] at I32 ONE
      rw [rootD_nil]
      show Calls _ _ _ _ (PostOf tR (dV (hashN noneTag [])) base g V (F ++ [frameL noneTag []]) w)
      rw [hdv]
      have LH := Lib.hid lh
      have I32 := Lib.hid I32
      have ONE := Lib.hid ONE
      have ZS := Lib.hid ZS
      have HL := Lib.hid L0
      have G0 := Lib.hid G0
      have C0 := Lib.hid c0
      have HW := Lib.hid hW0
      clear hcs hdv lh L0 c0 hlv hL ih hW0 V0
      go_enter Tryd.func20, Tryd.ntmps20
      go_wp2_with fail
      have F1 := LH.out
      rw [HW.out] at F1
      refine F1.mono ?_
      rintro e w4 ⟨rfl, V', l4, a4, t4⟩
      have t4 : Turns (g :: rowT V) W0 w4 := by rw [HW.out]; exact t4
      have g4 := G0.out.touch t4 (HL.out.notT G0.out (by decide) (by decide))
      have a4 : V'.ownBlock = V.ownBlock ∨ ∃ h, V'.ownBlock = some h ∧ w.heap.size ≤ h := a4.imp id fun ⟨h, h1, h2⟩ => ⟨h, h1, Nat.le_trans (by simp) h2⟩
      have PS := Lib.hid (post_store hgl l4 a4 ((Turns.of_new C0.out).trans t4) g4 cs)
      have H := Lib.hid (And.intro (row_of_blk g4) (blk_setRow g4 cs))
      clear l4 a4 t4 g4 F1 LH HW
      go_wp2_with (refine wpList_store_row rfl 32 (.tmp 4) (.tmp 12) rfl w.heap.size cs rfl rfl _ _ H.out.1 I32.out ZS.out ONE.out ?_)
      exact bodyPost_ret (results_cell_row rfl _ _ w.heap.size _ cs (0, 0) _ rfl H.out.2 digarr rfl I32.out) rfl ⟨rfl, PS.out⟩
    | [x], _, _, hlv, _, V0 =>
      have hx : DigN x := hlv.digs x (by simp)
      obtain ⟨ad, rfl, hcell⟩ := V0.at_ (i := 0) (by simp)
      have hcell := hcell W0 (Below.refl _ _)
      rw [Nat.zero_mul, add_zero'] at hcell
      obtain ⟨cs, hcs⟩ : ∃ cs, cs = (nums .u8 x).toArray := ⟨_, rfl⟩
      have hdv : dV x = .agg cs := by rw [hcs]; rfl
      have I32 := i32n hx.1
      have I32L : (Tryd.prog.info? 32).map (·.size) = some cs.toList.length := by rw [hcs]; simpa using i32n hx.1
      have ONE := one_n x
      have ZS : (ints .u8 zero32).toArray.size = cs.size := by rw [hcs]; simp [ints, nums, zero32, hx.1]
      have hcell : ∀ j v, cs.toList[j]? = some v → W0.cell? (ad.add j) = some v := by rw [hcs]; simpa using hcell
      rw [← hcs] at I32 ONE
      rw [rootD_one]
      show Calls _ _ _ _ (PostOf tR (dV x) base g V (F ++ []) w)
      rw [hdv, List.append_nil]
      have PS := Lib.hid (post_store hgl L0 (.inl rfl) (Turns.of_new c0) G0 cs)
      have H := Lib.hid (And.intro (row_of_blk G0) (blk_setRow G0 cs))
      rw [hW0] at hcell PS H
      have HC := Lib.hid hcell
      have I32 := Lib.hid I32
      have I32L := Lib.hid I32L
      have ONE := Lib.hid ONE
      have ZS := Lib.hid ZS
      clear hcs hdv L0 c0 G0 hlv hL ih hW0 V0 hcell
      show Calls _ _ #[_, .slice (some ad) 1 c] _ _
      go_enter Tryd.func20, Tryd.ntmps20
      go_wp2_with (first
        | (refine wpList_load_at rfl 32 (.tmp 17) rfl rfl HC.out digarr rfl I32L.out ?_)
        | (refine wpList_store_row rfl 32 (.tmp 4) (.tmp 18) rfl w.heap.size cs rfl rfl _ _ H.out.1 I32.out ZS.out ONE.out ?_))
      exact bodyPost_ret (results_cell_row rfl _ _ w.heap.size _ cs (0, 0) _ rfl H.out.2 digarr rfl I32.out) rfl ⟨rfl, PS.out⟩
    | x :: y :: r, hm, hn, hlv, hc, V0 =>
      have h2 : 2 ≤ (x :: y :: r).length := by simp
      obtain ⟨L, hLL⟩ : ∃ L, L = x :: y :: r := ⟨_, rfl⟩
      rw [← hLL] at h2 hm hn hlv hc V0 ⊢
      clear hLL
      obtain ⟨s1, s2, s3⟩ := splitN_lt h2
      have SP := rsplit_any (L.length : Int) W0 (by omega) (by omega)
      rw [Int.toNat_natCast] at SP
      rw [rootD_many h2]
      have dg := hlv.digs
      have d1 := rootD_dig _ (dg.take (splitN L.length))
      have d2 := rootD_dig _ (dg.drop (splitN L.length))
      have tk : (L.take (splitN L.length)).length = splitN L.length := by rw [List.length_take]; omega
      have dr : (L.drop (splitN L.length)).length = L.length - splitN L.length := by rw [List.length_drop]
      have f1 := (rootD_nodes _ (dg.take (splitN L.length)) (by omega)).1
      have f2 := (rootD_nodes _ (dg.drop (splitN L.length)) (by omega)).1
      have ih1 := ih (L := L.take (splitN L.length)) (c := c) (by omega) L0 (Nat.le_trans hbs c0.size) (by omega) (V0.take (by omega)) (by omega) hcm
      have ih2 := fun (w : World) (V : Value) (F : List (List Nat)) (A : Option Addr) (h1 : LogOf tR w base g V F) (h2 : base ≤ w.heap.size) (h3 : F.length + (L.length - splitN L.length) ≤ 900000) (h4 : LeafIn w A (L.drop (splitN L.length)) (g :: rowT V)) => ih (L := L.drop (splitN L.length)) (c := c - splitN L.length) (by omega) h1 h2 (by omega) h4 (by omega) (by omega)
      rw [tk] at ih1 f1
      rw [dr] at ih2 f2
      have DROP := fun (w : World) (A : Option Addr) (T : List Nat) (h : LeafIn w A L T) => h.drop (k := splitN L.length) (c := c) (by omega) hc
      have SLh := fun W => dslice_h A L.length c (splitN L.length) (by omega) W
      generalize rootD (L.take (splitN L.length)) = ra at *
      generalize rootD (L.drop (splitN L.length)) = rb at *
      generalize splitN L.length = k at *
      obtain ⟨a, fa⟩ := ra
      obtain ⟨b, fb⟩ := rb
      simp only at d1 d2 f1 f2 ih1 ih2 ⊢
      obtain ⟨ca, hca⟩ : ∃ cs, cs = (nums .u8 a).toArray := ⟨_, rfl⟩
      have hva : dV a = .agg ca := by rw [hca]; rfl
      obtain ⟨cb, hcb⟩ : ∃ cs, cs = (nums .u8 b).toArray := ⟨_, rfl⟩
      have hvb : dV b = .agg cb := by rw [hcb]; rfl
      obtain ⟨cs, hcs⟩ : ∃ cs, cs = (nums .u8 (hashN nodeTag [a, b])).toArray := ⟨_, rfl⟩
      have hdv : dV (hashN nodeTag [a, b]) = .agg cs := by rw [hcs]; rfl
      have I32a : (Tryd.prog.info? 32).map (·.size) = some ca.size := by rw [hca]; exact i32n d1.1
      have ZSa : (ints .u8 zero32).toArray.size = ca.size := by rw [hca]; simp [ints, nums, zero32, d1.1]
      have ONEa : ca.all (·.oneCell') = true := by rw [hca]; exact one_n _
      have I32b : (Tryd.prog.info? 32).map (·.size) = some cb.size := by rw [hcb]; exact i32n d2.1
      have ZSb : (ints .u8 zero32).toArray.size = cb.size := by rw [hcb]; simp [ints, nums, zero32, d2.1]
      have ONEb : cb.all (·.oneCell') = true := by rw [hcb]; exact one_n _
      have I32b := Lib.hid I32b
      have ZSb := Lib.hid ZSb
      have ONEb := Lib.hid ONEb
      have hdd := hashN_dig nodeTag [a, b]
      have I32 : (Tryd.prog.info? 32).map (·.size) = some cs.size := by rw [hcs]; exact i32n hdd.1
      have ZS : (ints .u8 zero32).toArray.size = cs.size := by rw [hcs]; simp [ints, nums, zero32, hdd.1]
      have ONE : cs.all (·.oneCell') = true := by rw [hcs]; exact one_n _
      have ND := fun (w : World) (V : Value) (F : List (List Nat)) (h1 : LogOf tR w base g V F) (h2 : base ≤ w.heap.size) (h3 : F.length ≤ 1000000) => rnode_any h1 h2 h3 d1 d2
      rw [hva] at ih1
      rw [hvb] at ih2
      rw [hva, hvb, hdv] at ND
      rw [hdv]
      have IH1 := Lib.hid ih1
      have IH2 := Lib.hid ih2
      have ND2 := Lib.hid ND
      have DROPH := Lib.hid DROP
      have SP := Lib.hid SP
      have HL0 := Lib.hid L0
      have HLV := Lib.hid hlv
      have G0 := Lib.hid G0
      have C0 := Lib.hid c0
      have HW := Lib.hid hW0
      have I32a := Lib.hid I32a
      have ZSa := Lib.hid ZSa
      have ONEa := Lib.hid ONEa
      have I32 := Lib.hid I32
      have ZS := Lib.hid ZS
      have ONE := Lib.hid ONE
      clear hca hcb hcs hva hvb hdv hdd ih ih1 ih2 ND L0 c0 hlv hL hW0 V0 DROP dg d1 d2 tk dr
      go_enter Tryd.func20, Tryd.ntmps20
      have q0 : ((L.length : Int) == 0) = false := by rw [beq_eq_false_iff_ne]; omega
      have q1 : ((L.length : Int) == 1) = false := by rw [beq_eq_false_iff_ne]; omega
      go_wp2_with fail
      have F1 := SP.out
      rw [HW.out] at F1
      refine F1.mono ?_
      rintro e w' ⟨rfl, rfl⟩
      clear F1 SP q0 q1
      go_wp2_with fail
      have F2 := IH1.out
      rw [HW.out] at F2
      refine F2.mono ?_
      rintro e w5 ⟨rfl, V1, l5, a5, t5⟩
      have t5 : Turns (g :: rowT V) W0 w5 := by rw [HW.out]; exact t5
      have a5 : V1.ownBlock = V.ownBlock ∨ ∃ h, V1.ownBlock = some h ∧ w.heap.size ≤ h := a5.imp id fun ⟨h, h1, h2⟩ => ⟨h, h1, Nat.le_trans (by simp) h2⟩
      have g5 := G0.out.touch t5 (HL0.out.notT G0.out (by decide) (by decide))
      have L5 := Lib.hid l5
      have A5 := Lib.hid a5
      have T5 := Lib.hid ((Turns.of_new (T := g :: rowT V) C0.out).trans t5)
      have G5 := Lib.hid g5
      clear F2 IH1 l5 a5 t5 g5 G0 HL0 SLh HW C0
      go_wp2_with (refine wpList_store_row rfl 32 (.tmp 6) (.tmp 26) rfl w5.heap.size ca rfl rfl _ _ (heap_alloc_new _ _) I32a.out ZSa.out ONEa.out ?_; rw [alloc_setRow])
      obtain ⟨w7, hw7⟩ : ∃ W, W = w5.alloc (.cells ca 32) := ⟨_, rfl⟩
      have n57 : New w5 w7 := by rw [hw7]; exact new_alloc2 _ _
      have g6 : Blk w7 w5.heap.size 32 ca := by rw [hw7]; exact Blk.new _ _ _
      rw [← hw7]
      have B6N := Lib.hid (show w5.heap.size ≠ w.heap.size by have := G5.out.lt; omega)
      generalize w5.heap.size = b6 at *
      clear hw7
      have t7 := T5.out.trans (Turns.of_new n57)
      have l7 := L5.out.new n57
      have nr : w.heap.size ∉ g :: rowT V1 := L5.out.notT G5.out (by decide) (by decide)
      have g7 := G5.out.below n57 G5.out.lt
      have lv0 := HLV.out.turn t7 (fun x hx hT => row_out hT hx A5.out)
      have R2 := IH2.out w7 V1 (F ++ fa) _ l7 (Nat.le_trans hbs t7.size) (by rw [List.length_append, f1]; omega) (DROPH.out w7 A _ lv0)
      have n6 : b6 ∉ g :: rowT V1 := l7.notT g6 (by decide) (by decide)
      rw [if_neg (show ¬ c = k by omega)] at R2
      have R2 := Lib.hid R2
      have G7 := Lib.hid g7
      have G6 := Lib.hid g6
      have L7 := Lib.hid l7
      have T7 := Lib.hid t7
      have NR := Lib.hid nr
      have N6 := Lib.hid n6
      clear t7 l7 nr g7 lv0 n57 g6 n6 T5 L5 G5 HLV IH2 DROPH
      go_wp2_with fail
      (with_reducible refine R2.out.mono ?_)
      rintro e w8 ⟨rfl, V2, l8, a8, t8⟩
      have t08 := turns_seq T7.out A5.out t8
      have a08 := alt_seq T7.out.size A5.out a8
      have g8 := G7.out.touch t8 NR.out
      have g68 := G6.out.touch t8 N6.out
      have L8 := Lib.hid l8
      have A8 := Lib.hid a08
      have T8 := Lib.hid t08
      have G8 := Lib.hid g8
      have G68 := Lib.hid g68
      clear t08 a08 g8 g68 l8 a8 t8 R2 L7 T7 NR N6 G7 G6
      have n89 := new_alloc2 w8 (.cells cb 32)
      have gb9 := Blk.new w8 32 cb
      have t09 := T8.out.trans (Turns.of_new n89)
      have l9 := L8.out.new n89
      have g9 := G8.out.below n89 G8.out.lt
      have nr9 : w.heap.size ∉ g :: rowT V2 := l9.notT g9 (by decide) (by decide)
      have nd := ND2.out _ V2 (F ++ fa ++ fb) l9 (Nat.le_trans hbs t09.size) (by rw [List.length_append, List.length_append, f1, f2]; omega)
      have X6 := Lib.hid (row_of_blk (G68.out.below n89 G68.out.lt))
      have X7 := Lib.hid (row_of_blk gb9)
      have ND3 := Lib.hid nd
      have G9 := Lib.hid g9
      have T9 := Lib.hid t09
      have NR9 := Lib.hid nr9
      clear t09 l9 g9 nr9 nd gb9 n89 L8 T8 G8 G68
      go_wp2_with (first
        | (refine wpList_store_row rfl 32 (.tmp 7) (.tmp 31) rfl w8.heap.size cb rfl rfl _ _ (heap_alloc_new _ _) I32b.out ZSb.out ONEb.out ?_; rw [alloc_setRow])
        | (refine wpList_load_row rfl 32 (.tmp 6) rfl b6 rfl _ ca _ _ X6.out digarr rfl I32a.out ?_)
        | (refine wpList_load_row rfl 32 (.tmp 7) rfl w8.heap.size rfl _ cb _ _ X7.out digarr rfl I32b.out ?_)
        | fail)
      (with_reducible refine ND3.out.mono ?_)
      rintro e w10 ⟨rfl, V3, l10, a10, t10⟩
      have t0x := turns_seq T9.out A8.out t10
      have a0x := alt_seq T9.out.size A8.out a10
      have gx := G9.out.touch t10 NR9.out
      have PS := Lib.hid (post_store hgl l10 a0x t0x gx cs)
      have H := Lib.hid (And.intro (row_of_blk gx) (blk_setRow gx cs))
      clear l10 a10 t10 t0x a0x gx
      go_wp2_with (refine wpList_store_row rfl 32 (.tmp 4) (.tmp 35) rfl w.heap.size cs rfl rfl _ _ H.out.1 I32.out ZS.out ONE.out ?_)
      exact bodyPost_ret (results_cell_row rfl _ _ w.heap.size _ cs (0, 0) _ rfl H.out.2 digarr rfl I32.out) rfl ⟨rfl, by have := PS.out; simpa only [List.append_assoc] using this⟩

end Go.Proofs.YtgfemjpeegbhhaaDoor
/- A slice of digests that is written out: laws for the walk. -/

namespace Go.Hm
open Go Go.RowKit
theorem digs_cells {ds : List (List Nat)} (h : Digs ds) : ((ds.map dV).flatMap fun v => v.cells.toList) = recs digC ds := by
  induction ds with
  | nil => rfl
  | cons d ds ih =>
    rw [List.map_cons, List.flatMap_cons, recs_cons, ih (fun x hx => h x (by simp [hx])), digC_eq (h d (by simp)).1]
    rfl

end Go.Hm

namespace Go.Proofs.YtgfemjpeegbhhaaDoor
open Go.RowKit Go.Hm
theorem dslT : Tryd.prog.underlying 23 = some (.slice 32) := by kernel_rfl
theorem dInfo : ∃ ie z, Tryd.prog.info? 32 = some ie ∧ ie.zero = some z ∧ ie.size = 32 := by
  have h : (Tryd.prog.info? 32).map (fun i => (i.zero.isSome, i.size)) = some (true, 32) := by kernel_rfl
  cases hq : Tryd.prog.info? 32 with
  | none => rw [hq] at h; cases h
  | some ie =>
    rw [hq] at h
    simp only [Option.map_some, Option.some.injEq, Prod.mk.injEq] at h
    obtain ⟨z, hz⟩ := Option.isSome_iff_exists.1 h.1
    exact ⟨ie, z, rfl, hz, h.2⟩
theorem digs_fill {ds : List (List Nat)} (hd : Digs ds) (z : Value) : Instr.fill (fun i => some (i * 32, 32)) ((Array.range (ds.length * 32)).map (z.cells[· % z.cells.size]!)) (((ds.map dV).zipIdx 0).map fun x => (x.2, x.1)) = some (recs digC ds).toArray := by
  rw [Great.fill_whole (s := 32) (by omega) (ds.map dV) _ (fun v hv => by
    obtain ⟨d, hm, rfl⟩ := List.mem_map.1 hv
    have := (hd d hm).1
    simp [dV, Value.cells, nums, this]) (by simp), digs_cells hd]

section
variable {ops : Array Oper} {rest : List Oper} {o : Oper} {a : Act} {w : World} {Q : Exit → Act → World → Prop}
theorem wpList_digs (hg : o.guard = none) (n : Nat) (parts : Array (Nat × Operand)) (ho : o.op = .buildSlice 23 n parts) (ds : List (List Nat)) (hd : Digs ds) (hn : ds.length = n) (h0 : 0 < n) (hs : n ≤ 1000)
    (hp : (parts.map fun (i, x) => (i, a.eval x)).toList = ((ds.map dV).zipIdx 0).map fun x => (x.2, x.1))
    (h : wpList Tryd.prog ops Q rest (a.put o.dst (.slice (some ⟨w.heap.size, 0, none⟩) n n)) (w.alloc (.cells (recs digC ds).toArray 32))) : wpList Tryd.prog ops Q (o :: rest) a w := by
  obtain ⟨ie, z, h1, h2, h3⟩ := dInfo
  subst hn
  refine wpList_buildSlice hg _ _ _ parts ho _ ie z dslT h1 h2 (by rw [h3]; omega) (by rw [h3]; omega) ?_ h
  rw [hp, h3]
  exact digs_fill hd z
theorem wp_digs {K : Act → World → Prop} {Q : Exit → Act → World → Prop} (n : Nat) (parts : Array (Nat × Operand)) (ho : o.op = .buildSlice 23 n parts) (ds : List (List Nat)) (hd : Digs ds) (hn : ds.length = n) (h0 : 0 < n) (hs : n ≤ 1000)
    (hp : (parts.map fun (i, x) => (i, a.eval x)).toList = ((ds.map dV).zipIdx 0).map fun x => (x.2, x.1))
    (h : K (a.put o.dst (.slice (some ⟨w.heap.size, 0, none⟩) n n)) (w.alloc (.cells (recs digC ds).toArray 32))) : o.wp Tryd.prog a w K Q := by
  obtain ⟨ie, z, h1, h2, h3⟩ := dInfo
  subst hn
  refine wp_buildSlice _ _ _ parts ho _ ie z dslT h1 h2 (by rw [h3]; omega) (by rw [h3]; omega) ?_ h
  rw [hp, h3]
  exact digs_fill hd z
end
/-- Digests that were written out, apart from a log's blocks. -/
theorem leafIn_new {w : World} {ds : List (List Nat)} (hd : Digs ds) {T : List Nat} (hT : w.heap.size ∉ T) : LeafIn (w.alloc (.cells (recs digC ds).toArray 32)) (some ⟨w.heap.size, 0, none⟩) ds T := by
  refine ⟨⟨recs_length (sz := 32) digC_len ds, fun _ => ⟨_, rfl, by simp, ?_⟩⟩, hd, fun _ ad ha => by injection ha with ha; subst ha; exact hT⟩
  have := World.news_of_block (heap_alloc_new w (.cells (recs digC ds).toArray 32))
  simpa using this

end Go.Proofs.YtgfemjpeegbhhaaDoor
/- A region that draws its order, walked in the order in which it is written: whether that may be is reckoned quickly. No program is named here. -/

namespace Go.Hm
open Go Go.RowKit
/-- The operations of a region, by its number. -/
def regOps (id : Nat) : Code → Option (Array Oper)
  | .region i ops _ => if i = id then some ops else none
  | .seq a b => match regOps id a with | some x => some x | none => regOps id b
  | .cond _ a b => match regOps id a with | some x => some x | none => regOps id b
  | .block _ a => regOps id a
  | .loop a => regOps id a
  | _ => none
def regOf (f : Func) (id : Nat) : Array Oper := match f.body with | some c => (regOps id c).getD #[] | none => #[]
def natOrd : Nat → List Bool → List (Bool × Nat)
  | _, [] => []
  | i, b :: bs => (b, i) :: natOrd (i + 1) bs
def chkE (o : Oper) (i : Nat) : Bool := o.after.toList.all fun e => !Region.binds .any e || Nat.blt e.on i
def chkQ (ops : Array Oper) (o : Oper) (i : Nat) (rest : List Oper) : Bool := rest.all fun oj => oj.after.toList.any (fun e => Region.binds .any e && Nat.beq e.on i) || o.apart ops oj
def chkA (i : Nat) (rest : List Oper) : Bool := rest.all fun oj => oj.after.toList.any fun e => Region.binds .any e && Nat.ble i e.on
def natOk (ops : Array Oper) : Nat → List Oper → List Bool → Bool
  | _, [], [] => true
  | i, o :: rest, b :: bs => chkE o i && ((match b with | true => chkQ ops o i rest | false => chkA i rest) && natOk ops (i + 1) rest bs)
  | _, _, _ => false
theorem filter_one (p : Nat → Bool) (i : Nat) : ∀ n, i < n → p i = true → (∀ j, j < n → j ≠ i → p j = false) → (List.range n).filter p = [i] := by
  intro n
  induction n with
  | zero => intro h; omega
  | succ n ih =>
    intro h hp hn
    rw [List.range_succ, List.filter_append]
    by_cases e : i = n
    · subst e
      have : (List.range i).filter p = [] := by
        rw [List.filter_eq_nil_iff]
        intro j hj
        have hj := List.mem_range.1 hj
        simp [hn j (by omega) (by omega)]
      simp [this, hp]
    · rw [ih (by omega) hp (fun j hj hne => hn j (by omega) hne)]
      simp [hn n (by omega) (fun e' => e e'.symm)]
theorem natOk_up (ops : Array Oper) : ∀ (bs : List Bool) (i : Nat) (rest : List Oper) (listed : Array Bool), rest = ops.toList.drop i → i ≤ ops.size → listed.size = ops.size → (∀ j, listed.getD j false = decide (j < i)) → (∀ j, j < ops.size → listed.getD j true = decide (j < i)) →
    natOk ops i rest bs = true → upOk ops listed (natOrd i bs) = true := by
  intro bs
  induction bs with
  | nil =>
    intro i rest listed hr hi hs h1 h2 h
    cases rest with
    | cons => simp [natOk] at h
    | nil =>
      have hil : ops.size ≤ i := by
        have := congrArg List.length hr
        simp at this
        omega
      simp only [natOrd, upOk, List.isEmpty_iff]
      refine List.eq_nil_iff_forall_not_mem.2 fun j hj => ?_
      obtain ⟨h3, o, ho, _⟩ := mem_ready.1 hj
      have hjl := (Array.getElem?_eq_some_iff.1 ho).1
      rw [h2 j hjl] at h3
      simp at h3
      omega
  | cons b bs ih =>
    intro i rest listed hr hi hs h1 h2 h
    cases rest with
    | nil => simp [natOk] at h
    | cons o rest =>
      have hil : i < ops.size := by
        have := congrArg List.length hr
        simp at this
        omega
      have hio : ops[i]? = some o ∧ rest = ops.toList.drop (i + 1) := by
        rw [List.drop_eq_getElem_cons (by simpa using hil)] at hr
        injection hr with e1 e2
        exact ⟨by rw [Array.getElem?_eq_getElem hil, e1]; simp, e2⟩
      obtain ⟨ho, hrest⟩ := hio
      simp only [natOk, Bool.and_eq_true] at h
      obtain ⟨hE, hB, hN⟩ := h
      have hrd : i ∈ Region.ready .any ops listed := by
        refine mem_ready.2 ⟨by rw [h2 i hil]; simp, o, ho, fun e he hb => ?_⟩
        have := (List.all_eq_true.1 hE) e (by simpa using he)
        rw [hb] at this
        simp only [Bool.not_true, Bool.false_or] at this
        rw [h1]
        exact decide_eq_true (by simpa using this)
      have hmem : ∀ j oj, ops[j]? = some oj → i < j → oj ∈ rest := by
        intro j oj hj hlt
        rw [hrest]
        have hx : (ops.toList.drop (i + 1))[j - (i + 1)]? = some oj := by
          rw [List.getElem?_drop, show i + 1 + (j - (i + 1)) = j by omega, Array.getElem?_toList]
          exact hj
        exact List.mem_of_getElem? hx
      have hnext : upOk ops (listed.setIfInBounds i true) (natOrd (i + 1) bs) = true := by
        refine ih (i + 1) rest _ hrest hil (by simpa using hs) (fun j => ?_) (fun j hj => ?_) hN
        · by_cases e : i = j
          · subst e
            simp [hs, hil]
          · rw [getD_set_ne false e, h1]
            exact decide_eq_decide.2 (by omega)
        · by_cases e : i = j
          · subst e
            simp [hs, hil]
          · rw [getD_set_ne true e, h2 j hj]
            exact decide_eq_decide.2 (by omega)
      cases b with
      | true =>
        simp only [natOrd, upOk, Bool.and_eq_true]
        refine ⟨by simpa using hrd, ?_, hnext⟩
        simp only [Region.free, ho, List.all_eq_true, List.mem_range]
        intro j hj
        by_cases e : j = i
        · simp [e]
        · rw [h2 j hj]
          by_cases hlt : j < i
          · simp [hlt]
          · have hjj := Array.getElem?_eq_getElem hj
            have := (List.all_eq_true.1 hB) _ (hmem j _ hjj (by omega))
            simp only [hjj]
            rw [Bool.or_eq_true] at this ⊢
            right
            rw [Bool.or_eq_true]
            rcases this with this | this
            · left
              obtain ⟨e', he', hb'⟩ := List.any_eq_true.1 this
              refine Array.any_eq_true'.2 ⟨e', by simpa using he', ?_⟩
              rw [Bool.and_eq_true] at hb' ⊢
              exact ⟨hb'.1, by simpa using Nat.eq_of_beq_eq_true hb'.2⟩
            · exact .inr this
      | false =>
        simp only [natOrd, upOk, Bool.and_eq_true, decide_eq_true_eq]
        refine ⟨?_, hnext⟩
        unfold Region.ready
        have hr' : ∀ j, j ∈ Region.ready .any ops listed → j = i := by
          intro j hj
          obtain ⟨h3, oj, hoj, h4⟩ := mem_ready.1 hj
          have hjl := (Array.getElem?_eq_some_iff.1 hoj).1
          rw [h2 j hjl] at h3
          by_cases e : j = i
          · exact e
          · have hlt : i < j := by simp at h3; omega
            obtain ⟨e', he', hb'⟩ := List.any_eq_true.1 ((List.all_eq_true.1 hB) _ (hmem j _ hoj hlt))
            rw [Bool.and_eq_true] at hb'
            have := h4 e' (by simpa using he') hb'.1
            rw [h1] at this
            have h5 := of_decide_eq_true this
            have h6 : i ≤ e'.on := by simpa using hb'.2
            omega
        refine filter_one _ i _ hil ?_ (fun j hj hne => ?_)
        · unfold Region.ready at hrd
          exact (List.mem_filter.1 hrd).2
        · cases hp : (!listed.getD j true && ((ops[j]?).map (·.after.all fun e => !Region.binds .any e || listed.getD e.on false)).getD false) with
          | false => rfl
          | true => exact absurd (hr' j (by unfold Region.ready; exact List.mem_filter.2 ⟨List.mem_range.2 hj, hp⟩)) hne
/-- The order as it is written may be gone through. -/
theorem nat_up {ops : Array Oper} {bs : List Bool} (h : natOk ops 0 ops.toList bs = true) : upOk ops (Array.replicate ops.size false) (natOrd 0 bs) = true :=
  natOk_up ops bs 0 ops.toList _ (by simp) (Nat.zero_le _) (by simp) (fun j => by
    rw [Array.getD_eq_getD_getElem?, Array.getElem?_replicate]; split <;> simp) (fun j hj => by
    rw [Array.getD_eq_getD_getElem?, Array.getElem?_replicate]; simp [hj]) h

end Go.Hm
/- The order of the last region of layer 2's small case. -/

namespace Go.Proofs.YtgfemjpeegbhhaaDoor
open Go.RowKit Go.Hm

end Go.Proofs.YtgfemjpeegbhhaaDoor
/- Arguments opened, by the types of this program. -/
set_option maxRecDepth 100000

namespace Go.Proofs.YtgfemjpeegbhhaaDoor
open Go.RowKit Go.Hm Go.WideShapes Go.ChangeShapes
def SmallPost (w : World) (e : Ending) (w' : World) : Prop := e = .returned (.bool true) ∧ Below w.heap.size w w'

section
variable {H : Type} {enc : TypeId × Value → H} {W : World} {base : Nat} {v : Value} {d : DataW H} {ps : List MemPlace}
theorem open_B (hval : Value.okWide Tryd.prog W .any base 22 v) (h : DataW.Trod enc Tryd.prog W 0 (fun _ => true) true 22 v d ps) (hlt : ∀ p ∈ ps, p.block < W.heap.size) (hw : ∀ n ∈ d.weights Tryd.prog 22, n ≤ reachBytes) :
    ∃ A c, ∃ l : List Nat, v = .slice A l.length c ∧ l.length ≤ c ∧ c ≤ 140737488351232 ∧ Reads W W.heap.size 1 A l.length (nums .u8 l) ∧ ∀ x ∈ l, x < 256 := by
  obtain ⟨A, c, l, h1, h2, _, h4, h5, h6⟩ := open_nums (k := .u8) (sz := 1) elB.ht (by kernel_rfl) (by kernel_rfl) rfl (by kernel_rfl) hval h hlt hw
  exact ⟨A, c, l, h1, h2, by unfold reachBytes at h4; omega, h5, fun x hx => by have := h6 x hx; simp [IntKind.max, IntKind.signed, IntKind.bits] at this; omega⟩
theorem open_u64 (hval : Value.okWide Tryd.prog W .any base 64 v) (h : DataW.Trod enc Tryd.prog W 0 (fun _ => true) true 64 v d ps) : ∃ x : Nat, v = .int .u64 (x : Int) ∧ x ≤ 18446744073709551615 := by
  obtain ⟨y, rfl, _, _, wy⟩ := open_int (k := .u64) (by kernel_rfl) hval h
  simp [Lit.wf, IntKind.min, IntKind.max, IntKind.signed, IntKind.bits] at wy
  obtain ⟨y, rfl⟩ := Int.eq_ofNat_of_zero_le wy.1
  exact ⟨y, rfl, by omega⟩
theorem open_u32 (hval : Value.okWide Tryd.prog W .any base 70 v) (h : DataW.Trod enc Tryd.prog W 0 (fun _ => true) true 70 v d ps) : ∃ x : Nat, v = .int .u32 (x : Int) ∧ x ≤ 4294967295 := by
  obtain ⟨y, rfl, _, _, wy⟩ := open_int (k := .u32) (by kernel_rfl) hval h
  simp [Lit.wf, IntKind.min, IntKind.max, IntKind.signed, IntKind.bits] at wy
  obtain ⟨y, rfl⟩ := Int.eq_ofNat_of_zero_le wy.1
  exact ⟨y, rfl, by omega⟩
theorem open_u8 (hval : Value.okWide Tryd.prog W .any base 5 v) (h : DataW.Trod enc Tryd.prog W 0 (fun _ => true) true 5 v d ps) : ∃ x : Nat, v = .int .u8 (x : Int) ∧ x ≤ 255 := by
  obtain ⟨y, rfl, _, _, wy⟩ := open_int (k := .u8) (by kernel_rfl) hval h
  simp [Lit.wf, IntKind.min, IntKind.max, IntKind.signed, IntKind.bits] at wy
  obtain ⟨y, rfl⟩ := Int.eq_ofNat_of_zero_le wy.1
  exact ⟨y, rfl, by omega⟩
theorem open_i64 (hval : Value.okWide Tryd.prog W .any base 3 v) (h : DataW.Trod enc Tryd.prog W 0 (fun _ => true) true 3 v d ps) : ∃ x : Int, v = .int .i64 x ∧ -9223372036854775808 ≤ x ∧ x ≤ 9223372036854775807 := by
  obtain ⟨y, rfl, _, _, wy⟩ := open_int (k := .i64) (by kernel_rfl) hval h
  simp [Lit.wf, IntKind.min, IntKind.max, IntKind.signed, IntKind.bits] at wy
  exact ⟨y, rfl, wy.1, by omega⟩
end

end Go.Proofs.YtgfemjpeegbhhaaDoor
/- The small case of layer 2's statements. -/

namespace Go.Hm
open Go Go.RowKit
theorem Reads.litM2 (w : World) (e : TypeId) (fr : Nat × Nat) (cs : Array Value) (n : Nat) (xs : List Value) (h : cs.toList = xs) (hn : n = xs.length) : Reads (w.alloc (.cells cs e fr)) (w.alloc (.cells cs e fr)).heap.size 1 (some ⟨w.heap.size, 0, none⟩) n xs := by
  subst hn
  refine ⟨by simp, fun _ => ⟨_, rfl, by simp, ?_⟩⟩
  have := World.news_of_block (heap_alloc_new w (.cells cs e fr))
  rwa [h] at this
theorem new_alloc (w : World) (o : Obj) : New w (w.alloc o) := (Below.refl _ _).alloc (Nat.le_refl _) _
theorem rows_lit (w : World) (x : Nat) (e1 e2 : TypeId) : RowsAt ((w.alloc (.cells #[.int .u8 (x : Int)] e1 (1, 2))).alloc (.cells #[.slice (some ⟨w.heap.size, 0, none⟩) 1 1] e2)) (some ⟨w.heap.size + 1, 0, none⟩) 1 1 [(some ⟨w.heap.size, 0, none⟩, 1, [x])] := by
  have h1 := Reads.litM2 w e1 (1, 2) #[.int .u8 (x : Int)] 1 (nums .u8 [x]) rfl rfl
  have h2 := Reads.litM2 (w.alloc (.cells #[.int .u8 (x : Int)] e1 (1, 2))) e2 (0, 0) #[.slice (some ⟨w.heap.size, 0, none⟩) 1 1] 1 (recs partV [(some ⟨w.heap.size, 0, none⟩, 1, [x])]) rfl rfl
  rw [show (w.alloc (.cells #[.int .u8 (x : Int)] e1 (1, 2))).heap.size = w.heap.size + 1 by simp] at h2
  refine ⟨h2, fun d hd => ?_, Nat.le_refl _⟩
  obtain rfl := List.mem_singleton.1 hd
  exact ⟨Reads.later h1 (new_alloc _ _), Nat.le_refl _, by show (1 : Nat) ≤ _; omega⟩
theorem rows_none (w : World) : RowsAt w none 0 0 [] := ⟨Reads.none_, (fun _ hd => nomatch hd), Nat.le_refl _⟩
theorem run_idB {P : Program} (w : World) (t e : TypeId) (x : Int) (g : Nat) (hg : g = w.heap.size) (ht : P.underlying t = some (.slice e)) (he : P.underlying e = some (.int .u8)) :
    (convert t t (.slice (some ⟨g, 0, none⟩) 1 1)).run P (w.alloc (.cells #[.int .u8 x] e)) = .ok (.slice (some ⟨g, 0, none⟩) 1 1) (w.alloc (.cells #[.int .u8 x] e (1, 2))) := Joins.run_convert_bytes_const_at w t e _ 1 1 g hg ht he
theorem ConstIn.turn {W w w' : World} {T : List Nat} (hC : ConstIn W) (b : New W w) (k : Turns T w w') (hT : ∀ x ∈ T, W.heap.size ≤ x) : ConstIn w' := hC.new (Turns.below b k hT (Nat.le_refl _))
theorem below_mark {B : Nat} (w : World) (cs : Array Value) (e : TypeId) (fr : Nat × Nat) (hB : B ≤ w.heap.size) : Below B (w.alloc (.cells cs e)) (w.alloc (.cells cs e fr)) :=
  ⟨rfl, rfl, rfl, by simp, fun k hk => (Below.heap_alloc w _ k (Nat.lt_of_lt_of_le hk hB)).trans (Below.heap_alloc w _ k (Nat.lt_of_lt_of_le hk hB)).symm⟩

section
variable {P : Program} {w : World} {a : Act} {dst : Option Tmp} {tt : TypeId} {pos : String} {af : Array Edge} {gd : Option (Nat × Bool)}
theorem exec_agg {t t2 : TypeId} {x y : Operand} {v : Value} {xs ys : Array Value} (hx : a.eval x = .agg xs) (hy : a.eval y = .agg ys) (hm : P.eqGuardType P.depth t = false) (hv : (binOp .eql t (.agg xs) (.agg ys)).run P w = .ok v w) : (execOp a.eval ⟨dst, .binOp .eql t x y t2, tt, pos, af, gd⟩).run P w = .ok (.value v) w := by
  unfold execOp
  simp only [hx, hy, Sem.run_bind, run_eqGuard_agg (hm := hm), hv, Result.andThen_ok, Sem.run_pure]
end
def f97 : List Nat := [1, 116, 1, 1, 0, 0, 0, 0, 0, 0, 0, 97]
def f98 : List Nat := [1, 116, 1, 1, 0, 0, 0, 0, 0, 0, 0, 98]
theorem frame97 : frameO [116] [[97]] = some f97 := by decide
theorem frame98 : frameO [116] [[98]] = some f98 := by decide
theorem frame00 : frameO [] [] = none := by decide
theorem parse97 : parseO f97 = some ([116], [[97]]) := parse_frame (by simp) frame97
set_option maxRecDepth 100000 in
theorem sum_97 : (sumI f97).getD 0 0 ≠ (sumI f98).getD 0 0 := by decide +kernel
theorem extract97 : extractO [f97] [f98] = none := by
  have h : ¬ (f97 ≠ f98 ∧ sumI f97 = sumI f98) := fun h => sum_97 (by rw [h.2])
  simp [extractO, h]
theorem hash97 : hashO [116] [[97]] = sumI f97 := by unfold hashO; rw [frame97]; rfl
theorem hash98 : hashO [116] [[98]] = sumI f98 := by unfold hashO; rw [frame98]; rfl
theorem hash00 : hashO [] [] = zero32 := by unfold hashO; rw [frame00]; rfl

end Go.Hm

namespace Go.Proofs.YtgfemjpeegbhhaaDoor
open Go.RowKit Go.Hm
theorem LogAt.made (w : World) (base : Nat) : LogAt (w.alloc (.cells #[.slice none 0 0] 62)) base w.heap.size (.slice none 0 0) [] := ⟨none, 0, 0, [], rfl, Blk.new _ _ _, Own.nil_, (fun _ hd => nomatch hd), rfl⟩
set_option maxHeartbeats 4000000 in
set_option maxRecDepth 100000 in
theorem lit97 {w : World} {Q : List PartS → Prop} (h : Q [((some ⟨w.heap.size, 0, none⟩ : Option Addr), 1, [97])]) : ∃ D : List PartS, bytesOf D = [[97]] ∧ Q D := ⟨_, rfl, h⟩
theorem frame97_any (w : World) : Calls Tryd.prog 57 #[.string ⟨#[116]⟩, .slice (some ⟨w.heap.size + 1, 0, none⟩) 1 1] ((w.alloc (.cells #[.int .u8 97] 5 (1, 2))).alloc (.cells #[.slice (some ⟨w.heap.size, 0, none⟩) 1 1] 22)) (OptB (some f97) ((w.alloc (.cells #[.int .u8 97] 5 (1, 2))).alloc (.cells #[.slice (some ⟨w.heap.size, 0, none⟩) 1 1] 22))) := by
  have F1 := frame_any (s := [116]) (rows_lit w 97 5 22) (by omega) (by simp) (by simp) (by simp [bytesOf, tsum])
  rw [show bytesOf [((some ⟨w.heap.size, 0, none⟩ : Option Addr), 1, [97])] = [[97]] from rfl, frame97] at F1
  exact F1
theorem frame00_any (w : World) : Calls Tryd.prog 57 #[.string ⟨#[]⟩, .slice none 0 0] w (OptB none w) := by
  have F1 := frame_any (s := []) (rows_none w) (by omega) (by simp) (by simp) (by simp [bytesOf, tsum])
  rw [show bytesOf [] = [] from rfl, frame00] at F1
  exact F1
theorem hash97_any (w : World) (hC : ConstIn w) : Calls Tryd.prog 35 #[.string ⟨#[116]⟩, .slice (some ⟨w.heap.size + 1, 0, none⟩) 1 1] ((w.alloc (.cells #[.int .u8 97] 5 (1, 2))).alloc (.cells #[.slice (some ⟨w.heap.size, 0, none⟩) 1 1] 22)) (NewPost (digV (sumI f97)) ((w.alloc (.cells #[.int .u8 97] 5 (1, 2))).alloc (.cells #[.slice (some ⟨w.heap.size, 0, none⟩) 1 1] 22))) := by
  have F1 := hash_any (s := [116]) (rows_lit w 97 5 22) (by omega) (by simp) (by simp) (by simp [bytesOf, tsum]) (by simp [bytesOf]) (hC.new (New.trans (new_alloc _ _) (new_alloc _ _)))
  rw [show bytesOf [((some ⟨w.heap.size, 0, none⟩ : Option Addr), 1, [97])] = [[97]] from rfl, hash97] at F1
  exact F1
theorem hash00_any (w : World) (hC : ConstIn w) : Calls Tryd.prog 35 #[.string ⟨#[]⟩, .slice none 0 0] w (NewPost (digV zero32) w) := by
  have F1 := hash_any (s := []) (rows_none w) (by omega) (by simp) (by simp) (by simp [bytesOf, tsum]) (by simp [bytesOf]) hC
  rw [show bytesOf [] = [] from rfl, hash00] at F1
  exact F1
theorem lhash97_any (w : World) (g : Nat) (hL : LogAt w 0 g (.slice none 0 0) []) (hC2 : ∀ w' w'', New w w' → Turns [g] w' w'' → ConstIn w'') : Calls Tryd.prog 36 #[.pointer (some ⟨g, 0, none⟩), .string ⟨#[116]⟩, .slice (some ⟨w.heap.size + 1, 0, none⟩) 1 1] ((w.alloc (.cells #[.int .u8 97] 5 (1, 2))).alloc (.cells #[.slice (some ⟨w.heap.size, 0, none⟩) 1 1] 22)) (LogPost (digV (sumI f97)) 0 g (.slice none 0 0) [f97] ((w.alloc (.cells #[.int .u8 97] 5 (1, 2))).alloc (.cells #[.slice (some ⟨w.heap.size, 0, none⟩) 1 1] 22))) := by
  have F1 := lhash_any (s := [116]) (hL.new (New.trans (new_alloc _ (.cells #[.int .u8 ((97 : Nat) : Int)] 5 (1, 2))) (new_alloc _ (.cells #[.slice (some ⟨w.heap.size, 0, none⟩) 1 1] 22)))) (Nat.zero_le _) (by simp) (rows_lit w 97 5 22) (by omega) (by simp) (by simp) (by simp [bytesOf, tsum]) (by simp [bytesOf]) (fun w' h => hC2 _ w' (New.trans (new_alloc _ _) (new_alloc _ _)) h)
  rw [show bytesOf [((some ⟨w.heap.size, 0, none⟩ : Option Addr), 1, [97])] = [[97]] from rfl, hash97, frame97] at F1
  exact F1
theorem lhash98_any (w : World) (g : Nat) (hL : LogAt w 0 g (.slice none 0 0) []) (hC2 : ∀ w' w'', New w w' → Turns [g] w' w'' → ConstIn w'') : Calls Tryd.prog 36 #[.pointer (some ⟨g, 0, none⟩), .string ⟨#[116]⟩, .slice (some ⟨w.heap.size + 1, 0, none⟩) 1 1] ((w.alloc (.cells #[.int .u8 98] 5 (1, 2))).alloc (.cells #[.slice (some ⟨w.heap.size, 0, none⟩) 1 1] 22)) (LogPost (digV (sumI f98)) 0 g (.slice none 0 0) [f98] ((w.alloc (.cells #[.int .u8 98] 5 (1, 2))).alloc (.cells #[.slice (some ⟨w.heap.size, 0, none⟩) 1 1] 22))) := by
  have F1 := lhash_any (s := [116]) (hL.new (New.trans (new_alloc _ (.cells #[.int .u8 ((98 : Nat) : Int)] 5 (1, 2))) (new_alloc _ (.cells #[.slice (some ⟨w.heap.size, 0, none⟩) 1 1] 22)))) (Nat.zero_le _) (by simp) (rows_lit w 98 5 22) (by omega) (by simp) (by simp) (by simp [bytesOf, tsum]) (by simp [bytesOf]) (fun w' h => hC2 _ w' (New.trans (new_alloc _ _) (new_alloc _ _)) h)
  rw [show bytesOf [((some ⟨w.heap.size, 0, none⟩ : Option Addr), 1, [98])] = [[98]] from rfl, hash98, frame98] at F1
  exact F1

end Go.Proofs.YtgfemjpeegbhhaaDoor
/- From a walk of a law over a listed variable to the given statement's form. No program is named here. -/

namespace Go.Hm
open Go.RowKit Go.WideShapes Go.ChangeShapes
theorem law_lifted_laid {C : Checked} {os : Os} {f : FuncId} {fn : Func} {s : ChangeSpec} {tb : TypeId} {H : Type} {enc : TypeId × Value → H} {laid : List (String × DataW Unit)}
    (own : ownKnob C.prog.godebug = none) (hl : laidOutB C.prog = true) (started : os.Started) (noInit : C.prog.inits.idxOf? f = none) (hfn : C.prog.funcs[f]? = some fn)
    (hrt : fn.resultTypes = #[tb]) (htb : C.prog.underlying tb = some .bool) (hr : ∀ t ∈ fn.params.toList, C.prog.readableRec t = true ∧ t < C.prog.types.size)
    (hv : s.vars = []) (hs : ∀ ds : List (DataW H), ds.length = fn.params.size → s.fn H ds = { results := [.lit (.bool true)], args := ds })
    (witness : ∃ (w : World) (tape : Tape) (i : Input), w.os = os ∧ (w.forCall tape i).Shaped C.prog ∧ i.vars = [] ∧ Input.okWide C.prog (w.forCall tape i) .any w.heap.size f i ∧
      ((s.pre enc C.prog fn [] false (w.forCall tape i).memory i.args ∧ laidMetH C.prog laid (w.forCall tape i).memory) ∧ sizedMet enc C.prog fn (OpenSpec.ofChange s) false (w.forCall tape i).memory i.args) ∧ ({} : Assume).holds C.prog (lone (Frame.enter C.prog f i.args .normal) [] (w.forCall tape i)))
    (contract : ∀ (W : World) (base : Nat) (args : Array Value) (ds : List (DataW H)) (ps : List MemPlace),
      (∀ (j : Nat) t v, fn.params[j]? = some t → args[j]? = some v → Value.okWide C.prog W .any base t v) →
      DataW.TrodAll enc C.prog W 0 (fun _ => true) true fn.params.toList args.toList ds ps → (∀ p ∈ ps, p.block < W.heap.size) → W.noneFrozen ps →
      (DataW.weightsEach C.prog fn.params.toList ds).all (· ≤ reachBytes) = true → laidMetH C.prog laid W →
      Calls C.prog f args W fun e W' => e = .returned (.bool true) ∧ Below W.heap.size W W') :
    ReturnsInHanded {} C os f .any (fun w args => (s.pre enc C.prog fn [] false w args ∧ laidMetH C.prog laid w) ∧ sizedMet enc C.prog fn (OpenSpec.ofChange s) false w args) (s.post enc C.prog fn false true false false) := by
  refine returnsInHanded_of_change_and (X := fun w _ => laidMetH C.prog laid w) (fun _ _ _ hh h => h.of_heap hh) own started noInit hfn witness ?_
  intro W base args ds gs before hval hW _ hsz hL _
  have hlt : ∀ p ∈ before, p.block < W.heap.size := fun p hp => hW.lt p hp
  obtain ⟨p, q, hA, hV, rfl, hfz, _⟩ := id hW
  rw [hv] at hV
  obtain ⟨rfl, rfl⟩ := trodVars_none hV
  have hvt : s.plain.varTypes C.prog = [] := by simp [ChangeSpec.plain, DataSpec.varTypes, hv]
  rw [hvt, List.append_nil, List.append_nil] at hsz
  simp only [List.append_nil] at hlt hfz
  refine (contract W base args ds p hval hA hlt hfz hsz hL).mono fun e W' ⟨he, hb⟩ => ⟨_, he, ?_⟩
  have hdl : ∀ {ts : List TypeId} {vs : List Value} {ds : List (DataW H)} {ps : List MemPlace}, DataW.TrodAll enc C.prog W 0 (fun _ => true) true ts vs ds ps → ds.length = ts.length := by
    intro ts
    induction ts with
    | nil => intro vs ds ps h; obtain ⟨_, rfl, _⟩ := trodAll_nil h; rfl
    | cons t ts ih => intro vs ds ps h; obtain ⟨v, vs', d, ds', p', q', _, rfl, _, _, h2⟩ := trodAll_cons h; simp [ih h2]
  exact post_law hl hrt htb hr hv (by rw [List.append_nil]; exact hs ds (by simpa using hdl hA)) hW hb

end Go.Hm
/- The table of constants, out of the condition that it reads as listed. -/

namespace Go.Proofs.YtgfemjpeegbhhaaDoor
open Go.RowKit Go.Hm Go.WideShapes Go.ChangeShapes
theorem gConst : Tryd.prog.globalNamed "hypostyle/sha.constants" = some 0 := by kernel_rfl
theorem tConst : (Tryd.prog.globals[0]?).map (·.type) = some 92 := by kernel_rfl
theorem dConst : (Rows.laid_hypostyle_sha_constants : DataW Unit) = .agg (kI.map fun k => .lit (.int .u32 k)) := by rfl
abbrev laidC : List (String × DataW Unit) := [("hypostyle/sha.constants", Rows.laid_hypostyle_sha_constants)]
theorem const_of_laid {W : World} (h : laidMetH Tryd.prog laidC W) : ConstIn W := by
  rw [MakeChecks.laidMetH_plain _ _ _ (by kernel_rfl)] at h
  obtain ⟨ps, ⟨g0, t0, cs0, f0, p0, q0, hg0, ht0, hv0, hd0, _, hps⟩, _, hblk⟩ := h
  obtain rfl := Option.some.inj (gConst.symm.trans hg0)
  obtain rfl := Option.some.inj (tConst.symm.trans ht0)
  obtain ⟨xs, m1, rfl, hx1, hlen, hn3, hel⟩ := DataW.trod_array (show Tryd.prog.underlying 92 = some (.array 64 70) by kernel_rfl) hd0
  have c64 : Tryd.prog.cellsOf 92 = 64 := by kernel_rfl
  have c1 : Tryd.prog.cellsOf 70 = 1 := by kernel_rfl
  rw [c64] at hlen
  rw [dConst] at hx1
  simp only [Prod.mk.injEq, DataW.agg.injEq] at hx1
  have hcell : ∀ i, i < 64 → W.cell? ⟨0, i, none⟩ = some (.int .u32 (kI.getD i 0)) := by
    intro i hi
    have h1 := hel i hi
    rw [c1, Nat.mul_one] at h1
    have hi2 : i < cs0.toList.length := by omega
    have hone : (cs0.toList.drop i).take 1 = [cs0.toList[i]] := by
      rw [List.drop_eq_getElem_cons hi2]
      rfl
    rw [hone, List.getElem?_eq_getElem (by omega)] at h1
    obtain ⟨x, e1, e2, _⟩ := DataW.trod_int (show Tryd.prog.underlying 70 = some (.int .u32) by kernel_rfl) h1
    have hk : (xs.map (·.1))[i]? = (kI.map fun k => (DataW.lit (.int .u32 k) : DataW Unit))[i]? := by rw [hx1.1]
    rw [List.getElem?_map, List.getElem?_eq_getElem (show i < xs.length by omega), List.getElem?_map, List.getElem?_eq_getElem (show i < kI.length from hi)] at hk
    simp only [Option.map_some, Option.some.injEq] at hk
    rw [e2] at hk
    simp only [DataW.lit.injEq, Lit.int.injEq, true_and] at hk
    have hc := World.var?_cell hg0 hv0 i
    rw [hc]
    simp only [List.cons.injEq, and_true] at e1
    rw [Array.getElem?_eq_getElem (by simpa using hi2)]
    have e3 : cs0[i]'(by simpa using hi2) = cs0.toList[i] := by simp
    rw [e3, e1, hk, List.getD_eq_getElem?_getD, List.getElem?_eq_getElem (show i < kI.length from hi)]
    rfl
  refine ⟨?_, hcell⟩
  have h0 := hcell 0 (by omega)
  unfold World.cell? at h0
  rcases Nat.eq_zero_or_pos W.heap.size with hz | hz
  · rw [Array.getElem?_eq_none (by omega)] at h0
    cases h0
  · exact hz
theorem door_met (os : Os) (args : Array Value) : laidMetH Tryd.prog laidC ((World.doorLaid Tryd.prog 14 os).forCall (fun _ _ => 0) ⟨#[], args, []⟩).memory :=
  laidMetH_of_parts3 (fuel := 8) (laidMet_of_run' 8 (by kernel_rfl) (by kernel_rfl)) (by kernel_rfl) (by kernel_rfl)

end Go.Proofs.YtgfemjpeegbhhaaDoor
/- Texts opened. -/

namespace Go.Hm
theorem fsum_le_ (M : Nat) (l : List (List Nat)) (h : ∀ s ∈ l, s.length ≤ M) : (l.map List.length).sum ≤ l.length * M := by
  induction l with
  | nil => simp
  | cons s l ih =>
    have h1 := ih fun x hx => h x (by simp [hx])
    have h2 := h s (by simp)
    simp only [List.map_cons, List.sum_cons, List.length_cons, Nat.succ_mul]
    omega
theorem strs_recs (l : List (List Nat)) : strs l = recs (fun s => [.string (bstr s)]) l := by
  induction l with
  | nil => rfl
  | cons s l ih => rw [recs_cons, ← ih]; rfl

end Go.Hm
set_option maxRecDepth 100000

namespace Go.Proofs.YtgfemjpeegbhhaaDoor
open Go.RowKit Go.Hm Go.WideShapes Go.ChangeShapes

section
variable {H : Type} {enc : TypeId × Value → H} {W : World} {base : Nat} {v : Value} {d : DataW H} {ps : List MemPlace}
theorem open_s (hval : Value.okWide Tryd.prog W .any base 9 v) (h : DataW.Trod enc Tryd.prog W 0 (fun _ => true) true 9 v d ps) (hlt : ∀ p ∈ ps, p.block < W.heap.size) (hw : ∀ n ∈ d.weights Tryd.prog 9, n ≤ reachBytes) :
    ∃ l : List Nat, v = .string (bstr l) ∧ (∀ x ∈ l, x < 256) ∧ l.length ≤ 140737488351232 := by
  have ht : Tryd.prog.underlying 9 = some .string := by kernel_rfl
  obtain ⟨s, rfl⟩ := okWide_string ht hval
  obtain ⟨l, h1, h2, h3⟩ := (Held.of h hlt hw).string ht
  refine ⟨l, ?_, h2, h3⟩
  simpa [Value.cells] using h1
end

end Go.Proofs.YtgfemjpeegbhhaaDoor
