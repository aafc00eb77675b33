/- Texts merged, for a claim has at most 60 files: Small21, Tre2, Trod8, Plan. -/
import Derived.Lib.SmallJoins
import Derived.Test.YtgfemjpeegbhhaaDoorBun1
import Derived.Test.YtgfemjpeegbhhaaDoorBun3
import Derived.Test.YtgfemjpeegbhhaaDoorBun6
/- The small case of layer 21's statements. -/

namespace Go.Hm
open Go Go.RowKit
abbrev pageTag : List Nat := [112, 97, 103, 101]
def dA : List Nat := hashN pageTag (leafP 0 2 [120])
def dB : List Nat := hashN pageTag (leafP 1 2 [])
def fA : List Nat := frameL pageTag (leafP 0 2 [120])
def fB : List Nat := frameL pageTag (leafP 1 2 [])
def fN : List Nat := frameL nodeTag [dA, dB]
def fZ : List Nat := frameL noneTag []
theorem frame_A : frameO pageTag (leafP 0 2 [120]) = some fA := by unfold frameO; exact if_pos ⟨by decide, by decide, by decide⟩
theorem frame_B : frameO pageTag (leafP 1 2 []) = some fB := by unfold frameO; exact if_pos ⟨by decide, by decide, by decide⟩
theorem dig_A : DigN dA := hashN_dig _ _
theorem dig_B : DigN dB := hashN_dig _ _
theorem digs_AB : Digs [dA, dB] := by
  intro d hd
  simp only [List.mem_cons, List.not_mem_nil, or_false] at hd
  rcases hd with rfl | rfl
  · exact dig_A
  · exact dig_B
theorem split_two : splitN 2 = 1 := by decide
theorem root_two (x y : List Nat) : rootD [x, y] = (hashN nodeTag [x, y], [frameL nodeTag [x, y]]) := by
  have hs : splitN [x, y].length = 1 := split_two
  rw [rootD_many (L := [x, y]) (by simp), hs]
  show (hashN nodeTag [(rootD [x]).1, (rootD [y]).1], (rootD [x]).2 ++ (rootD [y]).2 ++ [frameL nodeTag [(rootD [x]).1, (rootD [y]).1]]) = _
  rw [rootD_one, rootD_one]
  rfl
theorem ConstIn.turn2 {W w w' : World} {T : List Nat} (hC : ConstIn W) (b : New W w) (k : Turns T w w') (hT : ∀ x ∈ T, W.heap.size ≤ x) : ConstIn w' := hC.new (Turns.below b k hT (Nat.le_refl _))
theorem run_idB2 {P : Program} (w : World) (t e : TypeId) (x : Int) (g : Nat) (hg : g = w.heap.size) (ht : P.underlying t = some (.slice e)) (he : P.underlying e = some (.int .u8)) :
    (convert t t (.slice (some ⟨g, 0, none⟩) 1 1)).run P (w.alloc (.cells #[.int .u8 x] e)) = .ok (.slice (some ⟨g, 0, none⟩) 1 1) (w.alloc (.cells #[.int .u8 x] e (1, 2))) := Joins.run_convert_bytes_const_at w t e _ 1 1 g hg ht he

end Go.Hm

namespace Go.Proofs.YtgfemjpeegbhhaaDoor
open Go.RowKit Go.Hm
theorem rows_pair {W : World} {a b : List Nat} (ha : DigN a) (hb : DigN b) {ga gb : Nat} {ca cb : Array Value} (h1 : Blk W ga 32 ca) (e1 : dV a = .agg ca) (h2 : Blk W gb 32 cb) (e2 : dV b = .agg cb) :
    RowsAt (W.alloc (.cells #[.slice (some ⟨ga, 0, none⟩) 32 32, .slice (some ⟨gb, 0, none⟩) 32 32] 22)) (some ⟨W.heap.size, 0, none⟩) 2 2 [(some ⟨ga, 0, none⟩, 32, a), (some ⟨gb, 0, none⟩, 32, b)] := by
  have e1 : ca = (nums .u8 a).toArray := by injection e1 with e1; exact e1.symm
  have e2 : cb = (nums .u8 b).toArray := by injection e2 with e2; exact e2.symm
  have n := new_alloc2 W (.cells #[.slice (some ⟨ga, 0, none⟩) 32 32, .slice (some ⟨gb, 0, none⟩) 32 32] 22)
  refine ⟨Reads.litM3 W _ (0, 0) _ 2 _ (by simp [recs, partV, ha.1, hb.1]) (by simp [recs, partV]), fun x hx => ?_, Nat.le_refl _⟩
  simp only [List.mem_cons, List.not_mem_nil, or_false] at hx
  rcases hx with rfl | rfl
  · exact ⟨by show Reads _ _ 1 _ a.length _; exact Reads.later (reads_blk h1 (by rw [e1])) n, by show a.length ≤ 32; rw [ha.1]; omega, by show (32 : Nat) ≤ _; omega⟩
  · exact ⟨by show Reads _ _ 1 _ b.length _; exact Reads.later (reads_blk h2 (by rw [e2])) n, by show b.length ≤ 32; rw [hb.1]; omega, by show (32 : Nat) ≤ _; omega⟩
theorem hashNode_any {W : World} {a b : List Nat} (ha : DigN a) (hb : DigN b) {ga gb : Nat} {ca cb : Array Value} (h1 : Blk W ga 32 ca) (e1 : dV a = .agg ca) (h2 : Blk W gb 32 cb) (e2 : dV b = .agg cb) (hC : ConstIn W) :
    Calls Tryd.prog 35 #[.string ⟨#[110, 111, 100, 101]⟩, .slice (some ⟨W.heap.size, 0, none⟩) 2 2] (W.alloc (.cells #[.slice (some ⟨ga, 0, none⟩) 32 32, .slice (some ⟨gb, 0, none⟩) 32 32] 22)) (NewPost (dV (hashN nodeTag [a, b])) (W.alloc (.cells #[.slice (some ⟨ga, 0, none⟩) 32 32, .slice (some ⟨gb, 0, none⟩) 32 32] 22))) := by
  have h := hash_any (s := nodeTag) (rows_pair ha hb h1 e1 h2 e2) (by omega) (by decide) (by decide) (by simp [bytesOf, tsum, ha.1, hb.1]) (by
    intro p hp
    simp only [bytesOf, List.map_cons, List.map_nil, List.mem_cons, List.not_mem_nil, or_false] at hp
    rcases hp with rfl | rfl
    · exact ha.2
    · exact hb.2) (hC.new (new_alloc2 _ _))
  rw [show bytesOf [((some ⟨ga, 0, none⟩ : Option Addr), 32, a), (some ⟨gb, 0, none⟩, 32, b)] = [a, b] from rfl, dV_hash] at h
  exact h
theorem hashNone_any (W : World) (hC : ConstIn W) : Calls Tryd.prog 35 #[.string ⟨#[110, 111, 110, 101]⟩, .slice none 0 0] W (NewPost (dV (hashN noneTag [])) W) := by
  have h := hash_any (s := noneTag) (rows_none W) (by omega) (by decide) (by decide) (by simp [bytesOf, tsum]) (by simp [bytesOf]) hC
  rw [show bytesOf [] = [] from rfl, dV_hash] at h
  exact h
theorem rootOne_any (w : World) (g base : Nat) (hbs : base ≤ w.heap.size) {V : Value} {F : List (List Nat)} (hF : F.length ≤ 1000) (hL : LogOf tL w base g V F) {a : List Nat} (ha : DigN a) (hC : ∀ w' w'', New w w' → Turns (g :: rowT V) w' w'' → ConstIn w'') :
    Calls Tryd.prog 19 #[.pointer (some ⟨g, 0, none⟩), .slice (some ⟨w.heap.size, 0, none⟩) 1 1] (w.alloc (.cells (recs digC [a]).toArray 32)) (PostOf tL (dV a) base g V F (w.alloc (.cells (recs digC [a]).toArray 32))) := by
  have c0 := new_alloc2 w (.cells (recs digC [a]).toArray 32)
  have hT : w.heap.size ∉ g :: rowT V := fun hx => by
    rcases List.mem_cons.1 hx with e | hx
    · have := hL.lt; omega
    · have := (hL.ge _ hx).2; omega
  have h := root_any 2 (L := [a]) (c := 1) (by simp) (hL.new c0) (Nat.le_trans hbs c0.size) (by simp; omega) (leafIn_new (fun d hd => by obtain rfl := List.mem_singleton.1 hd; exact ha) hT) (by simp) (by omega) (fun w' t => hC _ w' c0 t)
  rw [rootD_one, List.append_nil] at h
  exact h
theorem split_is (n : Int) (m : Nat) (w : World) (h0 : 0 ≤ n) (h : n ≤ 1000) (e : splitN n.toNat = m) : Calls Tryd.prog 23 #[.int .i64 n] w (ValPost (.int .i64 (m : Nat)) w) := by
  have := split_any n w (by omega) (by omega)
  rwa [e] at this
theorem depth_is (n : Int) (m : Nat) (w : World) (h0 : 0 ≤ n) (h : n ≤ 1000) (e : depthN n.toNat = m) : Calls Tryd.prog 25 #[.int .i64 n] w (ValPost (.int .i64 (m : Nat)) w) := by
  have := depth_any 1001 n w (by omega) (by omega) (by omega)
  rwa [e] at this
theorem LogOf.made (w : World) (base : Nat) : LogOf tL (w.alloc (.cells #[.slice none 0 0] 62)) base w.heap.size (.slice none 0 0) [] := ⟨none, 0, 0, [], rfl, Blk.new _ _ _, Own.nil_, (fun _ hd => nomatch hd), rfl⟩
theorem leafA_any (w : World) (g base : Nat) (hbs : base ≤ w.heap.size) (hL : LogOf tL w base g (.slice none 0 0) []) (hC : ∀ w' w'', New w w' → Turns [g] w' w'' → ConstIn w'') :
    Calls Tryd.prog 15 #[.pointer (some ⟨g, 0, none⟩), .string ⟨#[112, 97, 103, 101]⟩, .int .i64 0, .int .i64 2, .slice (some ⟨w.heap.size, 0, none⟩) 1 1] (w.alloc (.cells #[.int .u8 120] 5 (1, 2))) (PostOf tL (dV dA) base g (.slice none 0 0) [fA] (w.alloc (.cells #[.int .u8 120] 5 (1, 2)))) := by
  have c0 := new_alloc2 w (.cells #[.int .u8 120] 5 (1, 2))
  have h := leaf_any (s := pageTag) (d := [120]) (k := 0) (n := 2) (c := 1) (hL.new c0) (Nat.le_trans hbs c0.size) (by simp) (by decide) (by decide) (Reads.litM3 w 5 (1, 2) #[.int .u8 120] 1 (nums .u8 [120]) rfl rfl) (by decide) (by decide) (by decide) (by omega) (fun w' t => hC _ w' c0 t)
  rw [dV_hash, frame_A] at h
  exact h
theorem leafB_any (w : World) (g base : Nat) (hbs : base ≤ w.heap.size) {V : Value} (hL : LogOf tL w base g V [fA]) (hC : ∀ w', Turns (g :: rowT V) w w' → ConstIn w') :
    Calls Tryd.prog 15 #[.pointer (some ⟨g, 0, none⟩), .string ⟨#[112, 97, 103, 101]⟩, .int .i64 1, .int .i64 2, .slice none 0 0] w (PostOf tL (dV dB) base g V [fA, fB] w) := by
  have h := leaf_any (s := pageTag) (d := []) (k := 1) (n := 2) (c := 0) (A := none) hL hbs (by simp) (by decide) (by decide) Reads.none_ (by decide) (by decide) (by decide) (by omega) hC
  rw [dV_hash, frame_B] at h
  exact h
theorem rootAB_any (w : World) (g base : Nat) (hbs : base ≤ w.heap.size) {V : Value} (hL : LogOf tL w base g V [fA, fB]) (hC : ∀ w' w'', New w w' → Turns (g :: rowT V) w' w'' → ConstIn w'') :
    Calls Tryd.prog 19 #[.pointer (some ⟨g, 0, none⟩), .slice (some ⟨w.heap.size, 0, none⟩) 2 2] (w.alloc (.cells (recs digC [dA, dB]).toArray 32)) (PostOf tL (dV (hashN nodeTag [dA, dB])) base g V [fA, fB, fN] (w.alloc (.cells (recs digC [dA, dB]).toArray 32))) := by
  have c0 := new_alloc2 w (.cells (recs digC [dA, dB]).toArray 32)
  have hT : w.heap.size ∉ g :: rowT V := fun hx => by
    rcases List.mem_cons.1 hx with e | hx
    · have := hL.lt; omega
    · have := (hL.ge _ hx).2; omega
  have h := root_any 3 (L := [dA, dB]) (c := 2) (by simp) (hL.new c0) (Nat.le_trans hbs c0.size) (by simp) (leafIn_new digs_AB hT) (by simp) (by omega) (fun w' t => hC _ w' c0 t)
  rw [root_two] at h
  exact h
theorem rootZ_any (w : World) (g base : Nat) (hbs : base ≤ w.heap.size) {V : Value} (hL : LogOf tL w base g V [fA, fB, fN]) (hC : ∀ w', Turns (g :: rowT V) w w' → ConstIn w') :
    Calls Tryd.prog 19 #[.pointer (some ⟨g, 0, none⟩), .slice none 0 0] w (PostOf tL (dV (hashN noneTag [])) base g V [fA, fB, fN, fZ] w) := by
  have h := root_any 1 (L := []) (A := none) (c := 0) (by simp) hL hbs (by simp) ⟨Reads.none_, (fun _ hd => nomatch hd), fun h => absurd h (by simp)⟩ (by simp) (by omega) hC
  rw [rootD_nil] at h
  exact h
set_option maxRecDepth 100000 in
theorem dA_dB : dA ≠ dB := by decide +kernel
set_option maxRecDepth 100000 in
theorem fr_short : ∀ p ∈ [fA, fB, fN, fZ], p.length ≤ 140737488355328 := by decide +kernel
set_option maxHeartbeats 4000000 in
set_option maxRecDepth 100000 in
theorem small21_any (w : World) (hC : ConstIn w) : Calls Tryd.prog 13 #[] w (NewPost (.bool true) w) := by
  have HC := Lib.hid hC
  clear hC
  go_enter Tryd.func13, Tryd.ntmps13
  go_wp2_with fail
  refine new_any.mono ?_
  rintro e w1 ⟨rfl, rfl⟩
  have l1 := LogOf.made w w.heap.size
  obtain ⟨w1, hw1⟩ : ∃ W, W = w.alloc (.cells #[.slice none 0 0] 62) := ⟨_, rfl⟩
  have b1 : New w w1 := by rw [hw1]; exact new_alloc2 _ _
  rw [← hw1] at l1
  rw [← hw1]
  obtain ⟨g, hg⟩ : ∃ g, g = w.heap.size := ⟨_, rfl⟩
  rw [← hg] at l1 ⊢
  have HGW := Lib.hid (show w.heap.size ≤ g by omega)
  have k1 := run_idB2 (P := Tryd.prog) w1 22 5 120 w1.heap.size rfl elB.ht (by kernel_rfl)
  have LA := Lib.hid (leafA_any w1 g g (Nat.le_of_lt l1.lt) l1 (fun w' w'' hb ht => HC.out.turn2 (New.trans b1 hb) ht (by intro x hx; simp at hx; omega)))
  have B1 := Lib.hid b1
  have L1 := Lib.hid l1
  clear hw1 b1 l1 hg
  go_wp2_with fail
  (with_reducible refine LA.out.mono ?_)
  rintro e w2 ⟨rfl, V1, l2, _, t2⟩
  obtain ⟨ca, hca⟩ : ∃ cs, cs = (nums .u8 dA).toArray := ⟨_, rfl⟩
  have hva : dV dA = .agg ca := by rw [hca]; rfl
  have I32a := Lib.hid (show (Tryd.prog.info? 32).map (·.size) = some ca.size by rw [hca]; exact i32n dig_A.1)
  have ZSa := Lib.hid (show (ints .u8 zero32).toArray.size = ca.size by rw [hca]; simp [ints, nums, zero32, dig_A.1])
  have ONEa := Lib.hid (show ca.all (·.oneCell') = true by rw [hca]; exact one_n _)
  have HVA := Lib.hid hva
  have N2 := Lib.hid (t2.below (New.trans B1.out (new_alloc2 w1 (.cells #[.int .u8 120] 5 (1, 2)))) (L1.out.own HGW.out HGW.out) (Nat.le_refl _))
  have L2 := Lib.hid l2
  rw [hva]
  clear hca hva k1 LA l2 t2 L1
  go_wp2_with (refine wpList_store_row rfl 32 (.tmp 2) (.tmp 13) rfl w2.heap.size ca rfl rfl _ _ (heap_alloc_new _ _) I32a.out ZSa.out ONEa.out ?_; rw [alloc_setRow])
  obtain ⟨w3, hw3⟩ : ∃ W, W = w2.alloc (.cells ca 32) := ⟨_, rfl⟩
  have n23 : New w2 w3 := by rw [hw3]; exact new_alloc2 _ _
  have gA : Blk w3 w2.heap.size 32 ca := by rw [hw3]; exact Blk.new _ _ _
  rw [← hw3]
  generalize w2.heap.size = ba at *
  have N3 := Lib.hid (New.trans N2.out n23)
  have l3 := L2.out.new n23
  have LB := Lib.hid (leafB_any w3 g g (Nat.le_of_lt l3.lt) l3 (fun w' t => HC.out.turn2 N3.out t (l3.own HGW.out HGW.out)))
  have L3 := Lib.hid l3
  have GA := Lib.hid gA
  clear hw3 n23 gA l3 L2 N2
  (with_reducible refine LB.out.mono ?_)
  rintro e w4 ⟨rfl, V2, l4, _, t4⟩
  obtain ⟨cb, hcb⟩ : ∃ cs, cs = (nums .u8 dB).toArray := ⟨_, rfl⟩
  have hvb : dV dB = .agg cb := by rw [hcb]; rfl
  have I32b := Lib.hid (show (Tryd.prog.info? 32).map (·.size) = some cb.size by rw [hcb]; exact i32n dig_B.1)
  have ZSb := Lib.hid (show (ints .u8 zero32).toArray.size = cb.size by rw [hcb]; simp [ints, nums, zero32, dig_B.1])
  have ONEb := Lib.hid (show cb.all (·.oneCell') = true by rw [hcb]; exact one_n _)
  have HVB := Lib.hid hvb
  have n4 := t4.below N3.out (L3.out.own HGW.out HGW.out) (Nat.le_refl _)
  have ga4 := GA.out.touch t4 (L3.out.notT GA.out (by decide) (by decide))
  have n5 := New.trans n4 (new_alloc2 w4 (.cells cb 32))
  have l5 := l4.new (new_alloc2 w4 (.cells cb 32))
  have ga5 := ga4.alloc (.cells cb 32)
  have gb5 := Blk.new w4 32 cb
  have RB := Lib.hid (rootAB_any (w4.alloc (.cells cb 32)) g g (Nat.le_of_lt l5.lt) l5 (fun w' w'' hb ht => HC.out.turn2 (New.trans n5 hb) ht (l5.own HGW.out HGW.out)))
  have RB' := Lib.hid (show Calls Tryd.prog 19 #[.pointer (some ⟨g, 0, none⟩), .slice (some ⟨w4.heap.size + 1, 0, none⟩) 2 2] ((w4.alloc (.cells cb 32)).alloc (.cells (recs digC [dA, dB]).toArray 32)) _ from by have h := RB.out; rw [show (w4.alloc (.cells cb 32)).heap.size = w4.heap.size + 1 by simp] at h; exact h)
  have XA := Lib.hid (row_of_blk ga5)
  have XB := Lib.hid (row_of_blk gb5)
  have L5 := Lib.hid l5
  have GA5 := Lib.hid ga5
  have GB5 := Lib.hid gb5
  have N5 := Lib.hid n5
  rw [hvb]
  clear hcb hvb LB l4 t4 n4 ga4 n5 l5 ga5 gb5 L3 GA N3
  go_wp2_with (first
    | (refine wpList_store_row rfl 32 (.tmp 3) (.tmp 15) rfl w4.heap.size cb rfl rfl _ _ (heap_alloc_new _ _) I32b.out ZSb.out ONEb.out ?_; rw [alloc_setRow])
    | (refine wpList_load_row rfl 32 (.tmp 2) rfl ba rfl _ ca _ _ XA.out digarr rfl I32a.out ?_)
    | (refine wpList_load_row rfl 32 (.tmp 3) rfl w4.heap.size rfl _ cb _ _ XB.out digarr rfl I32b.out ?_)
    | go_loud (refine wpList_digs rfl 2 _ rfl [dA, dB] digs_AB rfl (by omega) (by omega) ?hp ?_; case hp => (rw [List.map_cons, List.map_cons, List.map_nil, HVA.out, HVB.out, Array.toList_map]; rfl))
    | fail)
  (with_reducible refine RB'.out.mono ?_)
  rintro e w6 ⟨rfl, V3, l6, _, t6⟩
  obtain ⟨cn, hcn⟩ : ∃ cs, cs = (nums .u8 (hashN nodeTag [dA, dB])).toArray := ⟨_, rfl⟩
  have hvn : dV (hashN nodeTag [dA, dB]) = .agg cn := by rw [hcn]; rfl
  have I32n := Lib.hid (show (Tryd.prog.info? 32).map (·.size) = some cn.size by rw [hcn]; exact i32n (hashN_dig _ _).1)
  have ZSn := Lib.hid (show (ints .u8 zero32).toArray.size = cn.size by rw [hcn]; simp [ints, nums, zero32, (hashN_dig nodeTag [dA, dB]).1])
  have ONEn := Lib.hid (show cn.all (·.oneCell') = true by rw [hcn]; exact one_n _)
  have HVN := Lib.hid hvn
  have n6 := t6.below (New.trans N5.out (new_alloc2 _ (.cells (recs digC [dA, dB]).toArray 32))) (L5.out.own HGW.out HGW.out) (Nat.le_refl _)
  have l5' := L5.out.new (new_alloc2 _ (.cells (recs digC [dA, dB]).toArray 32))
  have ga6 := (GA5.out.alloc (.cells (recs digC [dA, dB]).toArray 32))
  have gb6 := (GB5.out.alloc (.cells (recs digC [dA, dB]).toArray 32))
  rw [hvn]
  clear hcn hvn RB RB' XA XB
  go_wp2_with (first
    | (refine wpList_store_row rfl 32 (.tmp 4) (.tmp 20) rfl w6.heap.size cn rfl rfl _ _ (heap_alloc_new _ _) I32n.out ZSn.out ONEn.out ?_; rw [alloc_setRow])
    | fail)
  obtain ⟨w7, hw7⟩ : ∃ W, W = w6.alloc (.cells cn 32) := ⟨_, rfl⟩
  have n67 : New w6 w7 := by rw [hw7]; exact new_alloc2 _ _
  have gN7 : Blk w7 w6.heap.size 32 cn := by rw [hw7]; exact Blk.new _ _ _
  have gA7 : Blk w7 ba 32 ca := by rw [hw7]; exact (ga6.touch t6 (l5'.notT ga6 (by decide) (by decide))).alloc _
  have gB7 : Blk w7 w4.heap.size 32 cb := by rw [hw7]; exact (gb6.touch t6 (l5'.notT gb6 (by decide) (by decide))).alloc _
  rw [← hw7]
  generalize w6.heap.size = bn at *
  generalize w4.heap.size = bb at *
  have N7 := Lib.hid (New.trans n6 n67)
  have l7 := l6.new n67
  have RZ := Lib.hid (rootZ_any w7 g g (Nat.le_of_lt l7.lt) l7 (fun w' t => HC.out.turn2 N7.out t (l7.own HGW.out HGW.out)))
  have L7 := Lib.hid l7
  have GA7 := Lib.hid gA7
  have GB7 := Lib.hid gB7
  have GN7 := Lib.hid gN7
  clear hw7 n67 gN7 gA7 gB7 l7 l6 t6 n6 ga6 gb6 l5' GA5 GB5 L5 N5
  (with_reducible refine RZ.out.mono ?_)
  rintro e w8 ⟨rfl, V4, l8, _, t8⟩
  obtain ⟨cz, hcz⟩ : ∃ cs, cs = (nums .u8 (hashN noneTag [])).toArray := ⟨_, rfl⟩
  have hvz : dV (hashN noneTag []) = .agg cz := by rw [hcz]; rfl
  have I32z := Lib.hid (show (Tryd.prog.info? 32).map (·.size) = some cz.size by rw [hcz]; exact i32n (hashN_dig _ _).1)
  have ZSz := Lib.hid (show (ints .u8 zero32).toArray.size = cz.size by rw [hcz]; simp [ints, nums, zero32, (hashN_dig noneTag []).1])
  have ONEz := Lib.hid (show cz.all (·.oneCell') = true by rw [hcz]; exact one_n _)
  have HVZ := Lib.hid hvz
  have n8 := t8.below N7.out (L7.out.own HGW.out HGW.out) (Nat.le_refl _)
  have ga8 := GA7.out.touch t8 (L7.out.notT GA7.out (by decide) (by decide))
  have gb8 := GB7.out.touch t8 (L7.out.notT GB7.out (by decide) (by decide))
  have gn8 := GN7.out.touch t8 (L7.out.notT GN7.out (by decide) (by decide))
  rw [hvz]
  clear hcz hvz RZ
  go_wp2_with (first
    | (refine wpList_store_row rfl 32 (.tmp 5) (.tmp 22) rfl w8.heap.size cz rfl rfl _ _ (heap_alloc_new _ _) I32z.out ZSz.out ONEz.out ?_; rw [alloc_setRow])
    | fail)
  obtain ⟨w9, hw9⟩ : ∃ W, W = w8.alloc (.cells cz 32) := ⟨_, rfl⟩
  have n89 : New w8 w9 := by rw [hw9]; exact new_alloc2 _ _
  have gZ9 : Blk w9 w8.heap.size 32 cz := by rw [hw9]; exact Blk.new _ _ _
  have gA9 : Blk w9 ba 32 ca := by rw [hw9]; exact ga8.alloc _
  have gB9 : Blk w9 bb 32 cb := by rw [hw9]; exact gb8.alloc _
  have gN9 : Blk w9 bn 32 cn := by rw [hw9]; exact gn8.alloc _
  rw [← hw9]
  generalize w8.heap.size = bz at *
  have N9 := Lib.hid (New.trans n8 n89)
  have l9 := l8.new n89
  have L9 := Lib.hid l9
  have GA9 := Lib.hid gA9
  have GB9 := Lib.hid gB9
  have GN9 := Lib.hid gN9
  have GZ9 := Lib.hid gZ9
  clear hw9 n89 gN9 gA9 gB9 gZ9 l9 l8 t8 n8 ga8 gb8 gn8 GA7 GB7 GN7 L7 N7
  have LF := Lib.hid (lframes_any L9.out (by decide) fr_short)
  (with_reducible refine LF.out.mono ?_)
  rintro e w10 ⟨A, c, D, rfl, o, hD, hb, n10⟩
  have N10 := Lib.hid (New.trans N9.out n10)
  have L10 := Lib.hid (L9.out.new n10)
  have GA10 := Lib.hid (GA9.out.below n10 GA9.out.lt)
  have GB10 := Lib.hid (GB9.out.below n10 GB9.out.lt)
  have GN10 := Lib.hid (GN9.out.below n10 GN9.out.lt)
  have GZ10 := Lib.hid (GZ9.out.below n10 GZ9.out.lt)
  clear LF o hD hb n10 N9 L9 GA9 GB9 GN9 GZ9
  have NTA := L10.out.notT GA10.out (by decide) (by decide)
  have NTB := L10.out.notT GB10.out (by decide) (by decide)
  have NTN := L10.out.notT GN10.out (by decide) (by decide)
  have NTZ := L10.out.notT GZ10.out (by decide) (by decide)
  have OWN := L10.out.own HGW.out HGW.out
  have GAf := Lib.hid (fun (W : World) (hW : TurnsB w10.heap.size (g :: rowT V4) w10 W) => show W.heap[ba]? = some (.cells ca 32 (0, 0)) from GA10.out.touch hW.turns NTA)
  have GBf := Lib.hid (fun (W : World) (hW : TurnsB w10.heap.size (g :: rowT V4) w10 W) => show W.heap[bb]? = some (.cells cb 32 (0, 0)) from GB10.out.touch hW.turns NTB)
  have GNf := Lib.hid (fun (W : World) (hW : TurnsB w10.heap.size (g :: rowT V4) w10 W) => show W.heap[bn]? = some (.cells cn 32 (0, 0)) from GN10.out.touch hW.turns NTN)
  have GZf := Lib.hid (fun (W : World) (hW : TurnsB w10.heap.size (g :: rowT V4) w10 W) => show W.heap[bz]? = some (.cells cz 32 (0, 0)) from GZ10.out.touch hW.turns NTZ)
  have HCf : ∀ W : World, TurnsB w10.heap.size (g :: rowT V4) w10 W → ConstIn W := fun W hW => HC.out.turn2 N10.out hW.turns OWN
  have HN := Lib.hid (fun (W : World) (hW : TurnsB w10.heap.size (g :: rowT V4) w10 W) => show Calls Tryd.prog 35 #[.string ⟨#[110, 111, 100, 101]⟩, .slice (some ⟨W.heap.size, 0, none⟩) 2 2] (W.alloc (.cells #[.slice (some ⟨ba, 0, none⟩) 32 32, .slice (some ⟨bb, 0, none⟩) 32 32] 22)) (NewPost (.agg cn) (W.alloc (.cells #[.slice (some ⟨ba, 0, none⟩) 32 32, .slice (some ⟨bb, 0, none⟩) 32 32] 22))) from by
    rw [← HVN.out]
    exact hashNode_any dig_A dig_B (GA10.out.touch hW.turns NTA) HVA.out (GB10.out.touch hW.turns NTB) HVB.out (HCf W hW))
  have HZ := Lib.hid (fun (W : World) (hW : TurnsB w10.heap.size (g :: rowT V4) w10 W) => show Calls Tryd.prog 35 #[.string ⟨#[110, 111, 110, 101]⟩, .slice none 0 0] W (NewPost (.agg cz) W) from by
    rw [← HVZ.out]
    exact hashNone_any W (HCf W hW))
  have RT := Lib.hid (fun (W : World) (hW : New w10 W) => show Calls Tryd.prog 19 #[.pointer (some ⟨g, 0, none⟩), .slice (some ⟨W.heap.size, 0, none⟩) 1 1] (W.alloc (.cells (recs digC [dA]).toArray 32)) (PostOf tL (.agg ca) g g V4 [fA, fB, fN, fZ] (W.alloc (.cells (recs digC [dA]).toArray 32))) from by
    rw [← HVA.out]
    exact rootOne_any W g g (Nat.le_of_lt (L10.out.new hW).lt) (by simp) (L10.out.new hW) dig_A (fun w' w'' hb ht => HC.out.turn2 (New.trans N10.out (New.trans hW hb)) ht OWN))
  have EQA := Lib.hid (fun (W : World) => show (binOp .eql 32 (.agg ca) (.agg ca)).run Tryd.prog W = .ok (.bool true) W from by rw [← HVA.out]; have := eqDV dig_A dig_A W; rwa [decide_eq_true rfl] at this)
  have EQN := Lib.hid (fun (W : World) => show (binOp .eql 32 (.agg cn) (.agg cn)).run Tryd.prog W = .ok (.bool true) W from by rw [← HVN.out]; have := eqDV (hashN_dig nodeTag [dA, dB]) (hashN_dig nodeTag [dA, dB]) W; rwa [decide_eq_true rfl] at this)
  have EQZ := Lib.hid (fun (W : World) => show (binOp .eql 32 (.agg cz) (.agg cz)).run Tryd.prog W = .ok (.bool true) W from by rw [← HVZ.out]; have := eqDV (hashN_dig noneTag []) (hashN_dig noneTag []) W; rwa [decide_eq_true rfl] at this)
  have NEQ := Lib.hid (fun (W : World) => show (binOp .neq 32 (.agg ca) (.agg cb)).run Tryd.prog W = .ok (.bool true) W from by
    have := eqDV dig_A dig_B W
    rw [decide_eq_false dA_dB, HVA.out, HVB.out] at this
    exact run_neq_agg this)
  have OWN := Lib.hid OWN
  clear HCf NTA NTB NTN NTZ
  go_wp2
  refine wp_region_up (TurnsB w10.heap.size (g :: rowT V4)) ord21
    (TurnsB.refl _ _) TurnsB.trans (by kernel_rfl) (by kernel_rfl) (by kernel_rfl) ok21 ?_
  have hU : New w10 w10.drew := New.drew w10
  have hT : TurnsB w10.heap.size (g :: rowT V4) w10 w10.drew := TurnsB.of (Turns.of_new hU) (Nat.le_refl _)
  obtain ⟨u0, hu0⟩ : ∃ W, W = w10.drew := ⟨_, rfl⟩
  rw [← hu0] at hU hT ⊢
  clear hu0
  unfold ord21
  have DK : (Tryd.prog).eqGuardType (Tryd.prog).depth 32 = false := by kernel_rfl
  have DK := Lib.hid DK
  iterate 2 (
    refine up_quiet rfl rfl (v := ?_) (fun W hW => ?_) ?_
    rotate_left
    · go_simp <;> with_reducible rfl
    simp only [Act.put, List.setIfInBounds_toArray, List.set_cons_zero, List.set_cons_succ])
  refine up_quiet rfl rfl (v := .bool true) (fun W hW => by go_simp) ?_
  simp only [Act.put, List.setIfInBounds_toArray, List.set_cons_zero, List.set_cons_succ]
  iterate 1 (
    refine up_quiet rfl rfl (v := ?_) (fun W hW => ?_) ?_
    rotate_left
    · go_simp <;> with_reducible rfl
    simp only [Act.put, List.setIfInBounds_toArray, List.set_cons_zero, List.set_cons_succ])
  refine up_quiet rfl rfl (v := .agg ca) (fun W hW => exec_load_row rfl (GAf.out W (TurnsB.trans hT hW)) digarr rfl I32a.out) ?_
  simp only [Act.put, List.setIfInBounds_toArray, List.set_cons_zero, List.set_cons_succ]
  refine up_quiet rfl rfl (v := .agg cb) (fun W hW => exec_load_row rfl (GBf.out W (TurnsB.trans hT hW)) digarr rfl I32b.out) ?_
  simp only [Act.put, List.setIfInBounds_toArray, List.set_cons_zero, List.set_cons_succ]
  refine up_quiet rfl rfl (v := .bool true) (fun W hW => exec_aggN rfl rfl DK.out (NEQ.out W)) ?_
  simp only [Act.put, List.setIfInBounds_toArray, List.set_cons_zero, List.set_cons_succ]
  iterate 2 (
    refine up_quiet rfl rfl (v := ?_) (fun W hW => ?_) ?_
    rotate_left
    · go_simp <;> with_reducible rfl
    simp only [Act.put, List.setIfInBounds_toArray, List.set_cons_zero, List.set_cons_succ])
  refine up_quiet rfl rfl (v := .agg cn) (fun W hW => exec_load_row rfl (GNf.out W (TurnsB.trans hT hW)) digarr rfl I32n.out) ?_
  simp only [Act.put, List.setIfInBounds_toArray, List.set_cons_zero, List.set_cons_succ]
  iterate 2 (
    refine up_quiet rfl rfl (v := ?_) (fun W hW => ?_) ?_
    rotate_left
    · go_simp <;> with_reducible rfl
    simp only [Act.put, List.setIfInBounds_toArray, List.set_cons_zero, List.set_cons_succ])
  refine up_call rfl rfl (fun K hK => ?_)
  go_simp
  refine hK _ _ (.alloc _ hT.size) ?_
  clear hK
  refine up_call rfl rfl (fun K hK => ?_)
  go_simp
  (with_reducible refine (HN.out _ hT).mono ?_)
  rintro e11 u11 ⟨rfl, d11⟩
  refine hK _ _ (TurnsB.of (Turns.of_new d11) (by simp; have := hT.size; omega)) ?_
  clear hK
  have hT' := hT
  replace hT := TurnsB.trans (TurnsB.trans hT (.alloc _ hT.size)) (TurnsB.of (Turns.of_new d11) (by simp; have := hT.size; omega))
  replace hU := New.trans (New.trans hU (new_alloc2 _ _)) d11
  refine up_quiet rfl rfl (v := .bool true) (fun W hW => exec_agg rfl rfl DK.out (EQN.out W)) ?_
  simp only [Act.put, List.setIfInBounds_toArray, List.set_cons_zero, List.set_cons_succ]
  iterate 2 (
    refine up_quiet rfl rfl (v := ?_) (fun W hW => ?_) ?_
    rotate_left
    · go_simp <;> with_reducible rfl
    simp only [Act.put, List.setIfInBounds_toArray, List.set_cons_zero, List.set_cons_succ])
  refine up_quiet rfl rfl (v := .agg cz) (fun W hW => exec_load_row rfl (GZf.out W (TurnsB.trans hT hW)) digarr rfl I32z.out) ?_
  simp only [Act.put, List.setIfInBounds_toArray, List.set_cons_zero, List.set_cons_succ]
  refine up_call rfl rfl (fun K hK => ?_)
  go_simp
  (with_reducible refine (HZ.out _ hT).mono ?_)
  rintro e12 u12 ⟨rfl, d12⟩
  refine hK _ _ (TurnsB.of (Turns.of_new d12) hT.size) ?_
  clear hK
  replace hT := TurnsB.trans hT (TurnsB.of (Turns.of_new d12) hT.size)
  replace hU := New.trans hU d12
  refine up_quiet rfl rfl (v := .bool true) (fun W hW => exec_agg rfl rfl DK.out (EQZ.out W)) ?_
  simp only [Act.put, List.setIfInBounds_toArray, List.set_cons_zero, List.set_cons_succ]
  iterate 3 (
    refine up_quiet rfl rfl (v := ?_) (fun W hW => ?_) ?_
    rotate_left
    · go_simp <;> with_reducible rfl
    simp only [Act.put, List.setIfInBounds_toArray, List.set_cons_zero, List.set_cons_succ])
  refine up_quiet rfl rfl (v := .agg ca) (fun W hW => exec_load_row rfl (GAf.out W (TurnsB.trans hT hW)) digarr rfl I32a.out) ?_
  simp only [Act.put, List.setIfInBounds_toArray, List.set_cons_zero, List.set_cons_succ]
  refine up_quiet rfl rfl (v := .agg ca) (fun W hW => exec_load_row rfl (GAf.out W (TurnsB.trans hT hW)) digarr rfl I32a.out) ?_
  simp only [Act.put, List.setIfInBounds_toArray, List.set_cons_zero, List.set_cons_succ]
  refine up_call rfl rfl (fun K hK => ?_)
  refine wp_digs 1 _ rfl [dA] (fun d hd => by obtain rfl := List.mem_singleton.1 hd; exact dig_A) rfl (by omega) (by omega) (by rw [List.map_cons, List.map_nil, HVA.out, Array.toList_map]; rfl) ?_
  refine hK _ _ (.alloc _ hT.size) ?_
  clear hK
  refine up_call rfl rfl (fun K hK => ?_)
  go_simp
  (with_reducible refine (RT.out _ hU).mono ?_)
  rintro e13 u13 ⟨rfl, V5, _, _, t13⟩
  refine hK _ _ (TurnsB.of t13 (by simp; have := hT.size; omega)) ?_
  clear hK
  replace hT := TurnsB.trans (TurnsB.trans hT (.alloc _ hT.size)) (TurnsB.of t13 (by simp; have := hT.size; omega))
  refine up_quiet rfl rfl (v := .bool true) (fun W hW => exec_agg rfl rfl DK.out (EQA.out W)) ?_
  simp only [Act.put, List.setIfInBounds_toArray, List.set_cons_zero, List.set_cons_succ]
  iterate 2 (
    refine up_quiet rfl rfl (v := ?_) (fun W hW => ?_) ?_
    rotate_left
    · go_simp <;> with_reducible rfl
    simp only [Act.put, List.setIfInBounds_toArray, List.set_cons_zero, List.set_cons_succ])
  refine up_call rfl rfl (fun K hK => ?_)
  go_simp
  refine (split_is 5 4 _ (by omega) (by omega) (by decide)).mono ?_
  rintro e14 u14 ⟨rfl, rfl⟩
  refine hK _ _ (TurnsB.refl _ _ _) ?_
  clear hK
  refine up_quiet rfl rfl (v := .bool true) (fun W hW => by go_simp) ?_
  simp only [Act.put, List.setIfInBounds_toArray, List.set_cons_zero, List.set_cons_succ]
  iterate 2 (
    refine up_quiet rfl rfl (v := ?_) (fun W hW => ?_) ?_
    rotate_left
    · go_simp <;> with_reducible rfl
    simp only [Act.put, List.setIfInBounds_toArray, List.set_cons_zero, List.set_cons_succ])
  refine up_call rfl rfl (fun K hK => ?_)
  go_simp
  refine (split_is 4 2 _ (by omega) (by omega) (by decide)).mono ?_
  rintro e15 u15 ⟨rfl, rfl⟩
  refine hK _ _ (TurnsB.refl _ _ _) ?_
  clear hK
  refine up_quiet rfl rfl (v := .bool true) (fun W hW => by go_simp) ?_
  simp only [Act.put, List.setIfInBounds_toArray, List.set_cons_zero, List.set_cons_succ]
  iterate 2 (
    refine up_quiet rfl rfl (v := ?_) (fun W hW => ?_) ?_
    rotate_left
    · go_simp <;> with_reducible rfl
    simp only [Act.put, List.setIfInBounds_toArray, List.set_cons_zero, List.set_cons_succ])
  refine up_call rfl rfl (fun K hK => ?_)
  go_simp
  refine (split_is 1 0 _ (by omega) (by omega) (by decide)).mono ?_
  rintro e16 u16 ⟨rfl, rfl⟩
  refine hK _ _ (TurnsB.refl _ _ _) ?_
  clear hK
  refine up_quiet rfl rfl (v := .bool true) (fun W hW => by go_simp) ?_
  simp only [Act.put, List.setIfInBounds_toArray, List.set_cons_zero, List.set_cons_succ]
  iterate 2 (
    refine up_quiet rfl rfl (v := ?_) (fun W hW => ?_) ?_
    rotate_left
    · go_simp <;> with_reducible rfl
    simp only [Act.put, List.setIfInBounds_toArray, List.set_cons_zero, List.set_cons_succ])
  refine up_call rfl rfl (fun K hK => ?_)
  go_simp
  refine (depth_is 5 3 _ (by omega) (by omega) (by decide)).mono ?_
  rintro e17 u17 ⟨rfl, rfl⟩
  refine hK _ _ (TurnsB.refl _ _ _) ?_
  clear hK
  refine up_quiet rfl rfl (v := .bool true) (fun W hW => by go_simp) ?_
  simp only [Act.put, List.setIfInBounds_toArray, List.set_cons_zero, List.set_cons_succ]
  iterate 2 (
    refine up_quiet rfl rfl (v := ?_) (fun W hW => ?_) ?_
    rotate_left
    · go_simp <;> with_reducible rfl
    simp only [Act.put, List.setIfInBounds_toArray, List.set_cons_zero, List.set_cons_succ])
  refine up_call rfl rfl (fun K hK => ?_)
  go_simp
  refine (depth_is 1 0 _ (by omega) (by omega) (by decide)).mono ?_
  rintro e18 u18 ⟨rfl, rfl⟩
  refine hK _ _ (TurnsB.refl _ _ _) ?_
  clear hK
  refine up_quiet rfl rfl (v := .bool true) (fun W hW => by go_simp) ?_
  simp only [Act.put, List.setIfInBounds_toArray, List.set_cons_zero, List.set_cons_succ]
  iterate 2 (
    refine up_quiet rfl rfl (v := ?_) (fun W hW => ?_) ?_
    rotate_left
    · go_simp <;> with_reducible rfl
    simp only [Act.put, List.setIfInBounds_toArray, List.set_cons_zero, List.set_cons_succ])
  refine up_nil ?_
  have BE := Lib.hid (Turns.below N10.out hT.turns OWN.out (Nat.le_refl _))
  go_wp2
  go_ret
  exact ⟨rfl, BE.out⟩

end Go.Proofs.YtgfemjpeegbhhaaDoor
/- Two logs in one world, one of each kind: what calls at either leave. -/

namespace Go.Proofs.YtgfemjpeegbhhaaDoor
open Go.RowKit Go.Hm
/-- A log of the program and one of the document's, both of this call's own, and digests in blocks of their own. -/
def Log2 (w : World) (g h : Nat) (W : World) (F F' : List (List Nat)) (K : List (Nat × Array Value)) : Prop :=
  ∃ V V', LogOf tL W w.heap.size g V F ∧ LogOf tR W w.heap.size h V' F' ∧ (∀ x ∈ rowT V', V.ownBlock ≠ some x) ∧ New w W ∧ ∀ p ∈ K, Blk W p.1 32 p.2
theorem Log2.new {w W W' : World} {g h : Nat} {F F' : List (List Nat)} {K : List (Nat × Array Value)} (l : Log2 w g h W F F' K) (n : New W W') : Log2 w g h W' F F' K := by
  obtain ⟨V, V', l1, l2, ap, b, k⟩ := l
  exact ⟨V, V', l1.new n, l2.new n, ap, New.trans b n, fun p hp => (k p hp).below n (k p hp).lt⟩
theorem Log2.news {w W : World} {g h : Nat} {F F' : List (List Nat)} {K : List (Nat × Array Value)} (l : Log2 w g h W F F' K) : New w W := by
  obtain ⟨_, _, _, _, _, b, _⟩ := l
  exact b
theorem Log2.blk {w W : World} {g h : Nat} {F F' : List (List Nat)} {K : List (Nat × Array Value)} (l : Log2 w g h W F F' K) {b : Nat} {cs : Array Value} (hp : (b, cs) ∈ K) : Blk W b 32 cs := by
  obtain ⟨_, _, _, _, _, _, k⟩ := l
  exact k _ hp
theorem Log2.left {w W : World} {g h : Nat} {F F' : List (List Nat)} {K : List (Nat × Array Value)} (l : Log2 w g h W F F' K) : ∃ V, LogOf tL W w.heap.size g V F := by
  obtain ⟨V, _, l1, _⟩ := l
  exact ⟨V, l1⟩
theorem Log2.right {w W : World} {g h : Nat} {F F' : List (List Nat)} {K : List (Nat × Array Value)} (l : Log2 w g h W F F' K) : ∃ V, LogOf tR W w.heap.size h V F' := by
  obtain ⟨_, V, _, l1, _⟩ := l
  exact ⟨V, l1⟩
theorem Log2.add {w W : World} {g h : Nat} {F F' : List (List Nat)} {K : List (Nat × Array Value)} (l : Log2 w g h W F F' K) (cs : Array Value) : Log2 w g h (W.alloc (.cells cs 32)) F F' ((W.heap.size, cs) :: K) := by
  obtain ⟨V, V', l1, l2, ap, b, k⟩ := l.new (new_alloc2 W (.cells cs 32))
  refine ⟨V, V', l1, l2, ap, b, fun p hp => ?_⟩
  rcases List.mem_cons.1 hp with rfl | hp
  · exact Blk.new _ _ _
  · exact k p hp
theorem logs_ne {w : World} {b1 b2 g h : Nat} {V V' : Value} {F F' : List (List Nat)} (l1 : LogOf tL w b1 g V F) (l2 : LogOf tR w b2 h V' F') : g ≠ h := by
  rintro rfl
  obtain ⟨_, _, _, _, _, h1, _⟩ := l1
  obtain ⟨_, _, _, _, _, h2, _⟩ := l2
  exact Blk.ne_ h1 h2 (by decide) rfl
/-- What a call at one of two logs answers. -/
def Post2 (v : Value) (w : World) (g h : Nat) (F F' : List (List Nat)) (K : List (Nat × Array Value)) (e : Ending) (W' : World) : Prop :=
  e = .returned v ∧ Log2 w g h W' F F' K
theorem post2_L {w W : World} {g h : Nat} {F F' F2 : List (List Nat)} {K : List (Nat × Array Value)} {v V V' : Value} (hg : w.heap.size ≤ g) (l1 : LogOf tL W w.heap.size g V F) (l2 : LogOf tR W w.heap.size h V' F') (ap : ∀ x ∈ rowT V', V.ownBlock ≠ some x) (b : New w W) (k : ∀ p ∈ K, Blk W p.1 32 p.2) {e : Ending} {W' : World} (p : PostOf tL v w.heap.size g V F2 W e W') : Post2 v w g h F2 F' K e W' := by
  obtain ⟨rfl, V2, l', a, t⟩ := p
  have own := l1.own (B := w.heap.size) (Nat.le_refl _) hg
  exact ⟨rfl, V2, V', l', l2.beside (by decide) (by decide) (by decide) l1 (logs_ne l1 l2).symm (apart_symm ap) t, apart_step ap (fun x hx => (l2.ge x hx).2) a, Turns.below b t own (Nat.le_refl _), fun p hp => (k p hp).touch t (l1.notT (k p hp) (by decide) (by decide))⟩
theorem post2_R {w W : World} {g h : Nat} {F F' F2 : List (List Nat)} {K : List (Nat × Array Value)} {v V V' : Value} (hh : w.heap.size ≤ h) (l1 : LogOf tL W w.heap.size g V F) (l2 : LogOf tR W w.heap.size h V' F') (ap : ∀ x ∈ rowT V', V.ownBlock ≠ some x) (b : New w W) (k : ∀ p ∈ K, Blk W p.1 32 p.2) {e : Ending} {W' : World} (p : PostOf tR v w.heap.size h V' F2 W e W') : Post2 v w g h F F2 K e W' := by
  obtain ⟨rfl, V2, l', a, t⟩ := p
  have own := l2.own (B := w.heap.size) (Nat.le_refl _) hh
  exact ⟨rfl, V, V2, l1.beside (by decide) (by decide) (by decide) l2 (logs_ne l1 l2) ap t, l', apart_symm (apart_step (apart_symm ap) (fun x hx => (l1.ge x hx).2) a), Turns.below b t own (Nat.le_refl _), fun p hp => (k p hp).touch t (l2.notT (k p hp) (by decide) (by decide))⟩

section
variable {w W : World} {g h : Nat} {F F' : List (List Nat)} {K : List (Nat × Array Value)}
theorem leaf_2L (hg : w.heap.size ≤ g) (hC : ConstIn w) (l : Log2 w g h W F F' K) {s d : List Nat} {k n : Int} {A : Option Addr} {c : Nat} (hs8 : ∀ x ∈ s, x < 256) (hs : s.length ≤ 140737488351232) (hd : Reads w w.heap.size 1 A d.length (nums .u8 d)) (hd8 : ∀ x ∈ d, x < 256) (hdl : d.length ≤ 900000) (hdc : d.length ≤ c) (hc : c ≤ 9223372036854775807) (hF : F.length ≤ 1000000) :
    Calls Tryd.prog 15 #[.pointer (some ⟨g, 0, none⟩), .string (bstr s), .int .i64 k, .int .i64 n, .slice A d.length c] W (Post2 (dV (hashN s (leafP k n d))) w g h (F ++ (frameO s (leafP k n d)).toList) F' K) := by
  obtain ⟨V, V', l1, l2, ap, b, kk⟩ := l
  have own := l1.own (B := w.heap.size) (Nat.le_refl _) hg
  have := leaf_any (k := k) (n := n) l1 b.size hF hs8 hs (Reads.later hd b) hd8 hdl hdc hc (fun w' t => hC.new (Turns.below b t own (Nat.le_refl _)))
  rw [dV_hash] at this
  exact this.mono fun _ _ p => post2_L hg l1 l2 ap b kk p
theorem leaf_2R (hh : w.heap.size ≤ h) (l : Log2 w g h W F F' K) {s d : List Nat} {k n : Int} {A : Option Addr} {c : Nat} (hs8 : ∀ x ∈ s, x < 256) (hs : s.length ≤ 140737488351232) (hd : Reads w w.heap.size 1 A d.length (nums .u8 d)) (hd8 : ∀ x ∈ d, x < 256) (hdl : d.length ≤ 900000) (hdc : d.length ≤ c) (hc : c ≤ 9223372036854775807) (hF : F'.length ≤ 1000000) :
    Calls Tryd.prog 16 #[.pointer (some ⟨h, 0, none⟩), .string (bstr s), .int .i64 k, .int .i64 n, .slice A d.length c] W (Post2 (dV (hashN s (leafP k n d))) w g h F (F' ++ (frameO s (leafP k n d)).toList) K) := by
  obtain ⟨V, V', l1, l2, ap, b, kk⟩ := l
  have own := l2.own (B := w.heap.size) (Nat.le_refl _) hh
  have := rleaf_any (k := k) (n := n) l2 b.size hF hs8 hs (Reads.later hd b) (fun h0 ad e hm => by
    obtain ⟨ad', e', hlt, _⟩ := hd.2 h0
    rw [e] at e'
    injection e' with e'
    subst e'
    have := own _ hm
    omega) hd8 hdl hdc hc
  rw [dV_hash] at this
  exact this.mono fun _ _ p => post2_R hh l1 l2 ap b kk p
theorem node_2L (hg : w.heap.size ≤ g) (hC : ConstIn w) (l : Log2 w g h W F F' K) {x y : List Nat} (hx : DigN x) (hy : DigN y) (hF : F.length ≤ 1000000) :
    Calls Tryd.prog 17 #[.pointer (some ⟨g, 0, none⟩), dV x, dV y] W (Post2 (dV (hashN nodeTag [x, y])) w g h (F ++ [frameL nodeTag [x, y]]) F' K) := by
  obtain ⟨V, V', l1, l2, ap, b, kk⟩ := l
  have own := l1.own (B := w.heap.size) (Nat.le_refl _) hg
  exact (node_any l1 b.size hF hx hy (fun w' t => hC.new (Turns.below b t own (Nat.le_refl _)))).mono fun _ _ p => post2_L hg l1 l2 ap b kk p
theorem node_2R (hh : w.heap.size ≤ h) (l : Log2 w g h W F F' K) {x y : List Nat} (hx : DigN x) (hy : DigN y) (hF : F'.length ≤ 1000000) :
    Calls Tryd.prog 18 #[.pointer (some ⟨h, 0, none⟩), dV x, dV y] W (Post2 (dV (hashN nodeTag [x, y])) w g h F (F' ++ [frameL nodeTag [x, y]]) K) := by
  obtain ⟨V, V', l1, l2, ap, b, kk⟩ := l
  exact (rnode_any l2 b.size hF hx hy).mono fun _ _ p => post2_R hh l1 l2 ap b kk p
theorem root_2L (hg : w.heap.size ≤ g) (hC : ConstIn w) (l : Log2 w g h W F F' K) {A : Option Addr} {c : Nat} {L : List (List Nat)} (hr : Reads w w.heap.size 32 A L.length (recs digC L)) (hd : Digs L) (hc : L.length ≤ c) (hcm : c ≤ 9223372036854775807) (hF : F.length + L.length ≤ 900000) :
    Calls Tryd.prog 19 #[.pointer (some ⟨g, 0, none⟩), .slice A L.length c] W (Post2 (dV (rootD L).1) w g h (F ++ (rootD L).2) F' K) := by
  obtain ⟨V, V', l1, l2, ap, b, kk⟩ := l
  have own := l1.own (B := w.heap.size) (Nat.le_refl _) hg
  exact (root_any (L.length + 1) (by omega) l1 b.size hF (leafIn_of hr hd b own) hc hcm (fun w' t => hC.new (Turns.below b t own (Nat.le_refl _)))).mono fun _ _ p => post2_L hg l1 l2 ap b kk p
theorem root_2R (hh : w.heap.size ≤ h) (l : Log2 w g h W F F' K) {A : Option Addr} {c : Nat} {L : List (List Nat)} (hr : Reads w w.heap.size 32 A L.length (recs digC L)) (hd : Digs L) (hc : L.length ≤ c) (hcm : c ≤ 9223372036854775807) (hF : F'.length + L.length ≤ 900000) :
    Calls Tryd.prog 20 #[.pointer (some ⟨h, 0, none⟩), .slice A L.length c] W (Post2 (dV (rootD L).1) w g h F (F' ++ (rootD L).2) K) := by
  obtain ⟨V, V', l1, l2, ap, b, kk⟩ := l
  have own := l2.own (B := w.heap.size) (Nat.le_refl _) hh
  exact (rroot_any (L.length + 1) (by omega) l2 b.size hF (leafIn_of hr hd b own) hc hcm).mono fun _ _ p => post2_R hh l1 l2 ap b kk p
end

end Go.Proofs.YtgfemjpeegbhhaaDoor
/- More parameters taken apart. No program is named here. -/

namespace Go.Hm
open Go Go.RowKit Go.WideShapes Go.ChangeShapes
variable {H : Type} {enc : TypeId × Value → H} {P : Program} {w : World} {base : Nat} {spare : Nat → Bool} {held : Bool}
theorem trodAll_eight {t0 t1 t2 t3 t4 t5 t6 t7 : TypeId} {args : Array Value} {ds : List (DataW H)} {ps : List MemPlace} (h : DataW.TrodAll enc P w base spare held [t0, t1, t2, t3, t4, t5, t6, t7] args.toList ds ps) :
    ∃ v0 v1 v2 v3 v4 v5 v6 v7 d0 d1 d2 d3 d4 d5 d6 d7 p0 p1 p2 p3 p4 p5 p6 p7, args = #[v0, v1, v2, v3, v4, v5, v6, v7] ∧ ds = [d0, d1, d2, d3, d4, d5, d6, d7] ∧ ps = p0 ++ (p1 ++ (p2 ++ (p3 ++ (p4 ++ (p5 ++ (p6 ++ p7)))))) ∧ DataW.Trod enc P w base spare held t0 v0 d0 p0 ∧ DataW.Trod enc P w base spare held t1 v1 d1 p1 ∧ DataW.Trod enc P w base spare held t2 v2 d2 p2 ∧ DataW.Trod enc P w base spare held t3 v3 d3 p3 ∧ DataW.Trod enc P w base spare held t4 v4 d4 p4 ∧ DataW.Trod enc P w base spare held t5 v5 d5 p5 ∧ DataW.Trod enc P w base spare held t6 v6 d6 p6 ∧ DataW.Trod enc P w base spare held t7 v7 d7 p7 := by
  obtain ⟨v0, r0, d0, e0, p0, q0, ha, rfl, rfl, h0, h'⟩ := trodAll_cons h
  obtain ⟨v1, r1, d1, e1, p1, q1, rfl, rfl, rfl, h1, h'⟩ := trodAll_cons h'
  obtain ⟨v2, r2, d2, e2, p2, q2, rfl, rfl, rfl, h2, h'⟩ := trodAll_cons h'
  obtain ⟨v3, r3, d3, e3, p3, q3, rfl, rfl, rfl, h3, h'⟩ := trodAll_cons h'
  obtain ⟨v4, r4, d4, e4, p4, q4, rfl, rfl, rfl, h4, h'⟩ := trodAll_cons h'
  obtain ⟨v5, r5, d5, e5, p5, q5, rfl, rfl, rfl, h5, h'⟩ := trodAll_cons h'
  obtain ⟨v6, r6, d6, e6, p6, q6, rfl, rfl, rfl, h6, h'⟩ := trodAll_cons h'
  obtain ⟨v7, r7, d7, e7, p7, q7, rfl, rfl, rfl, h7, h'⟩ := trodAll_cons h'
  obtain ⟨rfl, rfl, rfl⟩ := trodAll_nil h'
  exact ⟨v0, v1, v2, v3, v4, v5, v6, v7, d0, d1, d2, d3, d4, d5, d6, d7, p0, p1, p2, p3, p4, p5, p6, p7, args_eq ha, rfl, by simp, h0, h1, h2, h3, h4, h5, h6, h7⟩

end Go.Hm
/- A region that draws its order, where sometimes two operations are ready that make memory: a plan of all ways. No program is named here. -/

namespace Go.Hm
open Go Go.RowKit
/-- How a region is gone through: what only reads first; one alone; or either of two. -/
inductive Plan where
  | done
  | quiet (i : Nat) (p : Plan)
  | alone (i : Nat) (p : Plan)
  | two (i : Nat) (p : Plan) (j : Nat) (q : Plan)

section
variable {P : Program} {ops : Array Oper} {Q : Exit → Act → World → Prop}
def Plan.ok (ops : Array Oper) : Array Bool → Plan → Bool
  | listed, .done => (Region.ready .any ops listed).isEmpty
  | listed, .quiet i p => (Region.ready .any ops listed).contains i && (Region.free .any ops listed i && p.ok ops (listed.setIfInBounds i true))
  | listed, .alone i p => decide (Region.ready .any ops listed = [i]) && p.ok ops (listed.setIfInBounds i true)
  | listed, .two i p j q => decide (Region.ready .any ops listed = [i, j]) && (p.ok ops (listed.setIfInBounds i true) && q.ok ops (listed.setIfInBounds j true))
def Plan.size : Plan → Nat
  | .done => 0
  | .quiet _ p => p.size + 1
  | .alone _ p => p.size + 1
  | .two _ p _ q => Nat.max p.size q.size + 1
/-- An operation that may make or turn memory, and what comes behind it. -/
def planOp (P : Program) (ops : Array Oper) (R : World → World → Prop) (Q : Exit → Act → World → Prop) (i : Nat) (K : Act → World → Prop) (a : Act) (w : World) : Prop :=
  ∃ o, ops[i]? = some o ∧ if Region.wanted o (yielded ops a.tmps) then o.wp P a w (fun a' w' => R w w' ∧ K a' w') (NoPanic Q) else K (a.put o.dst undef) w
def wpPlan (P : Program) (ops : Array Oper) (R : World → World → Prop) (Q : Exit → Act → World → Prop) : Plan → Act → World → Prop
  | .done, a, w => Q .normal a w
  | .quiet i p, a, w => ∃ o v, ops[i]? = some o ∧ ((Region.wanted o (yielded ops a.tmps) = true ∧ ∀ w', R w w' → (execOp a.eval o).run P w' = .ok (.value v) w') ∨ (Region.wanted o (yielded ops a.tmps) = false ∧ v = undef)) ∧ wpPlan P ops R Q p (a.put o.dst v) w
  | .alone i p, a, w => planOp P ops R Q i (wpPlan P ops R Q p) a w
  | .two i p j q, a, w => planOp P ops R Q i (wpPlan P ops R Q p) a w ∧ planOp P ops R Q j (wpPlan P ops R Q q) a w
variable {R : World → World → Prop}
theorem wpAnyH_of_plan (hrefl : ∀ w, R w w) (htrans : ∀ {x y z}, R x y → R y z → R x z) (hs : Region.noSelect ops = true) :
    ∀ (p : Plan) (fuel : Nat) (listed : Array Bool) (a : Act) (w : World), p.size ≤ fuel → p.ok ops listed = true → wpPlan P ops R Q p a w → wpAnyH P .any ops (NoPanic Q) (R w) fuel listed a w := by
  have key : ∀ (p : Plan), (∀ (fuel : Nat) (listed : Array Bool) (a : Act) (w : World), p.size ≤ fuel → p.ok ops listed = true → wpPlan P ops R Q p a w → wpAnyH P .any ops (NoPanic Q) (R w) fuel listed a w) →
      ∀ (j : Nat) (fuel : Nat) (listed : Array Bool) (a : Act) (w : World), p.size ≤ fuel → p.ok ops (listed.setIfInBounds j true) = true → planOp P ops R Q j (wpPlan P ops R Q p) a w →
        wpOp P ops (NoPanic Q) j (fun a' w' => R w w' ∧ wpAnyH P .any ops (NoPanic Q) (R w) fuel (listed.setIfInBounds j true) a' w') a w := by
    intro p ih j fuel listed a w hl h3 hc
    obtain ⟨o, ho, hc⟩ := hc
    unfold wpOp
    simp only [ho]
    split
    · rename_i hw
      rw [if_pos hw] at hc
      exact .inl (Oper.wp_mono (fun a' w' hh => ⟨hh.1, wpAnyH_weaken (fun z hz => htrans hh.1 hz) fuel _ a' w' (ih fuel _ a' w' hl h3 hh.2)⟩) hc)
    · rename_i hw
      rw [if_neg hw] at hc
      exact ⟨hrefl w, ih fuel _ _ w hl h3 hc⟩
  intro p
  induction p with
  | done =>
    intro fuel listed a w _ hok h
    exact wpAnyH_done (by simpa [Plan.ok] using hok) (NoPanic.normal h) fuel
  | quiet i p ih =>
    intro fuel listed a w hl hok h
    obtain ⟨fuel, rfl⟩ : ∃ k, fuel = k + 1 := ⟨fuel - 1, by simp [Plan.size] at hl; omega⟩
    obtain ⟨o, v, ho, hv, hr⟩ := h
    simp only [Plan.ok, Bool.and_eq_true] at hok
    obtain ⟨h1, h2, h3⟩ := hok
    exact wpAnyH_take ho hs h2 h1 (fun _ _ _ hp => hp) hv (hrefl w) (ih fuel _ _ w (by simp [Plan.size] at hl; omega) h3 hr)
  | alone i p ih =>
    intro fuel listed a w hl hok h
    obtain ⟨fuel, rfl⟩ : ∃ k, fuel = k + 1 := ⟨fuel - 1, by simp [Plan.size] at hl; omega⟩
    simp only [Plan.ok, Bool.and_eq_true, decide_eq_true_eq] at hok
    obtain ⟨h1, h3⟩ := hok
    refine wpAnyH_all h1 (by simp) ?_
    intro j hj
    obtain rfl : j = i := by simpa using hj
    exact key p ih j fuel listed a w (by simp [Plan.size] at hl; omega) h3 h
  | two i p j q ihp ihq =>
    intro fuel listed a w hl hok h
    obtain ⟨fuel, rfl⟩ : ∃ k, fuel = k + 1 := ⟨fuel - 1, by simp [Plan.size] at hl; omega⟩
    simp only [Plan.ok, Bool.and_eq_true, decide_eq_true_eq] at hok
    obtain ⟨h1, h3, h4⟩ := hok
    have hl' : Nat.max p.size q.size ≤ fuel := by simp [Plan.size] at hl; exact hl
    refine wpAnyH_all h1 (by simp) ?_
    intro k hk
    have hk : k = i ∨ k = j := by simpa using hk
    rcases hk with rfl | rfl
    · exact key p ihp k fuel listed a w (Nat.le_trans (Nat.le_max_left _ _) hl') h3 h.1
    · exact key q ihq k fuel listed a w (Nat.le_trans (Nat.le_max_right _ _) hl') h4 h.2
theorem wp_region_plan {id : Nat} {a : Act} {w : World} (R : World → World → Prop) (p : Plan) (hrefl : ∀ w, R w w) (htrans : ∀ {x y z}, R x y → R y z → R x z) (hm : P.follows .mixedOrders = true)
    (hs : Region.noSelect ops = true) (hl : decide (p.size ≤ ops.size) = true) (hok : p.ok ops (Array.replicate ops.size false) = true) (h : wpPlan P ops R Q p a w.drew) : (Code.region id ops true).wp P Q a w :=
  wp_region_noPanic (wp_region_held hm (wpAnyH_of_plan hrefl htrans hs p ops.size _ a _ (by simpa using hl) hok h))
variable {i j : Nat} {p q : Plan} {a : Act} {w : World} {v : Value}
theorem plan_done (h : Q .normal a w) : wpPlan P ops R Q .done a w := h

section
variable {dst : Option Tmp} {op : Op} {ty : TypeId} {pos : String} {af : Array Edge} {gd : Option (Nat × Bool)}
theorem plan_quiet (ho : ops[i]? = some ⟨dst, op, ty, pos, af, gd⟩) (hw : Region.wanted ⟨dst, op, ty, pos, af, gd⟩ (yielded ops a.tmps) = true) (hv : ∀ w', R w w' → (execOp a.eval ⟨dst, op, ty, pos, af, gd⟩).run P w' = .ok (.value v) w') (h : wpPlan P ops R Q p (a.put dst v) w) : wpPlan P ops R Q (.quiet i p) a w :=
  ⟨_, v, ho, .inl ⟨hw, hv⟩, h⟩
theorem plan_op {K0 : Act → World → Prop} (ho : ops[i]? = some ⟨dst, op, ty, pos, af, gd⟩) (hw : Region.wanted ⟨dst, op, ty, pos, af, gd⟩ (yielded ops a.tmps) = true) (h : ∀ K : Act → World → Prop, (∀ a' w', R w w' → K0 a' w' → K a' w') → Oper.wp P ⟨dst, op, ty, pos, af, gd⟩ a w K (NoPanic Q)) : planOp P ops R Q i K0 a w :=
  ⟨_, ho, by rw [if_pos hw]; exact h _ fun _ _ h1 h2 => ⟨h1, h2⟩⟩
theorem plan_alone (h : planOp P ops R Q i (wpPlan P ops R Q p) a w) : wpPlan P ops R Q (.alone i p) a w := h
theorem plan_two (h : planOp P ops R Q i (wpPlan P ops R Q p) a w) (h2 : planOp P ops R Q j (wpPlan P ops R Q q) a w) : wpPlan P ops R Q (.two i p j q) a w := ⟨h, h2⟩
end
end

end Go.Hm
