/- Texts merged, for a claim has at most 60 files: Small02, LawC, Const, OpenT, Open02, TagW, Plan. -/
import Derived.Deep.Fields
import Derived.Deep.Slices
import Derived.LaidHandle
import Derived.LaidLaws
import Derived.LaidMore
import Derived.Lib.SmallJoins
import Derived.OpenShut
import Derived.ProofKit
import Derived.Stop.Joined
import Derived.Test.YtlfnhbnaegihfaaDoorBun1
import Derived.Test.YtlfnhbnaegihfaaDoorBun2
import Derived.Test.YtlfnhbnaegihfaaDoorBun3
import Derived.Test.YtlfnhbnaegihfaaDoorBun5
import Derived.Test.YtlfnhbnaegihfaaDoorRows
/- The small case of layer 2's statements. -/

namespace Go.Hm
open Go Go.RowKit
theorem Reads.litM2 (w : World) (e : TypeId) (fr : Nat × Nat) (cs : Array Value) (n : Nat) (xs : List Value) (h : cs.toList = xs) (hn : n = xs.length) : Reads (w.alloc (.cells cs e fr)) (w.alloc (.cells cs e fr)).heap.size 1 (some ⟨w.heap.size, 0, none⟩) n xs := by
  subst hn
  refine ⟨by simp, fun _ => ⟨_, rfl, by simp, ?_⟩⟩
  have := World.news_of_block (heap_alloc_new w (.cells cs e fr))
  rwa [h] at this
theorem new_alloc (w : World) (o : Obj) : New w (w.alloc o) := (Below.refl _ _).alloc (Nat.le_refl _) _
theorem rows_lit (w : World) (x : Nat) (e1 e2 : TypeId) : RowsAt ((w.alloc (.cells #[.int .u8 (x : Int)] e1 (1, 2))).alloc (.cells #[.slice (some ⟨w.heap.size, 0, none⟩) 1 1] e2)) (some ⟨w.heap.size + 1, 0, none⟩) 1 1 [(some ⟨w.heap.size, 0, none⟩, 1, [x])] := by
  have h1 := Reads.litM2 w e1 (1, 2) #[.int .u8 (x : Int)] 1 (nums .u8 [x]) rfl rfl
  have h2 := Reads.litM2 (w.alloc (.cells #[.int .u8 (x : Int)] e1 (1, 2))) e2 (0, 0) #[.slice (some ⟨w.heap.size, 0, none⟩) 1 1] 1 (recs partV [(some ⟨w.heap.size, 0, none⟩, 1, [x])]) rfl rfl
  rw [show (w.alloc (.cells #[.int .u8 (x : Int)] e1 (1, 2))).heap.size = w.heap.size + 1 by simp] at h2
  refine ⟨h2, fun d hd => ?_, Nat.le_refl _⟩
  obtain rfl := List.mem_singleton.1 hd
  exact ⟨Reads.later h1 (new_alloc _ _), Nat.le_refl _, by show (1 : Nat) ≤ _; omega⟩
theorem rows_none (w : World) : RowsAt w none 0 0 [] := ⟨Reads.none_, (fun _ hd => nomatch hd), Nat.le_refl _⟩
theorem run_idB {P : Program} (w : World) (t e : TypeId) (x : Int) (g : Nat) (hg : g = w.heap.size) (ht : P.underlying t = some (.slice e)) (he : P.underlying e = some (.int .u8)) :
    (convert t t (.slice (some ⟨g, 0, none⟩) 1 1)).run P (w.alloc (.cells #[.int .u8 x] e)) = .ok (.slice (some ⟨g, 0, none⟩) 1 1) (w.alloc (.cells #[.int .u8 x] e (1, 2))) := Joins.run_convert_bytes_const_at w t e _ 1 1 g hg ht he
theorem ConstIn.turn {W w w' : World} {T : List Nat} (hC : ConstIn W) (b : New W w) (k : Turns T w w') (hT : ∀ x ∈ T, W.heap.size ≤ x) : ConstIn w' := hC.new (Turns.below b k hT (Nat.le_refl _))
theorem below_mark {B : Nat} (w : World) (cs : Array Value) (e : TypeId) (fr : Nat × Nat) (hB : B ≤ w.heap.size) : Below B (w.alloc (.cells cs e)) (w.alloc (.cells cs e fr)) :=
  ⟨rfl, rfl, rfl, by simp, fun k hk => (Below.heap_alloc w _ k (Nat.lt_of_lt_of_le hk hB)).trans (Below.heap_alloc w _ k (Nat.lt_of_lt_of_le hk hB)).symm⟩

section
variable {P : Program} {w : World} {a : Act} {dst : Option Tmp} {tt : TypeId} {pos : String} {af : Array Edge} {gd : Option (Nat × Bool)}
theorem exec_agg {t t2 : TypeId} {x y : Operand} {v : Value} {xs ys : Array Value} (hx : a.eval x = .agg xs) (hy : a.eval y = .agg ys) (hm : P.eqGuardType P.depth t = false) (hv : (binOp .eql t (.agg xs) (.agg ys)).run P w = .ok v w) : (execOp a.eval ⟨dst, .binOp .eql t x y t2, tt, pos, af, gd⟩).run P w = .ok (.value v) w := by
  unfold execOp
  simp only [hx, hy, Sem.run_bind, run_eqGuard_agg (hm := hm), hv, Result.andThen_ok, Sem.run_pure]
end
def f97 : List Nat := [1, 116, 1, 1, 0, 0, 0, 0, 0, 0, 0, 97]
def f98 : List Nat := [1, 116, 1, 1, 0, 0, 0, 0, 0, 0, 0, 98]
theorem frame97 : frameO [116] [[97]] = some f97 := by decide
theorem frame98 : frameO [116] [[98]] = some f98 := by decide
theorem frame00 : frameO [] [] = none := by decide
theorem parse97 : parseO f97 = some ([116], [[97]]) := parse_frame (by simp) frame97
set_option maxRecDepth 100000 in
theorem sum_97 : (sumI f97).getD 0 0 ≠ (sumI f98).getD 0 0 := by decide +kernel
theorem extract97 : extractO [f97] [f98] = none := by
  have h : ¬ (f97 ≠ f98 ∧ sumI f97 = sumI f98) := fun h => sum_97 (by rw [h.2])
  simp [extractO, h]
theorem hash97 : hashO [116] [[97]] = sumI f97 := by unfold hashO; rw [frame97]; rfl
theorem hash98 : hashO [116] [[98]] = sumI f98 := by unfold hashO; rw [frame98]; rfl
theorem hash00 : hashO [] [] = zero32 := by unfold hashO; rw [frame00]; rfl

end Go.Hm

namespace Go.Proofs.YtlfnhbnaegihfaaDoor
open Go.RowKit Go.Hm
theorem LogAt.made (w : World) (base : Nat) : LogAt (w.alloc (.cells #[.slice none 0 0] 54)) base w.heap.size (.slice none 0 0) [] := ⟨none, 0, 0, [], rfl, Blk.new _ _ _, Own.nil_, (fun _ hd => nomatch hd), rfl⟩
set_option maxHeartbeats 4000000 in
set_option maxRecDepth 100000 in
theorem lit97 {w : World} {Q : List PartS → Prop} (h : Q [((some ⟨w.heap.size, 0, none⟩ : Option Addr), 1, [97])]) : ∃ D : List PartS, bytesOf D = [[97]] ∧ Q D := ⟨_, rfl, h⟩
theorem frame97_any (w : World) : Calls Tryd.prog 11 #[.string ⟨#[116]⟩, .slice (some ⟨w.heap.size + 1, 0, none⟩) 1 1] ((w.alloc (.cells #[.int .u8 97] 5 (1, 2))).alloc (.cells #[.slice (some ⟨w.heap.size, 0, none⟩) 1 1] 23)) (OptB (some f97) ((w.alloc (.cells #[.int .u8 97] 5 (1, 2))).alloc (.cells #[.slice (some ⟨w.heap.size, 0, none⟩) 1 1] 23))) := by
  have F1 := frame_any (s := [116]) (rows_lit w 97 5 23) (by omega) (by simp) (by simp) (by simp [bytesOf, tsum])
  rw [show bytesOf [((some ⟨w.heap.size, 0, none⟩ : Option Addr), 1, [97])] = [[97]] from rfl, frame97] at F1
  exact F1
theorem frame00_any (w : World) : Calls Tryd.prog 11 #[.string ⟨#[]⟩, .slice none 0 0] w (OptB none w) := by
  have F1 := frame_any (s := []) (rows_none w) (by omega) (by simp) (by simp) (by simp [bytesOf, tsum])
  rw [show bytesOf [] = [] from rfl, frame00] at F1
  exact F1
theorem hash97_any (w : World) (hC : ConstIn w) : Calls Tryd.prog 16 #[.string ⟨#[116]⟩, .slice (some ⟨w.heap.size + 1, 0, none⟩) 1 1] ((w.alloc (.cells #[.int .u8 97] 5 (1, 2))).alloc (.cells #[.slice (some ⟨w.heap.size, 0, none⟩) 1 1] 23)) (NewPost (digV (sumI f97)) ((w.alloc (.cells #[.int .u8 97] 5 (1, 2))).alloc (.cells #[.slice (some ⟨w.heap.size, 0, none⟩) 1 1] 23))) := by
  have F1 := hash_any (s := [116]) (rows_lit w 97 5 23) (by omega) (by simp) (by simp) (by simp [bytesOf, tsum]) (by simp [bytesOf]) (hC.new (New.trans (new_alloc _ _) (new_alloc _ _)))
  rw [show bytesOf [((some ⟨w.heap.size, 0, none⟩ : Option Addr), 1, [97])] = [[97]] from rfl, hash97] at F1
  exact F1
theorem hash00_any (w : World) (hC : ConstIn w) : Calls Tryd.prog 16 #[.string ⟨#[]⟩, .slice none 0 0] w (NewPost (digV zero32) w) := by
  have F1 := hash_any (s := []) (rows_none w) (by omega) (by simp) (by simp) (by simp [bytesOf, tsum]) (by simp [bytesOf]) hC
  rw [show bytesOf [] = [] from rfl, hash00] at F1
  exact F1
theorem lhash97_any (w : World) (g : Nat) (hL : LogAt w 0 g (.slice none 0 0) []) (hC2 : ∀ w' w'', New w w' → Turns [g] w' w'' → ConstIn w'') : Calls Tryd.prog 19 #[.pointer (some ⟨g, 0, none⟩), .string ⟨#[116]⟩, .slice (some ⟨w.heap.size + 1, 0, none⟩) 1 1] ((w.alloc (.cells #[.int .u8 97] 5 (1, 2))).alloc (.cells #[.slice (some ⟨w.heap.size, 0, none⟩) 1 1] 23)) (LogPost (digV (sumI f97)) 0 g (.slice none 0 0) [f97] ((w.alloc (.cells #[.int .u8 97] 5 (1, 2))).alloc (.cells #[.slice (some ⟨w.heap.size, 0, none⟩) 1 1] 23))) := by
  have F1 := lhash_any (s := [116]) (hL.new (New.trans (new_alloc _ (.cells #[.int .u8 ((97 : Nat) : Int)] 5 (1, 2))) (new_alloc _ (.cells #[.slice (some ⟨w.heap.size, 0, none⟩) 1 1] 23)))) (Nat.zero_le _) (by simp) (rows_lit w 97 5 23) (by omega) (by simp) (by simp) (by simp [bytesOf, tsum]) (by simp [bytesOf]) (fun w' h => hC2 _ w' (New.trans (new_alloc _ _) (new_alloc _ _)) h)
  rw [show bytesOf [((some ⟨w.heap.size, 0, none⟩ : Option Addr), 1, [97])] = [[97]] from rfl, hash97, frame97] at F1
  exact F1
theorem lhash98_any (w : World) (g : Nat) (hL : LogAt w 0 g (.slice none 0 0) []) (hC2 : ∀ w' w'', New w w' → Turns [g] w' w'' → ConstIn w'') : Calls Tryd.prog 19 #[.pointer (some ⟨g, 0, none⟩), .string ⟨#[116]⟩, .slice (some ⟨w.heap.size + 1, 0, none⟩) 1 1] ((w.alloc (.cells #[.int .u8 98] 5 (1, 2))).alloc (.cells #[.slice (some ⟨w.heap.size, 0, none⟩) 1 1] 23)) (LogPost (digV (sumI f98)) 0 g (.slice none 0 0) [f98] ((w.alloc (.cells #[.int .u8 98] 5 (1, 2))).alloc (.cells #[.slice (some ⟨w.heap.size, 0, none⟩) 1 1] 23))) := by
  have F1 := lhash_any (s := [116]) (hL.new (New.trans (new_alloc _ (.cells #[.int .u8 ((98 : Nat) : Int)] 5 (1, 2))) (new_alloc _ (.cells #[.slice (some ⟨w.heap.size, 0, none⟩) 1 1] 23)))) (Nat.zero_le _) (by simp) (rows_lit w 98 5 23) (by omega) (by simp) (by simp) (by simp [bytesOf, tsum]) (by simp [bytesOf]) (fun w' h => hC2 _ w' (New.trans (new_alloc _ _) (new_alloc _ _)) h)
  rw [show bytesOf [((some ⟨w.heap.size, 0, none⟩ : Option Addr), 1, [98])] = [[98]] from rfl, hash98, frame98] at F1
  exact F1
set_option maxHeartbeats 4000000 in
set_option maxRecDepth 100000 in
theorem small02_any (w : World) (hC : ConstIn w) : Calls Tryd.prog 9 #[] w (NewPost (.bool true) w) := by
  have HC := Lib.hid hC
  have k1 := run_idB (P := Tryd.prog) w 23 5 97 w.heap.size rfl elB.ht (by kernel_rfl)
  have c1 : New w ((w.alloc (.cells #[.int .u8 97] 5 (1, 2))).alloc (.cells #[.slice (some ⟨w.heap.size, 0, none⟩) 1 1] 23)) := New.trans (new_alloc _ _) (new_alloc _ _)
  have F1 := Lib.hid (frame97_any w)
  have C1 := Lib.hid c1
  clear c1 hC
  go_enter Tryd.func9, Tryd.ntmps9
  go_wp2_with fail
  refine F1.out.mono ?_
  rintro e w1 hf
  obtain ⟨A1, n1, c1, rfl, o1, b1⟩ := hf.u
  obtain rfl : n1 = 12 := by have := o1.len; rwa [nums_length] at this
  have O1 := Lib.hid (show Own w1 _ 5 (.slice A1 12 c1) (nums .u8 f97) from o1)
  have B1 := Lib.hid (New.trans C1.out b1)
  have P1 := parse_any (c := c1) O1.out.reads (by decide) O1.out.cap.1 (by omega)
  rw [parse97] at P1
  have P1 := Lib.hid P1
  have F2 := Lib.hid (frame00_any)
  clear o1 b1 C1 F1 k1 hf
  go_wp2_with fail
  refine P1.out.mono ?_
  rintro e w2 hp
  obtain ⟨A2, n2, c2, D2, rfl, R2, hb2, b2⟩ := hp
  obtain rfl : n2 = 1 := by rw [R2.len, ← bytesOf_len, hb2]; rfl
  have HB2 := Lib.hid hb2
  have R2 := Lib.hid R2
  have B2 := Lib.hid (New.trans B1.out b2)
  have O2 := Lib.hid (O1.out.later b2)
  clear hb2 b2 P1 O1
  go_wp2_with fail
  refine (F2.out w2).mono ?_
  rintro e w3 hf
  obtain ⟨rfl, b3⟩ := hf
  have R3 := Lib.hid (R2.out.later b3)
  have B3 := Lib.hid (New.trans B2.out b3)
  have O3 := Lib.hid (O2.out.later b3)
  clear b3 O2 R2 B2 B1 F2
  go_wp2_with fail
  refine new_any.mono ?_
  rintro e w4 ⟨rfl, rfl⟩
  go_wp2_with fail
  refine new_any.mono ?_
  rintro e w5 ⟨rfl, rfl⟩
  have l1 := (LogAt.made w3 0).new (new_alloc _ (.cells #[.slice none 0 0] 54))
  have l2 := LogAt.made (w3.alloc (.cells #[.slice none 0 0] 54)) 0
  have hz : (w3.alloc (.cells #[.slice none 0 0] 54)).heap.size = w3.heap.size + 1 := by simp
  rw [hz] at l2
  obtain ⟨w5, hw5⟩ : ∃ W, W = (w3.alloc (.cells #[.slice none 0 0] 54)).alloc (.cells #[.slice none 0 0] 54) := ⟨_, rfl⟩
  have b5 : New w3 w5 := by rw [hw5]; exact New.trans (new_alloc _ _) (new_alloc _ _)
  rw [← hw5] at l1 l2
  rw [← hw5, hz]
  have hgw : w.heap.size ≤ w3.heap.size := B3.out.size
  obtain ⟨g, hg⟩ : ∃ g, g = w3.heap.size := ⟨_, rfl⟩
  rw [← hg] at l1 l2 hgw ⊢
  have HG3 := Lib.hid hg
  have N5 := Lib.hid b5
  clear hw5 hz hg
  have L1 := Lib.hid l1
  have L2 := Lib.hid l2
  have B5 := Lib.hid (New.trans B3.out b5)
  have LH1 := Lib.hid (lhash97_any w5 g l1 (fun w' w'' hb ht => HC.out.turn (New.trans B5.out hb) ht (by intro x hx; simp at hx; omega)))
  have k2 := run_idB (P := Tryd.prog) w5 23 5 97 w5.heap.size rfl elB.ht (by kernel_rfl)
  clear l1 l2 b5 B3
  go_wp2_with fail
  refine LH1.out.mono ?_
  rintro e w6 ⟨rfl, V1, L1', _, t1⟩
  have c5 : New w5 ((w5.alloc (.cells #[.int .u8 97] 5 (1, 2))).alloc (.cells #[.slice (some ⟨w5.heap.size, 0, none⟩) 1 1] 23)) := New.trans (new_alloc _ _) (new_alloc _ _)
  have B6 := Lib.hid (t1.below (New.trans B5.out c5) (by intro x hx; simp [rowT, Value.ownBlock] at hx; omega) (Nat.le_refl _))
  have N6 := Lib.hid (t1.below (New.trans N5.out c5) (by intro x hx; simp [rowT, Value.ownBlock] at hx; have := HG3.out; omega) (Nat.le_refl _))
  have L2' := (L2.out.new c5).turn t1 (by simp [rowT, Value.ownBlock]) (by simp [Value.ownBlock]) (by
    intro x hx _ cs hB
    simp [rowT, Value.ownBlock] at hx
    subst hx
    obtain ⟨A, n, c, D, _, hg, _⟩ := L1.out.new c5
    exact Blk.ne_ hg hB (by decide) rfl)
  obtain ⟨cs, hcs⟩ : ∃ cs, cs = (ints .u8 (sumI f97)).toArray := ⟨_, rfl⟩
  have hdv : digV (sumI f97) = .agg cs := by rw [hcs]; rfl
  have HV := Lib.hid hdv
  have D0 := Lib.hid (i32d (sumI_len2 f97))
  have HSZ := Lib.hid (show (ints .u8 zero32).toArray.size = (ints .u8 (sumI f97)).toArray.size by simp [ints, zero32, sumI_len2])
  have ON := Lib.hid (ints_one .u8 (sumI f97))
  have EQ := eqDig2 f97 f97
  rw [show (sumI f97 == sumI f97) = true by simp] at EQ
  rw [← hcs] at D0 HSZ ON EQ
  rw [hdv]
  have HEQ := Lib.hid EQ
  have HCS := Lib.hid hcs
  have k3 := run_idB (P := Tryd.prog) (w6.alloc (.cells cs 33)) 23 5 98 (w6.heap.size + 1) (by simp) elB.ht (by kernel_rfl)
  clear k2 LH1 t1 c5 hdv hcs EQ L1 L2
  go_wp2_with (first | (refine wpList_store_row rfl 33 (.tmp 10) (.tmp 48) rfl w6.heap.size cs rfl rfl _ _ (heap_alloc_new _ _) D0.out HSZ.out ON.out ?_; rw [alloc_setRow]) | fail)
  obtain ⟨w7, hw7⟩ : ∃ W, W = w6.alloc (.cells cs 33) := ⟨_, rfl⟩
  have c7 : New w6 w7 := by rw [hw7]; exact new_alloc _ _
  have G7 : Blk w7 w6.heap.size 33 cs := by rw [hw7]; exact Blk.new _ _ _
  have z7 : w7.heap.size = w6.heap.size + 1 := by rw [hw7]; simp
  rw [← hw7, ← z7]
  clear z7
  generalize w6.heap.size = gd at *
  have B7 := Lib.hid (New.trans B6.out c7)
  have N7 := Lib.hid (New.trans N6.out c7)
  have L1 := Lib.hid (L1'.new c7)
  have l2 := L2'.new c7
  have L2 := Lib.hid l2
  have HG7 := Lib.hid G7
  have LH2 := Lib.hid (lhash98_any w7 (g + 1) l2 (fun w' w'' hb ht => HC.out.turn (New.trans B7.out hb) ht (by intro x hx; simp at hx; omega)))
  clear hw7 c7 G7 L1' L2' l2 HSZ ON k3
  refine LH2.out.mono ?_
  rintro e w8 ⟨rfl, V2, L2', _, t2⟩
  have c8 : New w7 ((w7.alloc (.cells #[.int .u8 98] 5 (1, 2))).alloc (.cells #[.slice (some ⟨w7.heap.size, 0, none⟩) 1 1] 23)) := New.trans (new_alloc _ _) (new_alloc _ _)
  have b8 := t2.below (New.trans B7.out c8) (by intro x hx; simp [rowT, Value.ownBlock] at hx; omega) (Nat.le_refl _)
  have B8 := Lib.hid b8
  have N8 := Lib.hid (t2.below (New.trans N7.out c8) (by intro x hx; simp [rowT, Value.ownBlock] at hx; have := HG3.out; omega) (Nat.le_refl _))
  have H2 := L2.out.new c8
  have L1' := (L1.out.new c8).turn t2 (by simp [rowT, Value.ownBlock]) (by
    intro x hx
    simp [rowT, Value.ownBlock] at hx
    subst hx
    obtain ⟨A, n, c, D, rfl, _, o, _⟩ := L1.out.new c8
    obtain ⟨_, _, _, _, _, hg, _⟩ := H2
    exact o.blk_ne hg (by decide)) (by
    intro x hx _ cs hB
    simp [rowT, Value.ownBlock] at hx
    subst hx
    obtain ⟨A, n, c, D, _, hg, _⟩ := H2
    exact Blk.ne_ hg hB (by decide) rfl)
  have G8 := Lib.hid ((HG7.out.below c8 HG7.out.lt).touch t2 (by
    intro hx
    simp [rowT, Value.ownBlock] at hx
    subst hx
    obtain ⟨A, n, c, D, _, hg, _⟩ := H2
    exact Blk.ne_ hg (HG7.out.below c8 HG7.out.lt) (by decide) rfl))
  have EX := lextract_any L1' L2' (by simp) (by simp) (by decide) (by decide) (HC.out.new b8)
  rw [extract97] at EX
  have EX := Lib.hid EX
  have L1 := Lib.hid L1'
  clear LH2 t2 c8 b8 H2 L1' L2' L2
  go_wp2_with fail
  refine EX.out.mono ?_
  rintro e w9 hx
  obtain ⟨A3, n3, c3, A4, n4, c4, rfl, r3, r4, _, _, b9⟩ := hx
  obtain rfl : n3 = 0 := r3.len
  obtain rfl : n4 = 0 := r4.len
  have L1 := Lib.hid (L1.out.new b9)
  have B9 := Lib.hid (New.trans B8.out b9)
  clear r3 r4 EX
  have N9 := Lib.hid (New.trans N8.out b9)
  have G9 := Lib.hid (G8.out.below b9 G8.out.lt)
  obtain ⟨d, rfl⟩ : ∃ d, D2 = [d] := by
    have h1 := HB2.out
    have h2 := bytesOf_len D2
    rw [h1] at h2
    match D2, h2 with
    | [d], _ => exact ⟨d, rfl⟩
  have hd : d.2.2 = [97] := by have := HB2.out; simpa [bytesOf] using this
  obtain ⟨ad, rfl, _⟩ := R3.out.at_ (k := 0) (by simp)
  have cd := R3.out.cells (k := 0) (by simp) w9 N9.out
  have rd := ((R3.out.later N9.out).parts.at_ (k := 0) (by simp)).1
  have hd2 : d.2.2.length = 1 := by rw [hd]; rfl
  rw [add_zero'] at cd
  simp only [List.getD_cons_zero] at cd rd
  rw [hd2] at cd rd
  rw [hd] at rd
  have ST2 : ∀ W : World, New w9 W → (convert 23 9 (.slice d.1 1 d.2.1)).run Tryd.prog W = .ok (.string ⟨#[97]⟩) W := fun W hW => run_str (P := Tryd.prog) (e := 5) (by kernel_rfl) (by kernel_rfl) (by kernel_rfl) (Reads.later rd hW)
  have ST1 : ∀ W : World, New w9 W → (convert 23 9 (.slice A1 12 c1)).run Tryd.prog W = .ok (.string ⟨#[1, 116, 1, 1, 0, 0, 0, 0, 0, 0, 0, 97]⟩) W := fun W hW => run_str (P := Tryd.prog) (e := 5) (by kernel_rfl) (by kernel_rfl) (by kernel_rfl) ((O3.out.later (New.trans N9.out hW)).reads)
  have SU : ∀ W : World, New w9 W → Calls Tryd.prog 23 #[.slice A1 12 c1] W (NewPost (.agg cs) W) := fun W hW => by
    rw [HCS.out]
    exact sum_any (O3.out.later (New.trans N9.out hW)).reads (by decide) O3.out.cap.1 (by omega) (HC.out.new (New.trans B9.out hW))
  have HA : ∀ W : World, New w9 W → Calls Tryd.prog 16 #[.string ⟨#[116]⟩, .slice (some ⟨W.heap.size + 1, 0, none⟩) 1 1] ((W.alloc (.cells #[.int .u8 97] 5 (1, 2))).alloc (.cells #[.slice (some ⟨W.heap.size, 0, none⟩) 1 1] 23)) (NewPost (.agg cs) ((W.alloc (.cells #[.int .u8 97] 5 (1, 2))).alloc (.cells #[.slice (some ⟨W.heap.size, 0, none⟩) 1 1] 23))) := fun W hW => by
    rw [← HV.out]
    exact hash97_any W (HC.out.new (New.trans B9.out hW))
  have FR : ∀ W : World, New w9 W → Calls Tryd.prog 20 #[.pointer (some ⟨g, 0, none⟩)] W (FramesPost [f97] W) := fun W hW => lframes_any (L1.out.new hW) (by simp) (by decide)
  have CE : ∀ W : World, New w9 W → W.cell? ad = some (.slice d.1 1 d.2.1) := fun W hW => (R3.out.cells (k := 0) (by simp) W (New.trans N9.out hW)).trans (by rw [show ([d] : List PartS).getD 0 (none, 0, []) = d from rfl, hd2]) |> fun h => by rwa [add_zero'] at h
  have LR : ∀ W : World, New w9 W → W.heap[gd]? = some (.cells cs 33 (0, 0)) := fun W hW => G9.out.below hW G9.out.lt
  obtain ⟨zs, hzs⟩ : ∃ zs, zs = (ints .u8 zero32).toArray := ⟨_, rfl⟩
  have H00 : ∀ W : World, New w9 W → Calls Tryd.prog 16 #[.string ⟨#[]⟩, .slice none 0 0] W (NewPost (.agg zs) W) := fun W hW => by
    have := hash00_any W (HC.out.new (New.trans B9.out hW))
    rw [hzs]
    exact this
  have EQ0 : ∀ W : World, (binOp .eql 33 (.agg zs) (.agg zs)).run Tryd.prog W = .ok (.bool true) W := fun W => by
    have := run_eql_arr (P := Tryd.prog) (k := .u8) digarr (by kernel_rfl) (by kernel_rfl) (by kernel_rfl) (by kernel_rfl) zero32 zero32 rfl rfl W
    rw [hzs]
    rw [show (zero32 == zero32) = true by simp] at this
    exact this
  have HZ := Lib.hid hzs
  have ST1 := Lib.hid ST1
  have ST2 := Lib.hid ST2
  have SU := Lib.hid SU
  have HA := Lib.hid HA
  have FR := Lib.hid FR
  have CE := Lib.hid CE
  have LR := Lib.hid LR
  have H00 := Lib.hid H00
  have EQ0 := Lib.hid EQ0
  have B9' := Lib.hid B9.out
  clear rd hd hd2 cd b9 N8 N7 N6 N5 B8 B7 B6 B5 G8 HG7 hzs HG3 hgw O3 R3 HB2 L1 HV HC
  go_wp2
  refine wp_region_up (Below w9.heap.size) ord02
    (fun x => Below.refl _ x) (fun h k => Below.trans h k) (by kernel_rfl) (by kernel_rfl) (by kernel_rfl) ok02 ?_
  have hU : New w9 w9.drew := New.drew w9
  unfold ord02
  have DK : (Tryd.prog).eqGuardType (Tryd.prog).depth 33 = false := by kernel_rfl
  have DK := Lib.hid DK
  iterate 1 (
    refine up_quiet rfl rfl (v := ?_) (fun W hW => ?_) ?_
    rotate_left
    · skip
      go_simp <;> with_reducible rfl
    simp only [Act.put, List.setIfInBounds_toArray, List.set_cons_zero, List.set_cons_succ])
  refine up_quiet rfl rfl (v := .string ⟨#[1, 116, 1, 1, 0, 0, 0, 0, 0, 0, 0, 97]⟩) (fun W hW => by have s1 := ST1.out W (Below.trans hU hW); go_simp) ?_
  simp only [Act.put, List.setIfInBounds_toArray, List.set_cons_zero, List.set_cons_succ]
  refine up_quiet rfl rfl (v := .bool true) (fun W hW => ?_) ?_
  · go_simp
  simp only [Act.put, List.setIfInBounds_toArray, List.set_cons_zero, List.set_cons_succ]
  iterate 5 (
    refine up_quiet rfl rfl (v := ?_) (fun W hW => ?_) ?_
    rotate_left
    · skip
      go_simp <;> with_reducible rfl
    simp only [Act.put, List.setIfInBounds_toArray, List.set_cons_zero, List.set_cons_succ])
  refine up_quiet rfl rfl (v := .bool true) (fun W hW => ?_) ?_
  · go_simp
    exact bstr_toList [116]
  simp only [Act.put, List.setIfInBounds_toArray, List.set_cons_zero, List.set_cons_succ]
  iterate 4 (
    refine up_quiet rfl rfl (v := ?_) (fun W hW => ?_) ?_
    rotate_left
    · have c0 := CE.out W (Below.trans hU hW)
      go_simp <;> with_reducible rfl
    simp only [Act.put, List.setIfInBounds_toArray, List.set_cons_zero, List.set_cons_succ])
  iterate 1 (
    refine up_quiet rfl rfl (v := ?_) (fun W hW => ?_) ?_
    rotate_left
    · have c0 := CE.out W (Below.trans hU hW)
      go_simp <;> with_reducible rfl
    simp only [Act.put, List.setIfInBounds_toArray, List.set_cons_zero, List.set_cons_succ])
  refine up_quiet rfl rfl (v := .string ⟨#[97]⟩) (fun W hW => by have s1 := ST2.out W (Below.trans hU hW); go_simp) ?_
  simp only [Act.put, List.setIfInBounds_toArray, List.set_cons_zero, List.set_cons_succ]
  refine up_quiet rfl rfl (v := .bool true) (fun W hW => ?_) ?_
  · go_simp
  simp only [Act.put, List.setIfInBounds_toArray, List.set_cons_zero, List.set_cons_succ]
  iterate 9 (
    refine up_quiet rfl rfl (v := ?_) (fun W hW => ?_) ?_
    rotate_left
    · skip
      go_simp <;> with_reducible rfl
    simp only [Act.put, List.setIfInBounds_toArray, List.set_cons_zero, List.set_cons_succ])
  refine up_quiet rfl rfl (v := .agg cs) (fun W hW => exec_load_row rfl (LR.out W (Below.trans hU hW)) digarr rfl D0.out) ?_
  simp only [Act.put, List.setIfInBounds_toArray, List.set_cons_zero, List.set_cons_succ]
  iterate 1 (
    refine up_quiet rfl rfl (v := ?_) (fun W hW => ?_) ?_
    rotate_left
    · skip
      go_simp <;> with_reducible rfl
    simp only [Act.put, List.setIfInBounds_toArray, List.set_cons_zero, List.set_cons_succ])
  refine up_call rfl rfl (fun K hK => ?_)
  go_simp
  (with_reducible refine (SU.out _ hU).mono ?_)
  rintro e10 u10 ⟨rfl, d10⟩
  refine hK _ _ (Below.mono d10 hU.size) ?_
  clear hK
  replace hU : New w9 u10 := Below.trans hU (Below.mono d10 hU.size)
  refine up_quiet rfl rfl (v := .bool true) (fun W hW => exec_agg rfl rfl DK.out (HEQ.out W)) ?_
  simp only [Act.put, List.setIfInBounds_toArray, List.set_cons_zero, List.set_cons_succ]
  iterate 2 (
    refine up_quiet rfl rfl (v := ?_) (fun W hW => ?_) ?_
    rotate_left
    · skip
      go_simp <;> with_reducible rfl
    simp only [Act.put, List.setIfInBounds_toArray, List.set_cons_zero, List.set_cons_succ])
  refine up_quiet rfl rfl (v := .agg cs) (fun W hW => exec_load_row rfl (LR.out W (Below.trans hU hW)) digarr rfl D0.out) ?_
  simp only [Act.put, List.setIfInBounds_toArray, List.set_cons_zero, List.set_cons_succ]
  refine up_call rfl rfl (fun K hK => ?_)
  go_simp
  refine hK _ _ (((Below.refl _ _).alloc hU.size _)) ?_
  clear hK
  try simp only [Act.put, List.setIfInBounds_toArray, List.set_cons_zero, List.set_cons_succ]
  have k4 := run_idB (P := Tryd.prog) u10 23 5 97 u10.heap.size rfl elB.ht (by kernel_rfl)
  refine up_call rfl rfl (fun K hK => ?_)
  go_simp
  refine hK _ _ (below_mark _ _ _ _ hU.size) ?_
  clear hK k4
  try simp only [Act.put, List.setIfInBounds_toArray, List.set_cons_zero, List.set_cons_succ]
  refine up_call rfl rfl (fun K hK => ?_)
  go_simp
  refine hK _ _ ((Below.refl _ _).alloc (by have := hU.size; simp; omega) _) ?_
  clear hK
  try simp only [Act.put, List.setIfInBounds_toArray, List.set_cons_zero, List.set_cons_succ]
  have h3 : New w9 ((u10.alloc (.cells #[.int .u8 97] 5 (1, 2))).alloc (.cells #[.slice (some ⟨u10.heap.size, 0, none⟩) 1 1] 23)) := Below.trans hU (((Below.refl _ _).alloc hU.size _).alloc (by have := hU.size; simp; omega) _)
  replace hU10 := hU
  clear hU
  have hU := h3
  refine up_call rfl rfl (fun K hK => ?_)
  go_simp
  (with_reducible refine (HA.out _ hU10).mono ?_)
  rintro e11 u11 ⟨rfl, d11⟩
  refine hK _ _ (Below.mono d11 hU.size) ?_
  clear hK
  replace hU : New w9 u11 := Below.trans hU (Below.mono d11 hU.size)
  refine up_quiet rfl rfl (v := .bool true) (fun W hW => exec_agg rfl rfl DK.out (HEQ.out W)) ?_
  simp only [Act.put, List.setIfInBounds_toArray, List.set_cons_zero, List.set_cons_succ]
  iterate 3 (
    refine up_quiet rfl rfl (v := ?_) (fun W hW => ?_) ?_
    rotate_left
    · skip
      go_simp <;> with_reducible rfl
    simp only [Act.put, List.setIfInBounds_toArray, List.set_cons_zero, List.set_cons_succ])
  refine up_call rfl rfl (fun K hK => ?_)
  go_simp
  (with_reducible refine (FR.out _ hU).mono ?_)
  rintro e12 u12 ⟨A5, c5, D5, rfl, _, _, _, d12⟩
  refine hK _ _ (Below.mono d12 hU.size) ?_
  clear hK
  replace hU : New w9 u12 := Below.trans hU (Below.mono d12 hU.size)
  iterate 1 (
    refine up_quiet rfl rfl (v := ?_) (fun W hW => ?_) ?_
    rotate_left
    · skip
      go_simp <;> with_reducible rfl
    simp only [Act.put, List.setIfInBounds_toArray, List.set_cons_zero, List.set_cons_succ])
  iterate 5 (
    refine up_quiet rfl rfl (v := ?_) (fun W hW => ?_) ?_
    rotate_left
    · skip
      go_simp <;> with_reducible rfl
    simp only [Act.put, List.setIfInBounds_toArray, List.set_cons_zero, List.set_cons_succ])
  refine up_quiet rfl rfl (v := .string ⟨#[1, 116, 1, 1, 0, 0, 0, 0, 0, 0, 0, 97]⟩) (fun W hW => by have s1 := ST1.out W (Below.trans hU hW); go_simp) ?_
  simp only [Act.put, List.setIfInBounds_toArray, List.set_cons_zero, List.set_cons_succ]
  refine up_call rfl rfl (fun K hK => ?_)
  go_simp
  (with_reducible refine (FR.out _ hU).mono ?_)
  rintro e13 u13 ⟨A6, c6, D6, rfl, o6, p6, h6, d13⟩
  refine hK _ _ (Below.mono d13 hU.size) ?_
  clear hK
  replace hU : New w9 u13 := Below.trans hU (Below.mono d13 hU.size)
  have hn6 := o6.len
  rw [recsP_len] at hn6
  obtain ⟨d6, rfl⟩ : ∃ d, D6 = [d] := by
    match D6, hn6 with
    | [d], _ => exact ⟨d, rfl⟩
  have hd6 : d6.2.2 = f97 := by simpa [bytesOf] using h6
  have hd62 : d6.2.2.length = 12 := by rw [hd6]; rfl
  obtain ⟨ad6, rfl, _⟩ := (FramesPost.rows o6 p6).at_ (k := 0) (by simp)
  have k6 := (FramesPost.rows o6 p6).cells (k := 0) (by simp) u13 (Below.refl _ _)
  rw [add_zero', show ([d6] : List PartS).getD 0 (none, 0, []) = d6 from rfl, hd62] at k6
  have rd6 := (p6 d6 (by simp)).reads
  rw [hd62, hd6] at rd6
  have st6 : (convert 23 9 (.slice d6.1 12 d6.2.1)).run Tryd.prog u13 = .ok (.string ⟨#[1, 116, 1, 1, 0, 0, 0, 0, 0, 0, 0, 97]⟩) u13 := run_str (P := Tryd.prog) (e := 5) (by kernel_rfl) (by kernel_rfl) (by kernel_rfl) rd6
  clear hn6 hd6 hd62 rd6 o6 p6 h6
  iterate 1 (
    refine up_quiet rfl rfl (v := ?_) (fun W hW => ?_) ?_
    rotate_left
    · skip
      go_simp <;> with_reducible rfl
    simp only [Act.put, List.setIfInBounds_toArray, List.set_cons_zero, List.set_cons_succ])
  refine up_call rfl rfl (fun K hK => ?_)
  go_simp
  refine hK _ _ (Below.refl _ _) ?_
  clear hK
  try simp only [Act.put, List.setIfInBounds_toArray, List.set_cons_zero, List.set_cons_succ]
  refine up_call rfl rfl (fun K hK => ?_)
  go_simp
  refine hK _ _ (Below.refl _ _) ?_
  clear hK k6 st6
  try simp only [Act.put, List.setIfInBounds_toArray, List.set_cons_zero, List.set_cons_succ]
  refine up_quiet rfl rfl (v := .bool true) (fun W hW => ?_) ?_
  · go_simp
  simp only [Act.put, List.setIfInBounds_toArray, List.set_cons_zero, List.set_cons_succ]
  iterate 16 (
    refine up_quiet rfl rfl (v := ?_) (fun W hW => ?_) ?_
    rotate_left
    · skip
      go_simp <;> with_reducible rfl
    simp only [Act.put, List.setIfInBounds_toArray, List.set_cons_zero, List.set_cons_succ])
  refine up_quiet rfl rfl (v := .agg zs) (fun W hW => ?_) ?_
  · go_simp
    rw [HZ.out]
    rfl
  simp only [Act.put, List.setIfInBounds_toArray, List.set_cons_zero, List.set_cons_succ]
  refine up_call rfl rfl (fun K hK => ?_)
  go_simp
  (with_reducible refine (H00.out _ hU).mono ?_)
  rintro e14 u14 ⟨rfl, d14⟩
  refine hK _ _ (Below.mono d14 hU.size) ?_
  clear hK
  replace hU : New w9 u14 := Below.trans hU (Below.mono d14 hU.size)
  refine up_quiet rfl rfl (v := .bool true) (fun W hW => exec_agg rfl rfl DK.out (EQ0.out W)) ?_
  simp only [Act.put, List.setIfInBounds_toArray, List.set_cons_zero, List.set_cons_succ]
  iterate 2 (
    refine up_quiet rfl rfl (v := ?_) (fun W hW => ?_) ?_
    rotate_left
    · skip
      go_simp <;> with_reducible rfl
    simp only [Act.put, List.setIfInBounds_toArray, List.set_cons_zero, List.set_cons_succ])
  refine up_nil ?_
  have BE := Lib.hid (New.trans B9'.out hU)
  clear hU
  go_wp2
  go_ret
  exact ⟨rfl, BE.out⟩

end Go.Proofs.YtlfnhbnaegihfaaDoor
/- From a walk of a law over a listed variable to the given statement's form. No program is named here. -/

namespace Go.Hm
open Go.RowKit Go.WideShapes Go.ChangeShapes
theorem law_lifted_laid {C : Checked} {os : Os} {f : FuncId} {fn : Func} {s : ChangeSpec} {tb : TypeId} {H : Type} {enc : TypeId × Value → H} {laid : List (String × DataW Unit)}
    (own : ownKnob C.prog.godebug = none) (hl : laidOutB C.prog = true) (started : os.Started) (noInit : C.prog.inits.idxOf? f = none) (hfn : C.prog.funcs[f]? = some fn)
    (hrt : fn.resultTypes = #[tb]) (htb : C.prog.underlying tb = some .bool) (hr : ∀ t ∈ fn.params.toList, C.prog.readableRec t = true ∧ t < C.prog.types.size)
    (hv : s.vars = []) (hs : ∀ ds : List (DataW H), ds.length = fn.params.size → s.fn H ds = { results := [.lit (.bool true)], args := ds })
    (witness : ∃ (w : World) (tape : Tape) (i : Input), w.os = os ∧ (w.forCall tape i).Shaped C.prog ∧ i.vars = [] ∧ Input.okWide C.prog (w.forCall tape i) .any w.heap.size f i ∧
      ((s.pre enc C.prog fn [] false (w.forCall tape i).memory i.args ∧ laidMetH C.prog laid (w.forCall tape i).memory) ∧ sizedMet enc C.prog fn (OpenSpec.ofChange s) false (w.forCall tape i).memory i.args) ∧ ({} : Assume).holds C.prog (lone (Frame.enter C.prog f i.args .normal) [] (w.forCall tape i)))
    (contract : ∀ (W : World) (base : Nat) (args : Array Value) (ds : List (DataW H)) (ps : List MemPlace),
      (∀ (j : Nat) t v, fn.params[j]? = some t → args[j]? = some v → Value.okWide C.prog W .any base t v) →
      DataW.TrodAll enc C.prog W 0 (fun _ => true) true fn.params.toList args.toList ds ps → (∀ p ∈ ps, p.block < W.heap.size) → W.noneFrozen ps →
      (DataW.weightsEach C.prog fn.params.toList ds).all (· ≤ reachBytes) = true → laidMetH C.prog laid W →
      Calls C.prog f args W fun e W' => e = .returned (.bool true) ∧ Below W.heap.size W W') :
    ReturnsInHanded {} C os f .any (fun w args => (s.pre enc C.prog fn [] false w args ∧ laidMetH C.prog laid w) ∧ sizedMet enc C.prog fn (OpenSpec.ofChange s) false w args) (s.post enc C.prog fn false true false false) := by
  refine returnsInHanded_of_change_and (X := fun w _ => laidMetH C.prog laid w) (fun _ _ _ hh h => h.of_heap hh) own started noInit hfn witness ?_
  intro W base args ds gs before hval hW _ hsz hL _
  have hlt : ∀ p ∈ before, p.block < W.heap.size := fun p hp => hW.lt p hp
  obtain ⟨p, q, hA, hV, rfl, hfz, _⟩ := id hW
  rw [hv] at hV
  obtain ⟨rfl, rfl⟩ := trodVars_none hV
  have hvt : s.plain.varTypes C.prog = [] := by simp [ChangeSpec.plain, DataSpec.varTypes, hv]
  rw [hvt, List.append_nil, List.append_nil] at hsz
  simp only [List.append_nil] at hlt hfz
  refine (contract W base args ds p hval hA hlt hfz hsz hL).mono fun e W' ⟨he, hb⟩ => ⟨_, he, ?_⟩
  have hdl : ∀ {ts : List TypeId} {vs : List Value} {ds : List (DataW H)} {ps : List MemPlace}, DataW.TrodAll enc C.prog W 0 (fun _ => true) true ts vs ds ps → ds.length = ts.length := by
    intro ts
    induction ts with
    | nil => intro vs ds ps h; obtain ⟨_, rfl, _⟩ := trodAll_nil h; rfl
    | cons t ts ih => intro vs ds ps h; obtain ⟨v, vs', d, ds', p', q', _, rfl, _, _, h2⟩ := trodAll_cons h; simp [ih h2]
  exact post_law hl hrt htb hr hv (by rw [List.append_nil]; exact hs ds (by simpa using hdl hA)) hW hb

end Go.Hm
/- The table of constants, out of the condition that it reads as listed. -/

namespace Go.Proofs.YtlfnhbnaegihfaaDoor
open Go.RowKit Go.Hm Go.WideShapes Go.ChangeShapes
theorem gConst : Tryd.prog.globalNamed "hypostyle/sha.constants" = some 0 := by kernel_rfl
theorem tConst : (Tryd.prog.globals[0]?).map (·.type) = some 69 := by kernel_rfl
theorem dConst : (Rows.laid_hypostyle_sha_constants : DataW Unit) = .agg (kI.map fun k => .lit (.int .u32 k)) := by rfl
abbrev laidC : List (String × DataW Unit) := [("hypostyle/sha.constants", Rows.laid_hypostyle_sha_constants)]
theorem const_of_laid {W : World} (h : laidMetH Tryd.prog laidC W) : ConstIn W := by
  rw [MakeChecks.laidMetH_plain _ _ _ (by kernel_rfl)] at h
  obtain ⟨ps, ⟨g0, t0, cs0, f0, p0, q0, hg0, ht0, hv0, hd0, _, hps⟩, _, hblk⟩ := h
  obtain rfl := Option.some.inj (gConst.symm.trans hg0)
  obtain rfl := Option.some.inj (tConst.symm.trans ht0)
  obtain ⟨xs, m1, rfl, hx1, hlen, hn3, hel⟩ := DataW.trod_array (show Tryd.prog.underlying 69 = some (.array 64 57) by kernel_rfl) hd0
  have c64 : Tryd.prog.cellsOf 69 = 64 := by kernel_rfl
  have c1 : Tryd.prog.cellsOf 57 = 1 := by kernel_rfl
  rw [c64] at hlen
  rw [dConst] at hx1
  simp only [Prod.mk.injEq, DataW.agg.injEq] at hx1
  have hcell : ∀ i, i < 64 → W.cell? ⟨0, i, none⟩ = some (.int .u32 (kI.getD i 0)) := by
    intro i hi
    have h1 := hel i hi
    rw [c1, Nat.mul_one] at h1
    have hi2 : i < cs0.toList.length := by omega
    have hone : (cs0.toList.drop i).take 1 = [cs0.toList[i]] := by
      rw [List.drop_eq_getElem_cons hi2]
      rfl
    rw [hone, List.getElem?_eq_getElem (by omega)] at h1
    obtain ⟨x, e1, e2, _⟩ := DataW.trod_int (show Tryd.prog.underlying 57 = some (.int .u32) by kernel_rfl) h1
    have hk : (xs.map (·.1))[i]? = (kI.map fun k => (DataW.lit (.int .u32 k) : DataW Unit))[i]? := by rw [hx1.1]
    rw [List.getElem?_map, List.getElem?_eq_getElem (show i < xs.length by omega), List.getElem?_map, List.getElem?_eq_getElem (show i < kI.length from hi)] at hk
    simp only [Option.map_some, Option.some.injEq] at hk
    rw [e2] at hk
    simp only [DataW.lit.injEq, Lit.int.injEq, true_and] at hk
    have hc := World.var?_cell hg0 hv0 i
    rw [hc]
    simp only [List.cons.injEq, and_true] at e1
    rw [Array.getElem?_eq_getElem (by simpa using hi2)]
    have e3 : cs0[i]'(by simpa using hi2) = cs0.toList[i] := by simp
    rw [e3, e1, hk, List.getD_eq_getElem?_getD, List.getElem?_eq_getElem (show i < kI.length from hi)]
    rfl
  refine ⟨?_, hcell⟩
  have h0 := hcell 0 (by omega)
  unfold World.cell? at h0
  rcases Nat.eq_zero_or_pos W.heap.size with hz | hz
  · rw [Array.getElem?_eq_none (by omega)] at h0
    cases h0
  · exact hz
theorem door_met (os : Os) (args : Array Value) : laidMetH Tryd.prog laidC ((World.doorLaid Tryd.prog 14 os).forCall (fun _ _ => 0) ⟨#[], args, []⟩).memory :=
  laidMetH_of_parts3 (fuel := 8) (laidMet_of_run' 8 (by kernel_rfl) (by kernel_rfl)) (by kernel_rfl) (by kernel_rfl)

end Go.Proofs.YtlfnhbnaegihfaaDoor
/- Texts opened. -/

namespace Go.Hm
theorem fsum_le_ (M : Nat) (l : List (List Nat)) (h : ∀ s ∈ l, s.length ≤ M) : (l.map List.length).sum ≤ l.length * M := by
  induction l with
  | nil => simp
  | cons s l ih =>
    have h1 := ih fun x hx => h x (by simp [hx])
    have h2 := h s (by simp)
    simp only [List.map_cons, List.sum_cons, List.length_cons, Nat.succ_mul]
    omega
theorem strs_recs (l : List (List Nat)) : strs l = recs (fun s => [.string (bstr s)]) l := by
  induction l with
  | nil => rfl
  | cons s l ih => rw [recs_cons, ← ih]; rfl

end Go.Hm
set_option maxRecDepth 100000

namespace Go.Proofs.YtlfnhbnaegihfaaDoor
open Go.RowKit Go.Hm Go.WideShapes Go.ChangeShapes

section
variable {H : Type} {enc : TypeId × Value → H} {W : World} {base : Nat} {v : Value} {d : DataW H} {ps : List MemPlace}
theorem open_s (hval : Value.okWide Tryd.prog W .any base 9 v) (h : DataW.Trod enc Tryd.prog W 0 (fun _ => true) true 9 v d ps) (hlt : ∀ p ∈ ps, p.block < W.heap.size) (hw : ∀ n ∈ d.weights Tryd.prog 9, n ≤ reachBytes) :
    ∃ l : List Nat, v = .string (bstr l) ∧ (∀ x ∈ l, x < 256) ∧ l.length ≤ 140737488351232 := by
  have ht : Tryd.prog.underlying 9 = some .string := by kernel_rfl
  obtain ⟨s, rfl⟩ := okWide_string ht hval
  obtain ⟨l, h1, h2, h3⟩ := (Held.of h hlt hw).string ht
  refine ⟨l, ?_, h2, h3⟩
  simpa [Value.cells] using h1
end

end Go.Proofs.YtlfnhbnaegihfaaDoor
/- Rows of bytes, and rows of these, opened; what laws of layer 2 share. -/
set_option maxRecDepth 100000

namespace Go.Hm
open Go Go.RowKit
theorem parse_lt {b : List Nat} (h8 : ∀ x ∈ b, x < 256) : ∀ p ∈ ((parseO b).map Prod.snd).getD [], ∀ x ∈ p, x < 256 := by
  cases h : parseO b with
  | none => simp
  | some q => exact (frame_parse (s := q.1) (L := q.2) h8 h).2.2
theorem parse_lt1 {b : List Nat} (h8 : ∀ x ∈ b, x < 256) : ∀ x ∈ ((parseO b).map Prod.fst).getD [], x < 256 := by
  cases h : parseO b with
  | none => simp
  | some q => exact (frame_parse (s := q.1) (L := q.2) h8 h).2.1
theorem parse_few {b : List Nat} (h8 : ∀ x ∈ b, x < 256) : (((parseO b).map Prod.snd).getD []).length ≤ 255 := by
  cases h : parseO b with
  | none => simp
  | some q =>
    have := (frame_parse (s := q.1) (L := q.2) h8 h).1
    unfold frameO at this
    split at this
    · rename_i hc; exact hc.2.2
    · cases this
theorem parse_n {b : List Nat} {D : List PartS} {w : World} {A : Option Addr} {n c : Nat} (h8 : ∀ x ∈ b, x < 256) (h : RowsAt w A n c D) (hD : bytesOf D = ((parseO b).map Prod.snd).getD []) : n ≤ 255 := by
  have h1 := parse_few h8
  rw [← hD, bytesOf_len, ← h.len] at h1
  exact h1
/-- A tag and its parts as they lie: the tag, where the parts are, how many may, and which. -/
abbrev RowS := List Nat × Option Addr × Nat × List PartS
def rowV (r : RowS) : List Value := [.string (bstr r.1), .slice r.2.1 r.2.2.2.length r.2.2.1]
def PartsFine (D : List PartS) : Prop := ∀ p ∈ bytesOf D, (∀ x ∈ p, x < 256) ∧ p.length ≤ 140737488351232
theorem PartsFine.lt {D : List PartS} (h : PartsFine D) : ∀ p ∈ bytesOf D, ∀ x ∈ p, x < 256 := fun p hp => (h p hp).1
structure RowIn (w : World) (r : RowS) : Prop where
  tag : (∀ x ∈ r.1, x < 256) ∧ r.1.length ≤ 140737488351232
  rows : RowsAt w r.2.1 r.2.2.2.length r.2.2.1 r.2.2.2
  fine : PartsFine r.2.2.2
  few : r.2.2.2.length ≤ 4611686018427387903
theorem RowIn.later {w w' : World} {r : RowS} (h : RowIn w r) (hb : New w w') : RowIn w' r := ⟨h.tag, h.rows.later hb, h.fine, h.few⟩

end Go.Hm

namespace Go.Proofs.YtlfnhbnaegihfaaDoor
open Go.RowKit Go.Hm Go.WideShapes Go.ChangeShapes

section
variable {H : Type} {enc : TypeId × Value → H} {W : World} {base : Nat} {v : Value} {d : DataW H} {ps : List MemPlace}
theorem nat_recs (l : List Nat) : recs (fun n : Nat => [.int .u8 (n : Int)]) l = nums .u8 l := by
  induction l with
  | nil => rfl
  | cons x l ih => rw [recs_cons, ih]; rfl
theorem held_bytes {cs : List Value} (h : Held enc Tryd.prog W 23 cs) : ∃ x : PartS, cs = partV x ∧ (Reads W W.heap.size 1 x.1 x.2.2.length (nums .u8 x.2.2) ∧ x.2.2.length ≤ x.2.1 ∧ x.2.1 ≤ 140737488351232 ∧ ∀ z ∈ x.2.2, z < 256) := by
  have ht : Tryd.prog.underlying 23 = some (.slice 5) := by kernel_rfl
  obtain ⟨A, c, l, h1, h2, _, h4, h5, h6⟩ := h.recs (f := fun n : Nat => [.int .u8 (n : Int)]) (sz := 1) (by_ := 1) (Q := fun x => x < 256) 0 ht (by kernel_rfl) (by kernel_rfl) (fun _ => rfl) (by omega) (fun cs hh => by
    obtain ⟨n, e1, e2⟩ := hh.nat (k := .u8) rfl (by kernel_rfl)
    exact ⟨n, e1, by simp [IntKind.max, IntKind.signed, IntKind.bits] at e2; omega⟩)
  rw [nat_recs] at h5
  exact ⟨(A, c, l), h1, h5, h2, by show c ≤ _; unfold reachBytes at h4; omega, h6⟩
theorem held_parts {cs : List Value} (h : Held enc Tryd.prog W 22 cs) : ∃ (A : Option Addr) (c : Nat) (D : List PartS), cs = [.slice A D.length c] ∧ RowsAt W A D.length c D ∧ PartsFine D ∧ D.length ≤ 4611686018427387903 := by
  have ht : Tryd.prog.underlying 22 = some (.slice 23) := by kernel_rfl
  obtain ⟨A, c, l, h1, h2, _, h4, h5, h6⟩ := h.recs (f := partV) (sz := 1) (by_ := 24) (Q := fun x => (Reads W W.heap.size 1 x.1 x.2.2.length (nums .u8 x.2.2) ∧ x.2.2.length ≤ x.2.1 ∧ x.2.1 ≤ 140737488351232 ∧ ∀ z ∈ x.2.2, z < 256)) (none, 0, []) ht (by kernel_rfl) (by kernel_rfl) (fun _ => rfl) (by omega) (fun cs hh => held_bytes hh)
  refine ⟨A, c, l, h1, ⟨h5, fun d hd => ⟨(h6 d hd).1, (h6 d hd).2.1, by have := (h6 d hd).2.2.1; omega⟩, h2⟩, fun p hp => ?_, by unfold reachBytes at h4; omega⟩
  obtain ⟨d, hd, rfl⟩ := List.mem_map.1 hp
  exact ⟨(h6 d hd).2.2.2, by have := (h6 d hd).2.1; have := (h6 d hd).2.2.1; omega⟩
theorem held_row {cs : List Value} (h : Held enc Tryd.prog W 41 cs) : ∃ r : RowS, cs = rowV r ∧ RowIn W r := by
  have ht : Tryd.prog.underlying 41 = some (.struct (fieldsOf Tryd.prog 41)) := by kernel_rfl
  have hl := h.partLen ht (n := 2) (by kernel_rfl)
  obtain ⟨x0, x1, rfl⟩ : ∃ x0 x1, cs = [x0, x1] := by
    match cs, hl with
    | [a, b], _ => exact ⟨a, b, rfl⟩
  have p0 := h.part ht 0 0 1 (ft := 9) (by kernel_rfl) (by kernel_rfl)
  have p1 := h.part ht 1 1 1 (ft := 22) (by kernel_rfl) (by kernel_rfl)
  obtain ⟨s, e1, e2, e3⟩ := p0.string (by kernel_rfl)
  obtain ⟨A, c, D, e4, e5, e6, e7⟩ := held_parts p1
  simp only [List.drop_succ_cons, List.drop_zero, List.take_succ_cons, List.take_zero, List.cons.injEq, and_true] at e1 e4
  subst e1 e4
  exact ⟨(s, A, c, D), rfl, ⟨e2, e3⟩, e5, e6, e7⟩
theorem open_BB (hval : Value.okWide Tryd.prog W .any base 22 v) (h : DataW.Trod enc Tryd.prog W 0 (fun _ => true) true 22 v d ps) (hlt : ∀ p ∈ ps, p.block < W.heap.size) (hw : ∀ n ∈ d.weights Tryd.prog 22, n ≤ reachBytes) :
    ∃ (A : Option Addr) (c : Nat) (D : List PartS), v = .slice A D.length c ∧ RowsAt W A D.length c D ∧ PartsFine D ∧ D.length ≤ 4611686018427387903 := by
  have ht : Tryd.prog.underlying 22 = some (.slice 23) := by kernel_rfl
  obtain ⟨a0, len, cap, rfl⟩ := okWide_slice ht hval
  obtain ⟨A, c, D, h1, h2⟩ := held_parts (Held.of h hlt hw)
  simp only [Value.cells, List.cons.injEq, and_true] at h1
  rw [h1]
  exact ⟨A, c, D, rfl, h2⟩
theorem open_Row (hval : Value.okWide Tryd.prog W .any base 41 v) (h : DataW.Trod enc Tryd.prog W 0 (fun _ => true) true 41 v d ps) (hlt : ∀ p ∈ ps, p.block < W.heap.size) (hw : ∀ n ∈ d.weights Tryd.prog 41, n ≤ reachBytes) :
    ∃ r : RowS, v = .agg #[.string (bstr r.1), .slice r.2.1 r.2.2.2.length r.2.2.1] ∧ RowIn W r := by
  have ht : Tryd.prog.underlying 41 = some (.struct (fieldsOf Tryd.prog 41)) := by kernel_rfl
  obtain ⟨⟨cs⟩, rfl, hsz⟩ := okWide_struct ht hval
  have hh := Held.of h hlt hw
  simp only [Value.cells] at hh
  obtain ⟨r, rfl, hr⟩ := held_row hh
  exact ⟨r, rfl, hr⟩
theorem open_Rows (hval : Value.okWide Tryd.prog W .any base 37 v) (h : DataW.Trod enc Tryd.prog W 0 (fun _ => true) true 37 v d ps) (hlt : ∀ p ∈ ps, p.block < W.heap.size) (hw : ∀ n ∈ d.weights Tryd.prog 37, n ≤ reachBytes) :
    ∃ (A : Option Addr) (c : Nat) (L : List RowS), v = .slice A L.length c ∧ Reads W W.heap.size 2 A L.length (recs rowV L) ∧ (∀ r ∈ L, RowIn W r) ∧ L.length ≤ c := by
  have ht : Tryd.prog.underlying 37 = some (.slice 41) := by kernel_rfl
  obtain ⟨a0, len, cap, rfl⟩ := okWide_slice ht hval
  obtain ⟨A, c, L, h1, h2, _, _, h5, h6⟩ := (Held.of h hlt hw).recs (f := rowV) (sz := 2) (by_ := 40) (Q := RowIn W) ([], none, 0, []) ht (by kernel_rfl) (by kernel_rfl) (fun _ => rfl) (by omega) (fun cs hh => held_row hh)
  simp only [Value.cells, List.cons.injEq, and_true] at h1
  rw [h1]
  exact ⟨A, c, L, rfl, h5, h6, h2⟩
end

end Go.Proofs.YtlfnhbnaegihfaaDoor
/- What the laws on logs share. -/

namespace Go.Hm
open Go Go.RowKit
/-- Rows that came in. -/
structure LogRows (w : World) (A : Option Addr) (L : List RowS) : Prop where
  row : Reads w w.heap.size 2 A L.length (recs rowV L)
  fine : ∀ r ∈ L, RowIn w r
theorem LogRows.later {w w' : World} {A : Option Addr} {L : List RowS} (h : LogRows w A L) (hb : New w w') : LogRows w' A L := ⟨Reads.later h.row hb, fun r hr => (h.fine r hr).later hb⟩
abbrev rowZ : RowS := ([], none, 0, [])
theorem LogRows.at_ {w : World} {A : Option Addr} {L : List RowS} (h : LogRows w A L) {i : Nat} (hi : i < L.length) :
    ∃ ad, A = some ad ∧ RowIn w (L.getD i rowZ) ∧ ∀ W, New w W → W.cell? (ad.add (i * 2)) = some (.string (bstr (L.getD i rowZ).1)) ∧ W.cell? ⟨(ad.add (i * 2)).block, (ad.add (i * 2)).off + 1, none⟩ = some (.slice (L.getD i rowZ).2.1 (L.getD i rowZ).2.2.2.length (L.getD i rowZ).2.2.1) := by
  obtain ⟨ad, e, hb, hl, hc⟩ := Reads.rec_ (f := rowV) (sz := 2) (fun _ => rfl) rowZ h.row hi (by omega)
  refine ⟨ad, e, h.fine _ ?_, fun W hW => ?_⟩
  · rw [List.getD_eq_getElem?_getD, List.getElem?_eq_getElem hi]
    exact List.getElem_mem hi
  · have h0 := hc 0 _ rfl
    have h1 := hc 1 _ rfl
    rw [← add_of_add] at h1
    exact ⟨(Below.cell hW (by rw [block_of_add]; exact hb)).trans h0, (Below.cell hW (by rw [block_of_add]; exact hb)).trans h1⟩
/-- Frames that may be summed. -/
def GoodF (F : List (List Nat)) : Prop := ∀ p ∈ F, (∀ x ∈ p, x < 256) ∧ p.length ≤ 1000000
theorem GoodF.add {F : List (List Nat)} {o : Option (List Nat)} (h : GoodF F) (ho : ∀ f, o = some f → (∀ x ∈ f, x < 256) ∧ f.length ≤ 1000000) : GoodF (F ++ o.toList) := by
  intro p hp
  rcases List.mem_append.1 hp with hp | hp
  · exact h p hp
  · cases o with
    | none => simp at hp
    | some f =>
      obtain rfl : p = f := by simpa using hp
      exact ho p rfl
theorem add_len (F : List (List Nat)) (o : Option (List Nat)) : (F ++ o.toList).length ≤ F.length + 1 := by cases o <;> simp
theorem extractO_is {A B : List (List Nat)} {x y : List Nat} (h : extractO A B = some (x, y)) : x ∈ A ∧ y ∈ B ∧ x ≠ y ∧ sumI x = sumI y := by
  unfold extractO at h
  obtain ⟨z, hz, h2⟩ := List.exists_of_findSome?_eq_some h
  cases hf : (B.find? fun y => decide (z ≠ y ∧ sumI z = sumI y)) with
  | none => rw [hf] at h2; cases h2
  | some y2 =>
    rw [hf] at h2
    simp only [Option.map_some, Option.some.injEq, Prod.mk.injEq] at h2
    obtain ⟨rfl, rfl⟩ := h2
    have := List.find?_some hf
    exact ⟨hz, List.mem_of_find?_eq_some hf, of_decide_eq_true this⟩

end Go.Hm

namespace Go.Proofs.YtlfnhbnaegihfaaDoor
open Go.RowKit Go.Hm
theorem few_of {D : List PartS} (h : fewT (bytesOf D) = true) : D.length ≤ 260 ∧ tsum (bytesOf D) ≤ 1500 := by
  unfold fewT at h
  rw [decide_eq_true_eq, bytesOf_len] at h
  exact h
theorem frame_good {s : List Nat} {D : List PartS} (hs : ∀ x ∈ s, x < 256) (hD : PartsFine D) (ht : tsum (bytesOf D) ≤ 990000) : ∀ f, frameO s (bytesOf D) = some f → (∀ x ∈ f, x < 256) ∧ f.length ≤ 1000000 := fun _ hf => ⟨frameO_lt hs hD.lt hf, frameO_len hf ht⟩
/-- What a log may turn is its own. -/
theorem LogAt.own {w : World} {base g B : Nat} {V : Value} {L : List (List Nat)} (h : LogAt w base g V L) (hb : B ≤ base) (hg : B ≤ g) : ∀ x ∈ g :: rowT V, B ≤ x := by
  intro x hx
  rcases List.mem_cons.1 hx with rfl | hx
  · exact hg
  · exact Nat.le_trans hb (h.ge x hx).1
/-- None of a log's blocks that may be turned holds bytes. -/
theorem LogAt.noB {w : World} {base g : Nat} {V : Value} {L : List (List Nat)} (h : LogAt w base g V L) : ∀ x ∈ g :: rowT V, x < w.heap.size → ∀ cs, ¬ Blk w x 5 cs := by
  obtain ⟨A, n, c, D, rfl, h1, h2, _⟩ := h
  intro x hx _ cs hB
  rcases List.mem_cons.1 hx with rfl | hx
  · exact Blk.ne_ h1 hB (by decide) rfl
  · exact rowT_ne h2 hB (by decide) hx
/-- A log is not another one's slice. -/
theorem LogAt.notRow {w : World} {base base' g g' : Nat} {V V' : Value} {L L' : List (List Nat)} (h : LogAt w base g V L) (h' : LogAt w base' g' V' L') : g ∉ rowT V' ∧ V.ownBlock ≠ some g' := by
  obtain ⟨A, n, c, D, rfl, h1, h2, _⟩ := h
  obtain ⟨A', n', c', D', rfl, h1', h2', _⟩ := h'
  exact ⟨fun hx => rowT_ne h2' h1 (by decide) hx, h2.blk_ne h1' (by decide)⟩
theorem rowT_mem {V : Value} {x : Nat} (h : V.ownBlock = some x) : x ∈ rowT V := by unfold rowT; rw [h]; simp
/-- One log is kept while the other is turned. -/
theorem LogAt.other {w w' : World} {base base' g g' : Nat} {V V' : Value} {L L' : List (List Nat)} (h : LogAt w base g V L) (h' : LogAt w base' g' V' L') (hne : g ≠ g') (hd : ∀ x ∈ rowT V', V.ownBlock ≠ some x) (k : Turns (g' :: rowT V') w w') : LogAt w' base g V L := by
  obtain ⟨n1, n2⟩ := h.notRow h'
  refine h.turn k (fun hx => ?_) (fun x hx => ?_) h'.noB
  · rcases List.mem_cons.1 hx with e | hx
    · exact hne e
    · exact n1 hx
  · rcases List.mem_cons.1 hx with rfl | hx
    · exact n2
    · exact hd x hx
theorem LogAt.rebase {w : World} {base base' g : Nat} (h : LogAt w base g (.slice none 0 0) []) : LogAt w base' g (.slice none 0 0) [] := by
  obtain ⟨A, n, c, D, e, h1, h2, h3, h4⟩ := h
  injection e with e1 e2 e3
  subst e1 e2 e3
  have hD : D = [] := by
    have := bytesOf_len D
    rw [h4] at this
    exact List.eq_nil_of_length_eq_zero this.symm
  subst hD
  exact ⟨none, 0, 0, [], rfl, h1, Own.nil_, (fun _ hd => nomatch hd), rfl⟩

end Go.Proofs.YtlfnhbnaegihfaaDoor
/- A region that draws its order, where sometimes two operations are ready that make memory: a plan of all ways. No program is named here. -/

namespace Go.Hm
open Go Go.RowKit
/-- How a region is gone through: what only reads first; one alone; or either of two. -/
inductive Plan where
  | done
  | quiet (i : Nat) (p : Plan)
  | alone (i : Nat) (p : Plan)
  | two (i : Nat) (p : Plan) (j : Nat) (q : Plan)

section
variable {P : Program} {ops : Array Oper} {Q : Exit → Act → World → Prop}
def Plan.ok (ops : Array Oper) : Array Bool → Plan → Bool
  | listed, .done => (Region.ready .any ops listed).isEmpty
  | listed, .quiet i p => (Region.ready .any ops listed).contains i && (Region.free .any ops listed i && p.ok ops (listed.setIfInBounds i true))
  | listed, .alone i p => decide (Region.ready .any ops listed = [i]) && p.ok ops (listed.setIfInBounds i true)
  | listed, .two i p j q => decide (Region.ready .any ops listed = [i, j]) && (p.ok ops (listed.setIfInBounds i true) && q.ok ops (listed.setIfInBounds j true))
def Plan.size : Plan → Nat
  | .done => 0
  | .quiet _ p => p.size + 1
  | .alone _ p => p.size + 1
  | .two _ p _ q => Nat.max p.size q.size + 1
/-- An operation that may make or turn memory, and what comes behind it. -/
def planOp (P : Program) (ops : Array Oper) (R : World → World → Prop) (Q : Exit → Act → World → Prop) (i : Nat) (K : Act → World → Prop) (a : Act) (w : World) : Prop :=
  ∃ o, ops[i]? = some o ∧ if Region.wanted o (yielded ops a.tmps) then o.wp P a w (fun a' w' => R w w' ∧ K a' w') (NoPanic Q) else K (a.put o.dst undef) w
def wpPlan (P : Program) (ops : Array Oper) (R : World → World → Prop) (Q : Exit → Act → World → Prop) : Plan → Act → World → Prop
  | .done, a, w => Q .normal a w
  | .quiet i p, a, w => ∃ o v, ops[i]? = some o ∧ ((Region.wanted o (yielded ops a.tmps) = true ∧ ∀ w', R w w' → (execOp a.eval o).run P w' = .ok (.value v) w') ∨ (Region.wanted o (yielded ops a.tmps) = false ∧ v = undef)) ∧ wpPlan P ops R Q p (a.put o.dst v) w
  | .alone i p, a, w => planOp P ops R Q i (wpPlan P ops R Q p) a w
  | .two i p j q, a, w => planOp P ops R Q i (wpPlan P ops R Q p) a w ∧ planOp P ops R Q j (wpPlan P ops R Q q) a w
variable {R : World → World → Prop}
theorem wpAnyH_of_plan (hrefl : ∀ w, R w w) (htrans : ∀ {x y z}, R x y → R y z → R x z) (hs : Region.noSelect ops = true) :
    ∀ (p : Plan) (fuel : Nat) (listed : Array Bool) (a : Act) (w : World), p.size ≤ fuel → p.ok ops listed = true → wpPlan P ops R Q p a w → wpAnyH P .any ops (NoPanic Q) (R w) fuel listed a w := by
  have key : ∀ (p : Plan), (∀ (fuel : Nat) (listed : Array Bool) (a : Act) (w : World), p.size ≤ fuel → p.ok ops listed = true → wpPlan P ops R Q p a w → wpAnyH P .any ops (NoPanic Q) (R w) fuel listed a w) →
      ∀ (j : Nat) (fuel : Nat) (listed : Array Bool) (a : Act) (w : World), p.size ≤ fuel → p.ok ops (listed.setIfInBounds j true) = true → planOp P ops R Q j (wpPlan P ops R Q p) a w →
        wpOp P ops (NoPanic Q) j (fun a' w' => R w w' ∧ wpAnyH P .any ops (NoPanic Q) (R w) fuel (listed.setIfInBounds j true) a' w') a w := by
    intro p ih j fuel listed a w hl h3 hc
    obtain ⟨o, ho, hc⟩ := hc
    unfold wpOp
    simp only [ho]
    split
    · rename_i hw
      rw [if_pos hw] at hc
      exact .inl (Oper.wp_mono (fun a' w' hh => ⟨hh.1, wpAnyH_weaken (fun z hz => htrans hh.1 hz) fuel _ a' w' (ih fuel _ a' w' hl h3 hh.2)⟩) hc)
    · rename_i hw
      rw [if_neg hw] at hc
      exact ⟨hrefl w, ih fuel _ _ w hl h3 hc⟩
  intro p
  induction p with
  | done =>
    intro fuel listed a w _ hok h
    exact wpAnyH_done (by simpa [Plan.ok] using hok) (NoPanic.normal h) fuel
  | quiet i p ih =>
    intro fuel listed a w hl hok h
    obtain ⟨fuel, rfl⟩ : ∃ k, fuel = k + 1 := ⟨fuel - 1, by simp [Plan.size] at hl; omega⟩
    obtain ⟨o, v, ho, hv, hr⟩ := h
    simp only [Plan.ok, Bool.and_eq_true] at hok
    obtain ⟨h1, h2, h3⟩ := hok
    exact wpAnyH_take ho hs h2 h1 (fun _ _ _ hp => hp) hv (hrefl w) (ih fuel _ _ w (by simp [Plan.size] at hl; omega) h3 hr)
  | alone i p ih =>
    intro fuel listed a w hl hok h
    obtain ⟨fuel, rfl⟩ : ∃ k, fuel = k + 1 := ⟨fuel - 1, by simp [Plan.size] at hl; omega⟩
    simp only [Plan.ok, Bool.and_eq_true, decide_eq_true_eq] at hok
    obtain ⟨h1, h3⟩ := hok
    refine wpAnyH_all h1 (by simp) ?_
    intro j hj
    obtain rfl : j = i := by simpa using hj
    exact key p ih j fuel listed a w (by simp [Plan.size] at hl; omega) h3 h
  | two i p j q ihp ihq =>
    intro fuel listed a w hl hok h
    obtain ⟨fuel, rfl⟩ : ∃ k, fuel = k + 1 := ⟨fuel - 1, by simp [Plan.size] at hl; omega⟩
    simp only [Plan.ok, Bool.and_eq_true, decide_eq_true_eq] at hok
    obtain ⟨h1, h3, h4⟩ := hok
    have hl' : Nat.max p.size q.size ≤ fuel := by simp [Plan.size] at hl; exact hl
    refine wpAnyH_all h1 (by simp) ?_
    intro k hk
    have hk : k = i ∨ k = j := by simpa using hk
    rcases hk with rfl | rfl
    · exact key p ihp k fuel listed a w (Nat.le_trans (Nat.le_max_left _ _) hl') h3 h.1
    · exact key q ihq k fuel listed a w (Nat.le_trans (Nat.le_max_right _ _) hl') h4 h.2
theorem wp_region_plan {id : Nat} {a : Act} {w : World} (R : World → World → Prop) (p : Plan) (hrefl : ∀ w, R w w) (htrans : ∀ {x y z}, R x y → R y z → R x z) (hm : P.follows .mixedOrders = true)
    (hs : Region.noSelect ops = true) (hl : decide (p.size ≤ ops.size) = true) (hok : p.ok ops (Array.replicate ops.size false) = true) (h : wpPlan P ops R Q p a w.drew) : (Code.region id ops true).wp P Q a w :=
  wp_region_noPanic (wp_region_held hm (wpAnyH_of_plan hrefl htrans hs p ops.size _ a _ (by simpa using hl) hok h))
variable {i j : Nat} {p q : Plan} {a : Act} {w : World} {v : Value}
theorem plan_done (h : Q .normal a w) : wpPlan P ops R Q .done a w := h

section
variable {dst : Option Tmp} {op : Op} {ty : TypeId} {pos : String} {af : Array Edge} {gd : Option (Nat × Bool)}
theorem plan_quiet (ho : ops[i]? = some ⟨dst, op, ty, pos, af, gd⟩) (hw : Region.wanted ⟨dst, op, ty, pos, af, gd⟩ (yielded ops a.tmps) = true) (hv : ∀ w', R w w' → (execOp a.eval ⟨dst, op, ty, pos, af, gd⟩).run P w' = .ok (.value v) w') (h : wpPlan P ops R Q p (a.put dst v) w) : wpPlan P ops R Q (.quiet i p) a w :=
  ⟨_, v, ho, .inl ⟨hw, hv⟩, h⟩
theorem plan_op {K0 : Act → World → Prop} (ho : ops[i]? = some ⟨dst, op, ty, pos, af, gd⟩) (hw : Region.wanted ⟨dst, op, ty, pos, af, gd⟩ (yielded ops a.tmps) = true) (h : ∀ K : Act → World → Prop, (∀ a' w', R w w' → K0 a' w' → K a' w') → Oper.wp P ⟨dst, op, ty, pos, af, gd⟩ a w K (NoPanic Q)) : planOp P ops R Q i K0 a w :=
  ⟨_, ho, by rw [if_pos hw]; exact h _ fun _ _ h1 h2 => ⟨h1, h2⟩⟩
theorem plan_alone (h : planOp P ops R Q i (wpPlan P ops R Q p) a w) : wpPlan P ops R Q (.alone i p) a w := h
theorem plan_two (h : planOp P ops R Q i (wpPlan P ops R Q p) a w) (h2 : planOp P ops R Q j (wpPlan P ops R Q q) a w) : wpPlan P ops R Q (.two i p j q) a w := ⟨h, h2⟩
end
end

end Go.Hm
