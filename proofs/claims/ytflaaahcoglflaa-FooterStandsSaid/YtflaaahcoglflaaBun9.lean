/- Texts merged, for a claim has at most 60 files: SmallFo, BoolN, FooW, FooS, PlnC, RefC, RefCur, RefV, PlnD, PlnE, StaQ, SchR. -/
import Derived.BigQuiet
import Derived.Deep.QuietTactic
import Derived.Lib.SlBytesConst
import Derived.Lib.SmallJoins
import Derived.Outline
import Derived.Test.YtflaaahcoglflaaBun1
import Derived.Test.YtflaaahcoglflaaBun3
import Derived.Test.YtflaaahcoglflaaBun4
import Derived.Test.YtflaaahcoglflaaBun6
import Derived.Test.YtflaaahcoglflaaBun8
/- The small case of layer 19's statements. -/

namespace Go.Proofs.Ytflaaahcoglflaa
open Go Go.RowKit Go.Hm
def fG (n : Nat) : List GrD := [(3, some ⟨n + 1 + 1 + 1, 0, none⟩, 1, [(some ⟨n + 1 + 1, 0, none⟩, 2, [fpA, fpB])])]
theorem fG_is (n : Nat) : footP fL 3 (fG n) = fsm := rfl
theorem fG_page {n : Nat} : ∀ g ∈ fG n, ∀ x ∈ g.2.2.2, ∀ p ∈ x.2.2, PageFine p := foot_fine (L := fL) (r := 3) (G := fG n) (by rw [fG_is]; exact fsm_ok) (by rw [fG_is]; exact fsm_data)
theorem sB19 : Try.prog.underlying 28 = some (.slice (Try.prog.elem 28)) := by kernel_rfl
theorem zB19 (w : World) : (sizeOf (Try.prog.elem 28)).run Try.prog w = .ok 1 w := by kernel_rfl
theorem bslice_hF (A : Option Addr) (n c m : Nat) (hc : m ≤ c) (w : World) : (Instr.sliceAt 28 (.slice A n c) none (some (.int .i64 (m : Int))) none).run Try.prog w = .ok (.slice A m c) w := by
  rw [run_sliceAt_slice w _ _ _ _ _ sB19, run_slice_h w _ A n c sB19 .i64 (m : Int) (by omega) (by omega), zB19]
  cases A <;> simp [Result.andThen, sliced, Addr.add]
set_option maxHeartbeats 1000000 in
set_option maxRecDepth 100000 in
theorem fsm_in (w : World) : FootIn ((((((w.alloc (.cells #[.int .i64 0, .bool true, .bool false, .int .i64 1, .string ⟨#[]⟩, .int .i64 0, .int .i64 0, .bool false, .int .i64 2, .string ⟨#[]⟩, .int .i64 0, .int .i64 0] 51)).alloc (.cells #[.string ⟨#[97]⟩, .int .i64 0, .bool false] 55)).alloc (.cells #[.int .i64 5, .int .i64 2, .int .i64 0, .bool true, .bool false, .int .i64 1, .string ⟨#[]⟩, .int .i64 0, .int .i64 0, .bool false, .int .i64 2, .string ⟨#[]⟩, .int .i64 0, .int .i64 0, .int .i64 7, .int .i64 1, .int .i64 0, .bool true, .bool false, .int .i64 1, .string ⟨#[]⟩, .int .i64 0, .int .i64 0, .bool false, .int .i64 2, .string ⟨#[]⟩, .int .i64 0, .int .i64 0] 53)).alloc (.cells #[.slice (some ⟨w.heap.size + 1 + 1, 0, none⟩) 2 2] 40)).alloc (.cells #[.int .i64 3, .slice (some ⟨w.heap.size + 1 + 1 + 1, 0, none⟩) 1 1] 43)).alloc (.cells #[.slice (some ⟨w.heap.size + 1, 0, none⟩) 1 1, .int .i64 3, .slice (some ⟨w.heap.size + 1 + 1 + 1 + 1, 0, none⟩) 1 1] 25)) (some ⟨w.heap.size + 1, 0, none⟩) 1 fL (some ⟨w.heap.size + 1 + 1 + 1 + 1, 0, none⟩) (fG w.heap.size) ∧ New w ((((((w.alloc (.cells #[.int .i64 0, .bool true, .bool false, .int .i64 1, .string ⟨#[]⟩, .int .i64 0, .int .i64 0, .bool false, .int .i64 2, .string ⟨#[]⟩, .int .i64 0, .int .i64 0] 51)).alloc (.cells #[.string ⟨#[97]⟩, .int .i64 0, .bool false] 55)).alloc (.cells #[.int .i64 5, .int .i64 2, .int .i64 0, .bool true, .bool false, .int .i64 1, .string ⟨#[]⟩, .int .i64 0, .int .i64 0, .bool false, .int .i64 2, .string ⟨#[]⟩, .int .i64 0, .int .i64 0, .int .i64 7, .int .i64 1, .int .i64 0, .bool true, .bool false, .int .i64 1, .string ⟨#[]⟩, .int .i64 0, .int .i64 0, .bool false, .int .i64 2, .string ⟨#[]⟩, .int .i64 0, .int .i64 0] 53)).alloc (.cells #[.slice (some ⟨w.heap.size + 1 + 1, 0, none⟩) 2 2] 40)).alloc (.cells #[.int .i64 3, .slice (some ⟨w.heap.size + 1 + 1 + 1, 0, none⟩) 1 1] 43)).alloc (.cells #[.slice (some ⟨w.heap.size + 1, 0, none⟩) 1 1, .int .i64 3, .slice (some ⟨w.heap.size + 1 + 1 + 1 + 1, 0, none⟩) 1 1] 25)) := by
  obtain ⟨W1, h1⟩ : ∃ W, W = (w.alloc (.cells #[.int .i64 0, .bool true, .bool false, .int .i64 1, .string ⟨#[]⟩, .int .i64 0, .int .i64 0, .bool false, .int .i64 2, .string ⟨#[]⟩, .int .i64 0, .int .i64 0] 51)) := ⟨_, rfl⟩
  obtain ⟨W2, h2⟩ : ∃ W, W = W1.alloc (.cells #[.string ⟨#[97]⟩, .int .i64 0, .bool false] 55) := ⟨_, rfl⟩
  obtain ⟨W3, h3⟩ : ∃ W, W = W2.alloc (.cells #[.int .i64 5, .int .i64 2, .int .i64 0, .bool true, .bool false, .int .i64 1, .string ⟨#[]⟩, .int .i64 0, .int .i64 0, .bool false, .int .i64 2, .string ⟨#[]⟩, .int .i64 0, .int .i64 0, .int .i64 7, .int .i64 1, .int .i64 0, .bool true, .bool false, .int .i64 1, .string ⟨#[]⟩, .int .i64 0, .int .i64 0, .bool false, .int .i64 2, .string ⟨#[]⟩, .int .i64 0, .int .i64 0] 53) := ⟨_, rfl⟩
  obtain ⟨W4, h4⟩ : ∃ W, W = W3.alloc (.cells #[.slice (some ⟨w.heap.size + 1 + 1, 0, none⟩) 2 2] 40) := ⟨_, rfl⟩
  obtain ⟨W5, h5⟩ : ∃ W, W = W4.alloc (.cells #[.int .i64 3, .slice (some ⟨w.heap.size + 1 + 1 + 1, 0, none⟩) 1 1] 43) := ⟨_, rfl⟩
  obtain ⟨W6, h6⟩ : ∃ W, W = W5.alloc (.cells #[.slice (some ⟨w.heap.size + 1, 0, none⟩) 1 1, .int .i64 3, .slice (some ⟨w.heap.size + 1 + 1 + 1 + 1, 0, none⟩) 1 1] 25) := ⟨_, rfl⟩
  have e6 : ((((((w.alloc (.cells #[.int .i64 0, .bool true, .bool false, .int .i64 1, .string ⟨#[]⟩, .int .i64 0, .int .i64 0, .bool false, .int .i64 2, .string ⟨#[]⟩, .int .i64 0, .int .i64 0] 51)).alloc (.cells #[.string ⟨#[97]⟩, .int .i64 0, .bool false] 55)).alloc (.cells #[.int .i64 5, .int .i64 2, .int .i64 0, .bool true, .bool false, .int .i64 1, .string ⟨#[]⟩, .int .i64 0, .int .i64 0, .bool false, .int .i64 2, .string ⟨#[]⟩, .int .i64 0, .int .i64 0, .int .i64 7, .int .i64 1, .int .i64 0, .bool true, .bool false, .int .i64 1, .string ⟨#[]⟩, .int .i64 0, .int .i64 0, .bool false, .int .i64 2, .string ⟨#[]⟩, .int .i64 0, .int .i64 0] 53)).alloc (.cells #[.slice (some ⟨w.heap.size + 1 + 1, 0, none⟩) 2 2] 40)).alloc (.cells #[.int .i64 3, .slice (some ⟨w.heap.size + 1 + 1 + 1, 0, none⟩) 1 1] 43)).alloc (.cells #[.slice (some ⟨w.heap.size + 1, 0, none⟩) 1 1, .int .i64 3, .slice (some ⟨w.heap.size + 1 + 1 + 1 + 1, 0, none⟩) 1 1] 25)) = W6 := by rw [h6, h5, h4, h3, h2, h1]
  rw [e6]
  have s1 : W1.heap.size = w.heap.size + 1 := by rw [h1, World.size_alloc]
  have s2 : W2.heap.size = w.heap.size + 1 + 1 := by rw [h2, World.size_alloc, s1]
  have s3 : W3.heap.size = w.heap.size + 1 + 1 + 1 := by rw [h3, World.size_alloc, s2]
  have s4 : W4.heap.size = w.heap.size + 1 + 1 + 1 + 1 := by rw [h4, World.size_alloc, s3]
  have b1 : New w W1 := by rw [h1]; exact (Below.refl _ _).alloc (Nat.le_refl _) _
  have b2 : New W1 W2 := by rw [h2]; exact (Below.refl _ _).alloc (Nat.le_refl _) _
  have b3 : New W2 W3 := by rw [h3]; exact (Below.refl _ _).alloc (Nat.le_refl _) _
  have b4 : New W3 W4 := by rw [h4]; exact (Below.refl _ _).alloc (Nat.le_refl _) _
  have b5 : New W4 W5 := by rw [h5]; exact (Below.refl _ _).alloc (Nat.le_refl _) _
  have b6 : New W5 W6 := by rw [h6]; exact (Below.refl _ _).alloc (Nat.le_refl _) _
  have b46 := New.trans b5 b6
  have b36 := New.trans b4 b46
  have b26 := New.trans b3 b36
  have r2 : Reads W2 W2.heap.size 3 (some ⟨w.heap.size + 1, 0, none⟩) 1 (recs colV fL) := by
    have := Reads.litR W1 55 #[.string ⟨#[97]⟩, .int .i64 0, .bool false] 1 3 (recs colV fL) rfl rfl
    rw [s1, ← h2] at this
    exact this
  have r3 : Reads W3 W3.heap.size 14 (some ⟨w.heap.size + 1 + 1, 0, none⟩) 2 (recs pageV [fpA, fpB]) := by
    have := Reads.litR W2 53 #[.int .i64 5, .int .i64 2, .int .i64 0, .bool true, .bool false, .int .i64 1, .string ⟨#[]⟩, .int .i64 0, .int .i64 0, .bool false, .int .i64 2, .string ⟨#[]⟩, .int .i64 0, .int .i64 0, .int .i64 7, .int .i64 1, .int .i64 0, .bool true, .bool false, .int .i64 1, .string ⟨#[]⟩, .int .i64 0, .int .i64 0, .bool false, .int .i64 2, .string ⟨#[]⟩, .int .i64 0, .int .i64 0] 2 14 (recs pageV [fpA, fpB]) rfl rfl
    rw [s2, ← h3] at this
    exact this
  have r4 : Reads W4 W4.heap.size 1 (some ⟨w.heap.size + 1 + 1 + 1, 0, none⟩) 1 (recs chV [(some ⟨w.heap.size + 1 + 1, 0, none⟩, 2, [fpA, fpB])]) := by
    have := Reads.litR W3 40 #[.slice (some ⟨w.heap.size + 1 + 1, 0, none⟩) 2 2] 1 1 (recs chV [(some ⟨w.heap.size + 1 + 1, 0, none⟩, 2, [fpA, fpB])]) rfl rfl
    rw [s3, ← h4] at this
    exact this
  have r5 : Reads W5 W5.heap.size 2 (some ⟨w.heap.size + 1 + 1 + 1 + 1, 0, none⟩) 1 (recs grV (fG w.heap.size)) := by
    have := Reads.litR W4 43 #[.int .i64 3, .slice (some ⟨w.heap.size + 1 + 1 + 1, 0, none⟩) 1 1] 1 2 (recs grV (fG w.heap.size)) rfl rfl
    rw [s4, ← h5] at this
    exact this
  refine ⟨⟨Reads.later r2 b26, by decide, by decide, by decide, Reads.later r5 b6, by simp [fG], ?_, ?_⟩, New.trans b1 (New.trans b2 b26)⟩
  · intro g hg
    simp only [fG, List.mem_singleton] at hg
    subst hg
    exact ⟨Reads.later r4 b46, by simp⟩
  · intro g hg x hx
    simp only [fG, List.mem_singleton] at hg
    subst hg
    simp only [List.mem_singleton] at hx
    subst hx
    exact ⟨Reads.later r3 b36, by simp⟩
set_option maxHeartbeats 4000000 in
set_option maxRecDepth 100000 in
theorem small19_any (w : World) : Calls Try.prog 7 #[] w (SmallPost w) := by
  obtain ⟨FI, b06⟩ := fsm_in w
  have P1 := fencode_any (cc := 1) (cg := 1) (r := 3) FI fG_page
  rw [fG_is, fsm_enc] at P1
  have P1 : Hid (Calls Try.prog 9 #[.agg #[.slice (some ⟨w.heap.size + 1, 0, none⟩) 1 1, .int .i64 3, .slice (some ⟨w.heap.size + 1 + 1 + 1 + 1, 0, none⟩) 1 1]] ((((((w.alloc (.cells #[.int .i64 0, .bool true, .bool false, .int .i64 1, .string ⟨#[]⟩, .int .i64 0, .int .i64 0, .bool false, .int .i64 2, .string ⟨#[]⟩, .int .i64 0, .int .i64 0] 51)).alloc (.cells #[.string ⟨#[97]⟩, .int .i64 0, .bool false] 55)).alloc (.cells #[.int .i64 5, .int .i64 2, .int .i64 0, .bool true, .bool false, .int .i64 1, .string ⟨#[]⟩, .int .i64 0, .int .i64 0, .bool false, .int .i64 2, .string ⟨#[]⟩, .int .i64 0, .int .i64 0, .int .i64 7, .int .i64 1, .int .i64 0, .bool true, .bool false, .int .i64 1, .string ⟨#[]⟩, .int .i64 0, .int .i64 0, .bool false, .int .i64 2, .string ⟨#[]⟩, .int .i64 0, .int .i64 0] 53)).alloc (.cells #[.slice (some ⟨w.heap.size + 1 + 1, 0, none⟩) 2 2] 40)).alloc (.cells #[.int .i64 3, .slice (some ⟨w.heap.size + 1 + 1 + 1, 0, none⟩) 1 1] 43)).alloc (.cells #[.slice (some ⟨w.heap.size + 1, 0, none⟩) 1 1, .int .i64 3, .slice (some ⟨w.heap.size + 1 + 1 + 1 + 1, 0, none⟩) 1 1] 25)) (OptB (some (footL fsm)) ((((((w.alloc (.cells #[.int .i64 0, .bool true, .bool false, .int .i64 1, .string ⟨#[]⟩, .int .i64 0, .int .i64 0, .bool false, .int .i64 2, .string ⟨#[]⟩, .int .i64 0, .int .i64 0] 51)).alloc (.cells #[.string ⟨#[97]⟩, .int .i64 0, .bool false] 55)).alloc (.cells #[.int .i64 5, .int .i64 2, .int .i64 0, .bool true, .bool false, .int .i64 1, .string ⟨#[]⟩, .int .i64 0, .int .i64 0, .bool false, .int .i64 2, .string ⟨#[]⟩, .int .i64 0, .int .i64 0, .int .i64 7, .int .i64 1, .int .i64 0, .bool true, .bool false, .int .i64 1, .string ⟨#[]⟩, .int .i64 0, .int .i64 0, .bool false, .int .i64 2, .string ⟨#[]⟩, .int .i64 0, .int .i64 0] 53)).alloc (.cells #[.slice (some ⟨w.heap.size + 1 + 1, 0, none⟩) 2 2] 40)).alloc (.cells #[.int .i64 3, .slice (some ⟨w.heap.size + 1 + 1 + 1, 0, none⟩) 1 1] 43)).alloc (.cells #[.slice (some ⟨w.heap.size + 1, 0, none⟩) 1 1, .int .i64 3, .slice (some ⟨w.heap.size + 1 + 1 + 1 + 1, 0, none⟩) 1 1] 25)))) := Lib.hid P1
  have BF := Blk.new (((((w.alloc (.cells #[.int .i64 0, .bool true, .bool false, .int .i64 1, .string ⟨#[]⟩, .int .i64 0, .int .i64 0, .bool false, .int .i64 2, .string ⟨#[]⟩, .int .i64 0, .int .i64 0] 51)).alloc (.cells #[.string ⟨#[97]⟩, .int .i64 0, .bool false] 55)).alloc (.cells #[.int .i64 5, .int .i64 2, .int .i64 0, .bool true, .bool false, .int .i64 1, .string ⟨#[]⟩, .int .i64 0, .int .i64 0, .bool false, .int .i64 2, .string ⟨#[]⟩, .int .i64 0, .int .i64 0, .int .i64 7, .int .i64 1, .int .i64 0, .bool true, .bool false, .int .i64 1, .string ⟨#[]⟩, .int .i64 0, .int .i64 0, .bool false, .int .i64 2, .string ⟨#[]⟩, .int .i64 0, .int .i64 0] 53)).alloc (.cells #[.slice (some ⟨w.heap.size + 1 + 1, 0, none⟩) 2 2] 40)).alloc (.cells #[.int .i64 3, .slice (some ⟨w.heap.size + 1 + 1 + 1, 0, none⟩) 1 1] 43)) 25 #[.slice (some ⟨w.heap.size + 1, 0, none⟩) 1 1, .int .i64 3, .slice (some ⟨w.heap.size + 1 + 1 + 1 + 1, 0, none⟩) 1 1]
  have BS := Blk.new w 51 #[.int .i64 0, .bool true, .bool false, .int .i64 1, .string ⟨#[]⟩, .int .i64 0, .int .i64 0, .bool false, .int .i64 2, .string ⟨#[]⟩, .int .i64 0, .int .i64 0]
  simp only [World.size_alloc] at BF
  obtain ⟨z0, z1, z2, z3, z4, z5, z6, z7, z8, z9, z10, z11⟩ := cells12 BS
  go_enter Try.func7, Try.ntmps7
  go_wp2_with fail
  refine P1.out.mono ?_
  rintro e w1 ⟨A1, n1, c1, rfl, o1, b1⟩
  have BF := BF.below b1 BF.lt
  have FI := FI.later b1
  have b01 := New.trans b06 b1
  clear z0 z1 z2 z3 z4 z5 z6 z7 z8 z9 z10 z11 BS P1 b06 b1
  have hGp : ∀ g ∈ fG w.heap.size, ∀ x ∈ g.2.2.2, ∀ p ∈ x.2.2, PageFine p := fG_page
  have hGi := fG_is w.heap.size
  have hGl : (fG w.heap.size).length = 1 := rfl
  generalize fG w.heap.size = G at *
  generalize hg5 : w.heap.size + 1 + 1 + 1 + 1 + 1 = g5 at *
  generalize hac : (some ⟨w.heap.size + 1, 0, none⟩ : Option Addr) = Ac at *
  generalize hag : (some ⟨w.heap.size + 1 + 1 + 1 + 1, 0, none⟩ : Option Addr) = Ag at *
  clear hg5 hac hag
  have HGP := Lib.hid hGp
  have HGI := Lib.hid hGi
  have HGL := Lib.hid hGl
  obtain ⟨r, hr⟩ := fsm_bytes
  have hr9 : 9 ≤ (footL fsm).length := by rw [hr]; simp
  have hn1 : n1 = (footL fsm).length := by have := o1.len; rwa [nums_length] at this
  have h19 : 9 ≤ n1 := by omega
  have hc1 : n1 ≤ c1 := o1.cap.1
  have hlen := fsm_len
  have P2 := fdecode_any (c := c1) o1.reads (footL_byte fsm_ok fsm_data) (by omega)
  rw [fsm_dec] at P2
  have P2 := Lib.hid P2
  have HR := Lib.hid hr
  have hn1b : n1 ≤ 1000000 := by omega
  have HN1 := Lib.hid hn1
  clear hGp hGi hGl hr hn1 hr9 hlen
  go_wp2_with fail
  refine P2.out.mono ?_
  rintro e w2 ⟨Ac2, cc2, L2, r2, Ag2, cg2, G2, rfl, hP2, ⟨FI2, hcg2⟩, b2⟩
  unfold footA
  have o1 := o1.later b2
  have BF := BF.below b2 BF.lt
  have FI := FI.later b2
  have b02 := New.trans b01 b2
  have eP : footP L2 r2 G2 = ⟨L2, r2, G2.map grP⟩ := rfl
  rw [eP] at hP2
  have hPG : G2.map grP = G.map grP := by
    have h1 := congrArg FootS.groups hP2
    have h2 := congrArg FootS.groups HGI.out
    exact h1.trans h2.symm
  obtain rfl : L2 = fL := congrArg FootS.cols hP2
  obtain rfl : r2 = 3 := congrArg FootS.rows hP2
  have HPG := Lib.hid hPG
  clear P2 b01 b2 eP hP2 hPG hcg2
  obtain ⟨x0, x1, x2⟩ := ccells BF
  have HFG := Lib.hid (fun (W : World) (hW : New w2 W) => show Calls Try.prog 14 #[.agg #[.slice Ac 1 1, .int .i64 3, .slice Ag 1 1], .int .i64 0, .int .i64 0] W (SpansPost [(0, 2), (2, 3)] W) from by
    have := fspans_any (cc := 1) (r := 3) (cg := 1) (FI.later hW) (fun g hg x hx p hp => (HGP.out g hg x hx p hp).stat) (by rw [HGL.out]; exact Nat.le_refl _) (g := 0) (c := 0)
    rw [HGI.out, fsm_spans] at this
    unfold footA at this
    rw [HGL.out] at this
    exact this)
  have BX2 := Blk.new w2 25 #[.slice Ac2 fL.length cc2, .int .i64 3, .slice Ag2 G2.length cg2]
  have ba : New w2 (w2.alloc (.cells #[.slice Ac2 fL.length cc2, .int .i64 3, .slice Ag2 G2.length cg2] 25)) := (Below.refl _ _).alloc (Nat.le_refl _) _
  have BFa := BF.below ba BF.lt
  have b03 := New.trans b02 ba
  have P3 := Lib.hid (HFG.out _ ba)
  clear BF b02 x0 x1 x2
  obtain ⟨x0, x1, x2⟩ := ccells BFa
  go_wp2_with fail
  clear x0 x1 x2
  refine P3.out.mono ?_
  rintro e w3 ⟨A3, n3, c3, rfl, o3, b3⟩
  obtain rfl : n3 = 2 := (Reads.of_own o3).lenP
  have BF := BFa.below b3 BFa.lt
  have BX2 := BX2.below b3 BX2.lt
  have b23 := New.trans ba b3
  have b03 := New.trans b03 b3
  clear BFa P3 ba b3
  have FZ : FootIn w3 none 0 [] none [] := ⟨Reads.none_, by simp, by simp, by simp, Reads.none_, by simp, by simp, by simp⟩
  have P4 := fencode_any (cc := 0) (cg := 0) (r := 0) FZ (by simp)
  rw [show footP [] 0 [] = fz from rfl, fz_enc] at P4
  have P4 : Hid (Calls Try.prog 9 #[.agg #[.slice none 0 0, .int .i64 0, .slice none 0 0]] w3 (OptB (some [0, 0, 0]) w3)) := Lib.hid P4
  go_wp2_with fail
  refine P4.out.mono ?_
  rintro e w4 ⟨A4, n4, c4, rfl, o4, b4⟩
  have o3 := row_later o3 b4
  have BF := BF.below b4 BF.lt
  have BX2 := BX2.below b4 BX2.lt
  have b24 := New.trans b23 b4
  have b04 := New.trans b03 b4
  clear P4 FZ b23 b4 b03
  have k4 : n4 = 3 := by have := o4.len; simpa [nums] using this
  subst k4
  have o1b := o1.later b24
  have hE : Go.Hm.Own (w4.alloc (.cells #[] 5)) w4.heap.size 5 (.slice (some ⟨w4.heap.size, 0, none⟩) 0 0) (nums .u8 []) := Own.empty _ _
  have r1 : Reads (w4.alloc (.cells #[] 5)) (w4.alloc (.cells #[] 5)).heap.size 1 A1 n1 (nums .u8 (footL fsm)) := Reads.later o1b.reads ((Below.refl _ _).alloc (Nat.le_refl _) _)
  have ba : New w4 (w4.alloc (.cells #[] 5)) := (Below.refl _ _).alloc (Nat.le_refl _) _
  have hza : w4.heap.size ≤ (w4.alloc (.cells #[] 5)).heap.size := ba.size
  go_wp2_with (first
    | (refine wpList_pushesN elB rfl (.tmp 44) (.tmp 45) rfl (W := w4) (B := w4.heap.size) hE r1 rfl rfl ba (Nat.le_refl _) hza (by omega) (by simp only [maxLen]; omega) ?_
       simp only [Nat.zero_add, List.nil_append]
       intro A5 c5 w5 hc5 _ o5 g5' b5 _)
    | (refine wpList_pushN elB rfl (.tmp 46) (.tmp 47) rfl (W := w4) (B := w4.heap.size) o5 rfl rfl 0 rfl b5 (Nat.le_refl _) b5.size (by omega) (by simp only [maxLen]; omega) ?_
       intro A6 c6 w6 _ _ o6 g6 b6 _ _))
  have P7 := fdecode_any (c := c6) o6.reads (by intro x hx; rcases List.mem_append.1 hx with hx | hx; exact footL_byte fsm_ok fsm_data x hx; simp at hx; omega) (by omega)
  rw [fsm_no] at P7
  have P7 := Lib.hid P7
  clear hE r1 ba hza hc5 o5 g5' b5 o6 g6
  refine P7.out.mono ?_
  rintro e w7 ⟨rfl, b7⟩
  have b47 := New.trans b6 b7
  have ba : New w7 (w7.alloc (.cells #[.slice none 0 0, .int .i64 0, .slice none 0 0] 25)) := (Below.refl _ _).alloc (Nat.le_refl _) _
  have b48 := New.trans b47 ba
  have o3 := row_later o3 b48
  have o4 := o4.later b48
  have o1b := o1b.later b48
  have BF := BF.below b48 BF.lt
  have BX2 := BX2.below b48 BX2.lt
  have b08 := New.trans b04 b48
  have b28 := New.trans b24 b48
  clear P7 b6 b7 b47 ba b48 b04 b24 o1
  obtain ⟨ad3, rfl, -, f0, f1⟩ := (Reads.of_own o3).pair2 (i := 1) (by omega)
  have f0 : (w7.alloc (.cells #[.slice none 0 0, .int .i64 0, .slice none 0 0] 25)).cell? ⟨ad3.block, ad3.off + 2, none⟩ = some (.int .i64 2) := f0
  have f1 : (w7.alloc (.cells #[.slice none 0 0, .int .i64 0, .slice none 0 0] 25)).cell? ⟨ad3.block, ad3.off + 3, none⟩ = some (.int .i64 3) := f1
  have r9 : Reads (w7.alloc (.cells #[.slice none 0 0, .int .i64 0, .slice none 0 0] 25)) (w7.alloc (.cells #[.slice none 0 0, .int .i64 0, .slice none 0 0] 25)).heap.size 1 A1 9 (nums .u8 [1, 1, 97, 0, 0, 3, 1, 3, 2]) := by
    have := o1b.reads.take (k := 9) h19
    rw [HR.out] at this
    exact this
  have SH := fun W => bslice_hF A1 n1 c1 9 (by omega) W
  have X1 := run_strB (c := c1) r9
  have HS := f_b9
  have x9 : ¬ (n1 : Int) < 9 := by omega
  have LSm := Lib.hid (fun (W : World) (hW : New w2 W) => show Calls Try.prog 19 #[.agg #[.slice Ac 1 1, .int .i64 3, .slice Ag 1 1], .agg #[.slice Ac2 fL.length cc2, .int .i64 3, .slice Ag2 G2.length cg2]] W (NewPost (.bool true) W) from by
    have := fsame_any (r := 3) (c1 := 1) (k1 := 1) (c2 := cc2) (k2 := cg2) (FI.later hW) (FI2.later hW) HPG.out.symm
    unfold footA at this
    rw [HGL.out] at this
    exact this)
  have LPl := Lib.hid (fun (W : World) (hW : New w2 W) (g c p : Int) => show Calls Try.prog 16 #[.agg #[.slice Ac 1 1, .int .i64 3, .slice Ag 1 1], .int .i64 g, .int .i64 c, .int .i64 p] W (NewPost (.int .i64 (placeF fsm g c p)) W) from by
    have := place_any (cc := 1) (r := 3) (cg := 1) (FI.later hW) (fun g hg x hx p hp => (HGP.out g hg x hx p hp).stat) (g := g) (c := c) (p := p)
    rw [HGI.out] at this
    unfold footA at this
    rw [HGL.out] at this
    exact this)
  have LRt := Lib.hid (fun (W : World) (hW : New w2 W) => show Calls Try.prog 11 #[.agg #[.slice Ac 1 1, .int .i64 3, .slice Ag 1 1]] W (NewPost (.bool true) W) from by
    have := fright_any (cc := 1) (r := 3) (cg := 1) (FI.later hW) (fun g hg x hx p hp => (HGP.out g hg x hx p hp).stat)
    rw [HGI.out, rightF_yes fsm_ok] at this
    unfold footA at this
    rw [HGL.out] at this
    exact this)
  have LRo := Lib.hid (fun (W : World) => show Calls Try.prog 11 #[.agg #[.slice none 0 0, .int .i64 1, .slice none 0 0]] W (NewPost (.bool false) W) from by
    have := fright_any (w := W) (cc := 0) (r := 1) (cg := 0) (L := []) (Ac := none) (Ag := none) (G := []) ⟨Reads.none_, by simp, by simp, by simp, Reads.none_, by simp, by simp, by simp⟩ (by simp)
    rw [show rightF (footP [] 1 []) = false from rightF_no one_no] at this
    exact this)
  obtain ⟨pl1, pl2, pl3⟩ := fsm_place
  obtain ⟨x0, x1, x2⟩ := ccells BF
  obtain ⟨y0, y1, y2⟩ := ccells BX2
  go_wp2_with fail
  refine (LSm.out _ b28).mono ?_
  rintro e w9 ⟨rfl, b9⟩
  have o3 := row_later o3 b9
  obtain ⟨ad3', e3, -, f0, f1⟩ := (Reads.of_own o3).pair2 (i := 1) (by omega)
  injection e3 with e3
  subst e3
  have f0 : w9.cell? ⟨ad3.block, ad3.off + 2, none⟩ = some (.int .i64 2) := f0
  have f1 : w9.cell? ⟨ad3.block, ad3.off + 3, none⟩ = some (.int .i64 3) := f1
  have X2 := run_strB (c := c4) (o4.later b9).reads
  have HS2 := f_b3
  have BF9 := BF.below b9 BF.lt
  have b29 := New.trans b28 b9
  have b09 := New.trans b08 b9
  clear BF BX2 X1 HS SH r9 o3 x0 x1 x2 y0 y1 y2 b9 b08 b28 LSm
  obtain ⟨x0, x1, x2⟩ := ccells BF9
  go_wp2_with fail
  have P := LPl.out _ b29 0 0 1
  rw [pl1] at P
  refine P.mono ?_
  rintro e wa ⟨rfl, ba⟩
  have BFa := BF9.below ba BF9.lt
  have b2a := New.trans b29 ba
  have b0a := New.trans b09 ba
  clear P x0 x1 x2 BF9 ba b29 b09 f0 f1 X2 HS2
  obtain ⟨x0, x1, x2⟩ := ccells BFa
  go_wp2_with fail
  have P := LPl.out _ b2a 1 0 0
  rw [pl2] at P
  refine P.mono ?_
  rintro e wb ⟨rfl, bb⟩
  have BFb := BFa.below bb BFa.lt
  have b2b := New.trans b2a bb
  have b0b := New.trans b0a bb
  clear P x0 x1 x2 BFa bb b2a b0a
  obtain ⟨x0, x1, x2⟩ := ccells BFb
  go_wp2_with fail
  have P := LPl.out _ b2b 0 0 2
  rw [pl3] at P
  refine P.mono ?_
  rintro e wc ⟨rfl, bc⟩
  have BFc := BFb.below bc BFb.lt
  have b2c := New.trans b2b bc
  have b0c := New.trans b0b bc
  clear P x0 x1 x2 BFb bc b2b b0b
  obtain ⟨x0, x1, x2⟩ := ccells BFc
  go_wp2_with fail
  refine (LRt.out _ b2c).mono ?_
  rintro e wd ⟨rfl, bd⟩
  have b0d := New.trans b0c bd
  go_wp2_with fail
  refine (LRo.out _).mono ?_
  rintro e we ⟨rfl, be⟩
  have b0e := New.trans b0d be
  go_wp2
  go_ret
  exact ⟨rfl, b0e⟩

end Go.Proofs.Ytflaaahcoglflaa
/- Some truth is told, and nothing that was is turned. -/

namespace Go.Proofs.Ytflaaahcoglflaa
open Go.RowKit Go.Hm
/-- Some truth; nothing that was is turned. -/
def BoolNew (w : World) (e : Ending) (w' : World) : Prop := ∃ b, e = .returned (.bool b) ∧ New w w'

end Go.Proofs.Ytflaaahcoglflaa
/- The contract of law19.Few. -/

namespace Go.Proofs.Ytflaaahcoglflaa
open Go.RowKit Go.Hm
set_option maxHeartbeats 4000000 in
set_option maxRecDepth 100000 in
theorem few19_any {w : World} {Ac : Option Addr} {cc : Nat} {L : List ColS} {r : Int} {Ag : Option Addr} {cg : Nat} {G : List GrD} (h : FootIn w Ac cc L Ag G) (hp : ∀ g ∈ G, ∀ x ∈ g.2.2.2, ∀ p ∈ x.2.2, PageFine p) :
    Calls Try.prog 8 #[footA Ac cc L r Ag cg G] w (BoolNew w) := by
  have b0 : New w (w.alloc (.cells #[.slice Ac L.length cc, .int .i64 r, .slice Ag G.length cg] 25)) := (Below.refl _ _).alloc (Nat.le_refl _) _
  have B0 := Blk.new w 25 #[.slice Ac L.length cc, .int .i64 r, .slice Ag G.length cg]
  have HG := Lib.hid h.groups
  have HL := Lib.hid h.cols
  have HF := Lib.hid h.fine
  have HCH := Lib.hid h.chunks
  have HPG := Lib.hid h.pages
  have HP := Lib.hid hp
  have l1 := h.few
  have l2 := h.few2
  clear h hp
  show Calls Try.prog 8 #[.agg #[.slice Ac L.length cc, .int .i64 r, .slice Ag G.length cg]] w (BoolNew w)
  go_enter Try.func8, Try.ntmps8
  go_wp2_with fail
  go_loopw [3, 4] (fun v i wr => ∃ (k : Nat) (x : Int), i = .int .i64 (k : Int) ∧ v = .int .i64 x ∧ k ≤ L.length ∧ Blk wr w.heap.size 25 #[.slice Ac L.length cc, .int .i64 r, .slice Ag G.length cg] ∧ New w wr) (fun _ i _ => L.length - (intOf i).toNat)
  case atStart => exact ⟨0, 0, rfl, rfl, by omega, B0, b0⟩
  case round =>
    obtain ⟨k, x, rfl, rfl, hk, B, b⟩ := hrel
    clear B0 b0
    obtain ⟨x0, x1, x2⟩ := ccells B
    by_cases hlt : k < L.length
    · obtain ⟨ad, rfl, hbk, d0, d1, d2⟩ := (Reads.later HL.out b).colT hlt
      have hx := (HF.out _ (mem_getDF colZ hlt)).2
      generalize (L.getD k ([], 0, false)).1 = s2 at *
      have zs := bstr_size s2
      have hiz : (k : Int) < (L.length : Int) := by omega
      generalize hy : IntKind.i64.wrap (x + (s2.length : Int)) = y
      go_wp2
      go_roundw
      case rel => exact ⟨k + 1, _, by go_num, rfl, by omega, B, b⟩
      case measure => simp [intOf]; omega
    · obtain rfl : k = L.length := by omega
      go_wp2_with fail
      clear x0 x1 x2
      go_loopw [3, 5] (fun v i wr => ∃ (k : Nat) (x : Int), i = .int .i64 (k : Int) ∧ v = .int .i64 x ∧ k ≤ G.length ∧ Blk wr w.heap.size 25 #[.slice Ac L.length cc, .int .i64 r, .slice Ag G.length cg] ∧ New w wr) (fun _ i _ => G.length - (intOf i).toNat)
      case atStart => exact ⟨0, _, rfl, rfl, by omega, B, b⟩
      case round =>
        clear B b
        obtain ⟨k, x, rfl, rfl, hk, B, b⟩ := hrel
        obtain ⟨x0, x1, x2⟩ := ccells B
        by_cases hlt : k < G.length
        · obtain ⟨ad, rfl, hb, -⟩ := (Reads.later HG.out b).gr2 hlt
          have FG := Lib.hid (fun (W : World) (hW : New w W) => show W.cell? (ad.add (k * 2)) = some (.int .i64 (G.getD k grZ).1) ∧ W.cell? ⟨(ad.add (k * 2)).block, (ad.add (k * 2)).off + 1, none⟩ = some (.slice (G.getD k grZ).2.1 (G.getD k grZ).2.2.2.length (G.getD k grZ).2.2.1) from by
            obtain ⟨al', e, _, f⟩ := (Reads.later HG.out hW).gr2 hlt
            injection e with e
            subst e
            exact f)
          have hgm := mem_getDF grZ hlt
          have hch := HCH.out _ hgm
          have hpg := HPG.out _ hgm
          have hpp := HP.out _ hgm
          clear hgm hb
          generalize G.getD k grZ = gg at *
          obtain ⟨gr, Ach, cch, D⟩ := gg
          dsimp only at FG hch hpg hpp
          have HCHk := Lib.hid hch.1
          have hchl := hch.2
          have HPGk := Lib.hid hpg
          have HPPk := Lib.hid hpp
          have hiz : (k : Int) < (G.length : Int) := by omega
          clear hch hpg hpp
          generalize hy : IntKind.i64.wrap (x + 10) = y
          go_wp2_with fail
          clear x0 x1 x2 hy
          go_loopw [3, 6] (fun v i wr => ∃ (j : Nat) (x : Int), i = .int .i64 (j : Int) ∧ v = .int .i64 x ∧ j ≤ D.length ∧ Blk wr w.heap.size 25 #[.slice Ac L.length cc, .int .i64 r, .slice (some ad) G.length cg] ∧ New w wr) (fun _ i _ => D.length - (intOf i).toNat)
          case atStart => exact ⟨0, _, rfl, rfl, by omega, B, b⟩
          case round =>
            clear B b
            obtain ⟨j, x, rfl, rfl, hj, B, b⟩ := hrel
            obtain ⟨x0, x1, x2⟩ := ccells B
            obtain ⟨d0, d1⟩ := FG.out _ b
            by_cases hlj : j < D.length
            · obtain ⟨ac, rfl, hbc, e0⟩ := (Reads.later HCHk.out b).ch1 hlj
              have hxm := mem_getDF chZ hlj
              have hpx := HPGk.out _ hxm
              have hsx := HPPk.out _ hxm
              clear hbc hxm
              generalize D.getD j chZ = xx at *
              obtain ⟨Ax, cx, pl⟩ := xx
              dsimp only at e0 hpx hsx
              have HPL := Lib.hid hpx.1
              have HSX := Lib.hid hsx
              have hpn := hpx.2
              have hjz : (j : Int) < (D.length : Int) := by omega
              clear hpx hsx
              generalize hy : IntKind.i64.wrap (x + 5) = y
              go_wp2_with fail
              clear x0 x1 x2 d0 d1 e0 hy
              go_loopw [3, 8] (fun v i wr => ∃ (q : Nat) (x : Int), i = .int .i64 (q : Int) ∧ v = .int .i64 x ∧ q ≤ pl.length ∧ Blk wr w.heap.size 25 #[.slice Ac L.length cc, .int .i64 r, .slice (some ad) G.length cg] ∧ New w wr) (fun _ i _ => pl.length - (intOf i).toNat)
              case atStart => exact ⟨0, _, rfl, rfl, by omega, B, b⟩
              case round =>
                clear B b
                obtain ⟨q, x, rfl, rfl, hq, B, b⟩ := hrel
                by_cases hlq : q < pl.length
                · obtain ⟨ap, rfl, hbp, g0, g1, g2, g3, g4, g5, g6, g7, g8, g9, g10, g11, g12, g13⟩ := (Reads.later HPL.out b).page14 hlq
                  have hf := HSX.out _ (mem_getDF pageZ hlq)
                  have hq1 := hf.1.1.1.1.1
                  have hq2 := hf.1.1.2.1.1
                  clear hf hbp g0 g1 g2 g3 g4 g5 g7 g8 g9 g10 g12 g13
                  generalize (pl.getD q pageZ).2.2.2.2.1.2.2.1 = s1 at *
                  generalize (pl.getD q pageZ).2.2.2.2.2.2.2.1 = s2 at *
                  have zs1 := bstr_size s1
                  have zs2 := bstr_size s2
                  have hqz : (q : Int) < (pl.length : Int) := by omega
                  generalize hy1 : IntKind.i64.wrap (x + 10) = y1
                  generalize hy2 : IntKind.i64.wrap (y1 + (s1.length : Int)) = y2
                  generalize hy3 : IntKind.i64.wrap (y2 + (s2.length : Int)) = y3
                  go_wp2
                  go_quiet (fail)
                  have hb5 := fun q => New.trans b (new_drewN wr q)
                  have B5 := fun q => B.below (new_drewN wr q) B.lt
                  go_wp2
                  go_roundw
                  case rel => exact ⟨q + 1, _, by go_num, rfl, by omega, B5 _, hb5 _⟩
                  case measure => simp [intOf]; omega
                · obtain rfl : q = pl.length := by omega
                  go_wp2
                  go_roundw
                  case rel => exact ⟨j + 1, _, by go_num, rfl, by omega, B, b⟩
                  case measure => simp [intOf]; omega
            · obtain rfl : j = D.length := by omega
              go_wp2
              go_roundw
              case rel => exact ⟨k + 1, _, by go_num, rfl, by omega, B, b⟩
              case measure => simp [intOf]; omega
        · obtain rfl : k = G.length := by omega
          go_wp2
          all_goals go_ret
          all_goals exact ⟨_, rfl, b⟩

end Go.Proofs.Ytflaaahcoglflaa
/- The contract of the answer's Right (layer 19). -/

namespace Go.Hm
open Go Go.RowKit
theorem FootTo.no_rowsR {L : List ColS} {G : List GroupS} {k : Nat} {rows size r : Int} (h : FootTo L G k rows size) (hk : k < G.length) (hb : (G.getD k groupZ).1 < 1 ∨ r - rows < (G.getD k groupZ).1 ∨ (G.getD k groupZ).2.length ≠ L.length) : ¬ FootOk ⟨L, r, G⟩ := fun hF => by
  have hg := hF.2.1 (G.getD k groupZ) (mem_getDF groupZ hk)
  have h1 := sum_take_succ (fun g : GroupS => g.1) G k groupZ hk
  have h2 := sum_take_le (fun g : GroupS => g.1) G (k + 1) (fun g hg => by have := (hF.2.1 g hg).1; omega)
  have h3 := h.rows_
  have h4 := hF.2.2.1
  dsimp only at h4
  rcases hb with hb | hb | hb
  · have := hg.1; omega
  · omega
  · exact hb hg.2.1
/-- What the answer's chunk tells of a chunk of a group. -/
theorem chunk_tells {t : Int} {nu : Bool} {l : List PageS} {gr sz : Int} (hg : 1 ≤ gr ∧ gr ≤ 65536) (hs : 0 ≤ sz) :
    ((rchunkS t nu l 0 0).1 = gr → ChunkOk t nu l gr ∧ (rchunkS t nu l 0 0).2 = sizesL l) ∧ ((rchunkS t nu l 0 0).1 ≠ gr → ¬ ChunkOk t nu l gr ∨ 1073741824 < sz + sizesL l) := by
  constructor
  · intro e
    rcases rchunkS_or (t := t) (nu := nu) l 0 0 with h | ⟨h1, h2⟩
    · rw [h] at e
      dsimp only at e
      omega
    · rw [h2] at e ⊢
      dsimp only at e ⊢
      exact ⟨⟨h1, by omega⟩, by omega⟩
  · intro e
    by_cases hc : ChunkOk t nu l gr
    · refine .inr ?_
      rcases Int.lt_or_le 1073741824 (sz + sizesL l) with h | h
      · exact h
      · exfalso
        have hr := hc.2
        rw [rchunkS_yes l 0 0 hc.1 (by omega) (by omega)] at e
        dsimp only at e
        omega
    · exact .inl hc

end Go.Hm

namespace Go.Proofs.Ytflaaahcoglflaa
open Go.RowKit Go.Hm
set_option maxHeartbeats 4000000 in
set_option maxRecDepth 100000 in
theorem rfright_any {w : World} {Ac : Option Addr} {cc : Nat} {L : List ColS} {r : Int} {Ag : Option Addr} {cg : Nat} {G : List GrD} (h : FootIn w Ac cc L Ag G) (hp : ∀ g ∈ G, ∀ x ∈ g.2.2.2, ∀ p ∈ x.2.2, statFine p.2.2) (hr8 : -9223372036854775808 ≤ r ∧ r ≤ 9223372036854775807) :
    Calls Try.prog 12 #[footA Ac cc L r Ag cg G] w (NewPost (.bool (rightF (footP L r G))) w) := by
  have CK := Lib.hid (fun (W : World) (hW : New w W) => rcols_any (c := cc) (Reads.later h.cols hW) h.fine h.few)
  have HG := Lib.hid h.groups
  have HL := Lib.hid h.cols
  have hfew := h.few
  have hfew2 := h.few2
  have HCH := Lib.hid h.chunks
  have HPG := Lib.hid h.pages
  have HP := Lib.hid hp
  have HY := Lib.hid (fun e : FootOk (footP L r G) => rightF_yes e)
  have HN := Lib.hid (fun e : ¬ FootOk (footP L r G) => rightF_no e)
  have hz : FootTo L (G.map grP) 0 0 0 := FootTo.zero _ _
  have HZ := Lib.hid hz
  have hbig : FootOk (footP L r G) → 0 ≤ r ∧ r ≤ 65536 := fun e => by
    have h1 := e.2.2.1
    have h2 := e.2.2.2.1
    have h3 := sum_nonneg (fun g : GroupS => g.1) (footP L r G).groups (fun g hg => by have := (e.2.1 g hg).1; omega)
    rw [h1] at h3
    exact ⟨h3, h2⟩
  clear h hp hz
  generalize rightF (footP L r G) = M at *
  unfold footP at HY HN hbig
  have HMap := Lib.hid (fun (k : Nat) (hk : k < G.length) => getD_mapX grP G (k := k) grZ groupZ hk)
  have HLen := Lib.hid (show (G.map grP).length = G.length from List.length_map ..)
  generalize hGP : G.map grP = GP at *
  have hck := colsCk_iff L
  clear hGP
  show Calls Try.prog 12 #[.agg #[.slice Ac L.length cc, .int .i64 r, .slice Ag G.length cg]] w (NewPost (.bool M) w)
  have B0 := Blk.new w 25 #[.slice Ac L.length cc, .int .i64 r, .slice Ag G.length cg]
  have b0 : New w (w.alloc (.cells #[.slice Ac L.length cc, .int .i64 r, .slice Ag G.length cg] 25)) := (Below.refl _ _).alloc (Nat.le_refl _) _
  obtain ⟨x0, x1, x2⟩ := ccells B0
  go_enter Try.func12, Try.ntmps12
  go_wp2_with fail
  refine (CK.out _ b0).mono ?_
  rintro e w1 ⟨rfl, b1⟩
  have B1 := B0.below b1 B0.lt
  have b01 := New.trans b0 b1
  clear CK B0 b0 b1 x0 x1 x2
  obtain ⟨x0, x1, x2⟩ := ccells B1
  by_cases hk0 : colsCk L = 0
  · have hcok := hck.1 hk0
    have HCO := Lib.hid hcok
    rw [hk0]
    clear hck hk0 hcok
    by_cases hr0 : r < 0
    · have hM := Lib.hid (HN.out (fun e => by have := hbig e; omega))
      clear HY HN hbig
      go_wp2
      go_ret
      exact ⟨by rw [hM.out]; rfl, b01⟩
    by_cases hr1 : 65536 < r
    · have hM := Lib.hid (HN.out (fun e => by have := hbig e; omega))
      clear HY HN hbig
      go_wp2
      go_ret
      exact ⟨by rw [hM.out]; rfl, b01⟩
    clear hbig
    go_wp2_with fail
    clear x0 x1 x2
    go_loopw [4, 5, 6] (fun a s i wr => ∃ (k : Nat) (rows size : Int), k ≤ G.length ∧ i = .int .i64 (k : Int) ∧ a = .int .i64 rows ∧ s = .int .i64 size ∧ Hid (FootTo L GP k rows size) ∧ (0 ≤ rows ∧ rows ≤ 65536) ∧ (0 ≤ size ∧ size ≤ 1073741824)
      ∧ Blk wr w.heap.size 25 #[.slice Ac L.length cc, .int .i64 r, .slice Ag G.length cg] ∧ New w wr) (fun _ _ i _ => G.length - (intOf i).toNat)
    case atStart => exact ⟨0, 0, 0, Nat.zero_le _, rfl, rfl, rfl, HZ, by omega, by omega, B1, b01⟩
    case round =>
      obtain ⟨k, rows, size, hk, rfl, rfl, rfl, H, hrw, hsz, B, b⟩ := hrel
      clear HZ B1 b01
      by_cases hlt : k < G.length
      · obtain ⟨ad, rfl, hb, d0, d1⟩ := (Reads.later HG.out b).gr2 hlt
        have hgm := mem_getDF grZ hlt
        have hch := HCH.out _ hgm
        have hpg := HPG.out _ hgm
        have hpp := HP.out _ hgm
        have hmap := HMap.out k hlt
        have hltP : k < GP.length := by rw [HLen.out]; exact hlt
        generalize G.getD k grZ = g at *
        obtain ⟨gr, Ach, cch, D⟩ := g
        dsimp only at d0 d1 hch hpg hpp
        unfold grP at hmap
        dsimp only at hmap
        have hl2 : (GP.getD k groupZ).2.length = D.length := by rw [hmap]; exact List.length_map ..
        have hg1 : (GP.getD k groupZ).1 = gr := by rw [hmap]
        have HM2 := Lib.hid (fun (c : Nat) (hc : c < D.length) => show (GP.getD k groupZ).2.getD c [] = (D.getD c chZ).2.2 by rw [hmap]; exact getD_mapX (fun x : ChD => x.2.2) D chZ [] hc)
        have NR := Lib.hid (fun hb => HN.out (H.out.no_rowsR (r := r) hltP hb))
        have EN := Lib.hid (fun h1 h2 h3 => H.out.enter h1 h2 h3)
        rw [hl2, hg1] at NR EN
        have HL2 := Lib.hid hl2
        have HG1 := Lib.hid hg1
        have HCHk := Lib.hid hch.1
        have hchl := hch.2
        have HPGk := Lib.hid hpg
        have HPPk := Lib.hid hpp
        have HLTP := Lib.hid hltP
        clear hmap hl2 hg1 hch hpg hpp hgm hb H hltP
        have ha : New wr (wr.alloc (.cells #[.int .i64 gr, .slice Ach D.length cch] 43)) := (Below.refl _ _).alloc (Nat.le_refl _) _
        have BG := Blk.new wr 43 #[.int .i64 gr, .slice Ach D.length cch]
        have B2 := B.below ha B.lt
        have b2 := New.trans b ha
        obtain ⟨x0, x1, x2⟩ := ccells B
        obtain ⟨y0, y1, y2⟩ := ccells B2
        obtain ⟨z0, z1⟩ := cells2 BG
        clear B b ha
        by_cases h1 : gr < 1
        · have hM := Lib.hid (NR.out (.inl h1))
          clear NR EN
          go_wp2
          go_ret
          exact ⟨by rw [hM.out]; rfl, b2⟩
        by_cases h2 : r - rows < gr
        · have hM := Lib.hid (NR.out (.inr (.inl h2)))
          clear NR EN
          go_wp2
          go_ret
          exact ⟨by rw [hM.out]; rfl, b2⟩
        by_cases h3 : D.length = L.length
        · have t3 : ((D.length : Int) != (L.length : Int)) = false := by simp; omega
          have hE := EN.out (by omega) (by omega) h3
          have HE := Lib.hid hE
          have hDL : D.length ≤ L.length := by omega
          have H3 := Lib.hid h3
          clear NR EN hE h3
          go_wp2_with fail
          clear y0 y1 y2 z0 z1 d0 d1 t3 x0 x1 x2
          generalize wr.heap.size = gB at *
          go_loopw [5, 8] (fun s i wr => ∃ (c : Nat) (sz : Int), c ≤ D.length ∧ i = .int .i64 (c : Int) ∧ s = .int .i64 sz ∧ Hid (ChunkTo L GP k c (rows + gr) sz) ∧ (0 ≤ sz ∧ sz ≤ 1073741824)
            ∧ Blk wr w.heap.size 25 #[.slice Ac L.length cc, .int .i64 r, .slice (some ad) G.length cg] ∧ Blk wr gB 43 #[.int .i64 gr, .slice Ach D.length cch] ∧ New w wr) (fun _ i _ => D.length - (intOf i).toNat)
          case atStart => exact ⟨0, size, Nat.zero_le _, rfl, rfl, HE, hsz, B2, BG, b2⟩
          case round =>
            obtain ⟨c, sz, hc, rfl, rfl, H, hsz2, B, BGq, bq⟩ := hrel
            clear HE B2 BG b2
            by_cases hlc : c < D.length
            · have hcL : c < L.length := by omega
              obtain ⟨ac, rfl, hbc, e0⟩ := (Reads.later HCHk.out bq).ch1 hlc
              obtain ⟨al, rfl, hbl, -⟩ := (Reads.later HL.out bq).colT hcL
              have hxm := mem_getDF chZ hlc
              have hpx := HPGk.out _ hxm
              have hsx := HPPk.out _ hxm
              have hm2 := HM2.out c hlc
              have NC := Lib.hid (fun hb => HN.out (H.out.no_chunk (r := r) HLTP.out (by rw [HL2.out]; exact hlc) hb))
              have NX := Lib.hid (fun h1 h2 => H.out.next (by rw [HL2.out]; exact hlc) h1 h2)
              rw [hm2, HG1.out] at NC NX
              have FC := Lib.hid (fun (W : World) (hW : New w W) => show (W.cell? (al.add (c * 3)) = some (.string (bstr (L.getD c colZ).1)) ∧ W.cell? ⟨(al.add (c * 3)).block, (al.add (c * 3)).off + 1, none⟩ = some (.int .i64 (L.getD c colZ).2.1) ∧ W.cell? ⟨(al.add (c * 3)).block, (al.add (c * 3)).off + 2, none⟩ = some (.bool (L.getD c colZ).2.2)) from by
                obtain ⟨al', e, _, f⟩ := (Reads.later HL.out hW).colT hcL
                injection e with e
                subst e
                exact f)
              have FE := Lib.hid (fun (W : World) (hW : New w W) => show W.cell? (ac.add c) = some (.slice (D.getD c chZ).1 (D.getD c chZ).2.2.length (D.getD c chZ).2.1) from by
                obtain ⟨al', e, _, f⟩ := (Reads.later HCHk.out hW).ch1 hlc
                injection e with e
                subst e
                exact f)
              generalize D.getD c chZ = x at *
              obtain ⟨Ax, cx, pl⟩ := x
              dsimp only at e0 hpx hsx NC NX FE
              have CSZ := fun (W : World) (hW : New w W) => rchunk_any (c := L.getD c colZ) (cap := cx) (Reads.later hpx.1 hW) hsx hpx.2
              have hct := chunk_tells (t := (L.getD c colZ).2.1) (nu := (L.getD c colZ).2.2) (l := pl) (gr := gr) (sz := sz) (by omega) (by omega)
              have hbd := rchunkS_bound (t := (L.getD c colZ).2.1) (nu := (L.getD c colZ).2.2) pl 0 0 (by omega) (by omega) (by omega) (by omega)
              generalize L.getD c colZ = col at *
              obtain ⟨nm, t, nu⟩ := col
              dsimp only at hct hbd NC NX CSZ
              unfold RSizePost at CSZ
              generalize rchunkS t nu pl 0 0 = S at *
              obtain ⟨sn, sm⟩ := S
              dsimp only at hct hbd CSZ
              have CSZ : Hid (∀ W, New w W → Calls Try.prog 29 #[.agg #[.string (bstr nm), .int .i64 t, .bool nu], .slice Ax pl.length cx] W (fun e w' => e = .returned (.tuple #[.int .i64 sn, .int .i64 sm]) ∧ New W w')) := Lib.hid CSZ
              have HCT := Lib.hid hct
              clear hct hpx hsx hm2 hxm hbc hbl H
              obtain ⟨y0, y1, y2⟩ := ccells B
              obtain ⟨z0, z1⟩ := cells2 BGq
              dsimp only at FC
              go_wp2_with fail
              refine wp_region_up New [(true, 0), (true, 1), (true, 2), (true, 3), (true, 4), (true, 5), (true, 6), (true, 7), (true, 8), (true, 9), (false, 10), (true, 11), (true, 12), (true, 13), (true, 14), (true, 15)]
                New.refl New.trans (by kernel_rfl) (by kernel_rfl) (by kernel_rfl) (by kernel_rfl) ?_
              have F := Lib.hid (fun (W : World) (hW : New wr W) => And.intro (B.below hW B.lt) (BGq.below hW BGq.lt))
              have hU := New.drew wr
              clear y0 y1 y2 z0 z1 e0
              repeat (first
                | (refine up_quiet rfl rfl (v := ?_) (fun W hQ => ?_) ?_; rotate_left; (obtain ⟨f0, f1, f2⟩ := FC.out W (New.trans bq (New.trans hU hQ)); have fe := FE.out W (New.trans bq (New.trans hU hQ)); obtain ⟨F1, F2⟩ := F.out W (New.trans hU hQ); obtain ⟨y0, y1, y2⟩ := ccells F1; obtain ⟨z0, z1⟩ := cells2 F2; clear F1 F2; go_simp <;> with_reducible rfl); simp only [Act.put, List.setIfInBounds_toArray, List.set_cons_zero, List.set_cons_succ]))
              refine up_call rfl rfl (fun K0 hK0 => ?_)
              go_simp
              (with_reducible refine (CSZ.out _ (New.trans bq hU)).mono ?_)
              rintro e u ⟨rfl, bu⟩
              refine hK0 _ _ bu ?_
              replace hU := New.trans hU bu
              clear hK0 bu
              repeat (first
                | (refine up_quiet rfl rfl (v := ?_) (fun W hQ => ?_) ?_; rotate_left; (go_simp <;> with_reducible rfl); simp only [Act.put, List.setIfInBounds_toArray, List.set_cons_zero, List.set_cons_succ]))
              refine up_nil ?_
              obtain ⟨B3, BG3⟩ := F.out _ hU
              have b3 := New.trans bq hU
              clear F FC FE CSZ hU B BGq bq
              obtain ⟨z0, z1⟩ := cells2 BG3
              by_cases hn : sn = gr
              · obtain ⟨hco, hsn⟩ := HCT.out.1 hn
                have t1 : (sn != gr) = false := by simpa using hn
                clear HCT
                by_cases hbig : 1073741824 < sz + sm
                · have hM := Lib.hid (NC.out (.inr (by rw [← hsn]; exact hbig)))
                  clear NC NX hco hsn hn
                  go_wp2
                  go_ret
                  exact ⟨by rw [hM.out]; rfl, b3⟩
                · have hN := Lib.hid (NX.out hco (by rw [← hsn]; omega))
                  have hsm : 0 ≤ sm := by rw [hsn]; exact (chunk_nonneg hco).1
                  rw [← hsn] at hN
                  clear NC NX hco hsn hn
                  go_wp2
                  go_roundw
                  case rel => exact ⟨c + 1, sz + sm, by omega, by go_num, rfl, hN, by omega, B3, BG3, b3⟩
                  case measure => simp [intOf]; omega
              · have hM := Lib.hid (NC.out (HCT.out.2 hn))
                have t1 : (sn != gr) = true := by simpa using hn
                clear NC NX HCT hn
                go_wp2
                go_ret
                exact ⟨by rw [hM.out]; rfl, b3⟩
            · obtain rfl : c = D.length := by omega
              have hLv := Lib.hid (H.out.leave (by rw [HL2.out]) HLTP.out)
              have hrr := H.out.most
              rw [HG1.out] at hrr
              clear H
              obtain ⟨z0, z1⟩ := cells2 BGq
              go_wp2
              go_roundw
              case rel => exact ⟨k + 1, rows + gr, sz, by omega, by go_num, rfl, rfl, hLv, by omega, hsz2, B, bq⟩
              case measure => simp [intOf]; omega
        · have t3 : ((D.length : Int) != (L.length : Int)) = true := by simp; omega
          have hM := Lib.hid (NR.out (.inr (.inr h3)))
          clear NR EN h3
          go_wp2
          go_ret
          exact ⟨by rw [hM.out]; rfl, b2⟩
      · obtain rfl : k = G.length := by omega
        have hY := H.out
        rw [← HLen.out] at hY
        have hY := hY.yes (r := r) HCO.out
        obtain ⟨x0, x1, x2⟩ := ccells B
        by_cases he : rows = r
        · have hM := Lib.hid (HY.out (hY.2 he))
          have t1 : (rows == r) = true := by simpa using he
          clear hY HY HN H he
          go_wp2
          go_ret
          exact ⟨by rw [hM.out]; rfl, b⟩
        · have hM := Lib.hid (HN.out (fun hF => he (hY.1 hF)))
          have t1 : (rows == r) = false := by simpa using he
          clear hY HY HN H he
          go_wp2
          go_ret
          exact ⟨by rw [hM.out]; rfl, b⟩
  · have hM := Lib.hid (HN.out (fun hF => hk0 (hck.2 hF.1)))
    have t1 : (colsCk L != 0) = true := by simpa using hk0
    clear HY HN hck hk0
    generalize colsCk L = ck at *
    go_wp2
    go_ret
    exact ⟨by rw [hM.out]; rfl, b01⟩

end Go.Proofs.Ytflaaahcoglflaa
/- The contract of hypostyleref09.fine. -/

namespace Go.Proofs.Ytflaaahcoglflaa
open Go.RowKit Go.Hm
theorem plOk_and {t : Int} {L : List CellS} : plOk t L = ((L.all fun c => rightB c t false) && (decide ((L.length : Int) ≤ 65536) && (decide (0 ≤ t) && decide (t ≤ 3)))) := by
  rw [Bool.eq_iff_iff, plOk_iff]
  simp only [Bool.and_eq_true, List.all_eq_true, decide_eq_true_eq]
  constructor
  · rintro ⟨⟨a, b, c⟩, d⟩
    exact ⟨d, by omega, a, b⟩
  · rintro ⟨d, c, a, b⟩
    exact ⟨⟨a, b, by omega⟩, d⟩
set_option maxHeartbeats 2000000 in
set_option maxRecDepth 100000 in
theorem rfine_any {w : World} {t : Int} {A : Option Addr} {n c : Nat} {L : List CellS} (h : Reads w w.heap.size 5 A n (recs cellV L)) (hL : ∀ y ∈ L, y.2.2.1.length ≤ 140737488351232) (hn : n ≤ 4611686018427387903) :
    Calls Try.prog 56 #[.int .i64 t, .slice A n c] w (NewPost (.bool (plOk t L)) w) := by
  obtain rfl := h.lenCell
  have HR := Lib.hid h
  have HL := Lib.hid hL
  clear h hL
  obtain ⟨M, hM⟩ : ∃ M, M = plOk t L := ⟨_, rfl⟩
  rw [← hM]
  rw [plOk_and] at hM
  have HM := Lib.hid hM
  clear hM
  go_enter Try.func56, Try.ntmps56
  go_wp2_with fail
  go_loopw [5] (fun i wr => ∃ k : Nat, k ≤ L.length ∧ i = .int .i64 (k : Int) ∧ New w wr ∧ Hid (∀ c ∈ L.take k, rightB c t false = true)) (fun i _ => L.length - (intOf i).toNat)
  case atStart => exact ⟨0, Nat.zero_le _, rfl, New.refl _, Lib.hid (by simp)⟩
  case round =>
    obtain ⟨k, hk, rfl, hW, hr⟩ := hrel
    by_cases hlt : k < L.length
    · obtain ⟨ad, rfl, hb, d0, d1, d2, d3, d4⟩ := (Reads.later HR.out hW).cell5 hlt
      have htk := take_snoc L k (false, 0, [], 0, 0) hlt
      have hmem : L.getD k (false, 0, [], 0, 0) ∈ L := by rw [List.getD_eq_getElem?_getD, List.getElem?_eq_getElem hlt]; exact List.getElem_mem hlt
      have hy := HL.out _ hmem
      have R1 := fun (W : World) => rcright_any (w := W) (b := (L.getD k (false, 0, [], 0, 0)).1) (n := (L.getD k (false, 0, [], 0, 0)).2.1) (s := (L.getD k (false, 0, [], 0, 0)).2.2.1) (x := (L.getD k (false, 0, [], 0, 0)).2.2.2.1) (y := (L.getD k (false, 0, [], 0, 0)).2.2.2.2) (cn := []) (t := t) (nu := false) hy
      have hno : rightB (L.getD k (false, 0, [], 0, 0)) t false = false → M = false := fun e => by
        rw [HM.out]
        have : (L.all fun c => rightB c t false) = false := Bool.eq_false_iff.2 fun e2 => by
          have := (List.all_eq_true.1 e2) _ hmem
          rw [e] at this
          cases this
        rw [this, Bool.false_and]
      have hyes : rightB (L.getD k (false, 0, [], 0, 0)) t false = true → ∀ c ∈ L.take (k + 1), rightB c t false = true := fun e c hc => by
        rw [htk] at hc
        rcases List.mem_append.1 hc with hc | hc
        · exact hr.out c hc
        · rw [List.mem_singleton.1 hc]; exact e
      clear htk hmem hy hr
      generalize L.getD k (false, 0, [], 0, 0) = y at *
      obtain ⟨y0, y1, y2, y3, y4⟩ := y
      dsimp only at R1 d0 d1 d2 d3 d4
      generalize rightB (y0, y1, y2, y3, y4) t false = m at *
      have R1 : Hid (∀ W, Calls Try.prog 54 #[.agg #[.bool y0, .int .i64 y1, .string (bstr y2), .int .i64 y3, .int .i64 y4], .agg #[.string ⟨#[]⟩, .int .i64 t, .bool false]] W (NewPost (.bool m) W)) := Lib.hid R1
      have hno := Lib.hid hno
      have hyes := Lib.hid hyes
      go_wp2_with fail
      refine (R1.out _).mono ?_
      rintro e w1 ⟨rfl, b1⟩
      have hl := New.trans hW b1
      cases m with
      | false =>
        have hm := hno.out (by trivial)
        have HM2 := Lib.hid hm
        clear hno hyes hm
        go_wp2_with fail
        go_ret
        exact ⟨by rw [HM2.out]; rfl, hl⟩
      | true =>
        have hy2 := hyes.out (by trivial)
        have HY2 := Lib.hid hy2
        clear hno hyes hy2
        go_wp2_with fail
        go_roundw
        case rel => exact ⟨k + 1, by omega, by go_num, hl, HY2⟩
        case measure => simp [intOf]; omega
    · obtain rfl : k = L.length := by omega
      have hr2 := hr.out
      rw [List.take_length] at hr2
      have HM2 : Hid (M = (decide ((L.length : Int) ≤ 65536) && (decide (0 ≤ t) && decide (t ≤ 3)))) := Lib.hid (by
        rw [HM.out, List.all_eq_true.2 hr2, Bool.true_and])
      clear hr hr2
      by_cases h1 : (L.length : Int) ≤ 65536
      all_goals have g1 := Lib.hid h1
      all_goals by_cases h0 : 0 ≤ t
      all_goals have g2 := Lib.hid h0
      all_goals
        go_wp2_with fail
        go_ret
        refine ⟨?_, hW⟩
        rw [HM2.out]
        have g1 := g1.out
        have g2 := g2.out
        first
          | (rw [decide_eq_true (show (L.length : Int) ≤ 65536 by omega)]
             first
               | (rw [decide_eq_true (show 0 ≤ t by omega)]; rfl)
               | (rw [decide_eq_false (show ¬ 0 ≤ t by omega)]; rfl))
          | (rw [decide_eq_false (show ¬ (L.length : Int) ≤ 65536 by omega)]; rfl)

end Go.Proofs.Ytflaaahcoglflaa
/- Contracts of the document's own answer for layer 3. -/

namespace Go.Proofs.Ytflaaahcoglflaa
open Go.RowKit Go.Hm

set_option maxHeartbeats 400000 in
set_option maxRecDepth 100000 in
theorem rlow_any {w : World} {A : Option Addr} {n c : Nat} {l : List Nat} (x k0 : Nat) (h : Reads w w.heap.size 1 A n (nums .u8 l)) (hl : n ≤ 140737488355200) (hk0 : k0 ≤ 8) (hx : x ≤ 18446744073709551615) :
    Calls Try.prog 57 #[.slice A n c, .int .u64 (x : Int), .int .i64 (k0 : Int)] w (BytesPost (l ++ low x k0) w) := by
  obtain rfl := h.len
  go_enter Try.func57, Try.ntmps57
  go_wp2_with (first
    | (refine wpList_pushesN elB rfl (.tmp 9) (.tmp 10) rfl (W := w) (B := w.heap.size) (k := .u8) (l := []) (l2 := l) (c2 := c) (Own.empty _ _) ((h.alloc (Nat.le_refl _) _).more (by simp)) rfl rfl ((Below.refl _ _).alloc (Nat.le_refl _) _) (Nat.le_refl _) (by simp) (by omega) (by simp only [maxLen]; omega) ?_
       simp only [Nat.zero_add, List.nil_append]
       intro A1 c1 w1 _ _ o1 _ b1 _))
  have hs0 := b1.size
  go_loopw [1, 7, 8] (fun n v i wr => ∃ (k : Nat) (A : Option Addr) (c : Nat), k ≤ k0 ∧ i = .int .i64 (k : Int) ∧ n = .int .u64 ((x / 256 ^ k : Nat) : Int) ∧ v = .slice A (l.length + k) c ∧ Own wr w.heap.size 5 (.slice A (l.length + k) c) (nums .u8 (l ++ low x k)) ∧ Below w.heap.size w wr) (fun _ _ i _ => k0 - (intOf i).toNat)
  case atStart => exact ⟨0, _, _, by omega, rfl, by simp, rfl, by simpa [low] using o1, b1⟩
  case round =>
    obtain ⟨k, A', c', hk, rfl, rfl, rfl, hown, hb⟩ := hrel
    have hz := hb.size
    have hq : x / 256 ^ k ≤ x := Nat.div_le_self _ _
    generalize hy : x / 256 ^ k = y at *
    have Hy := Lib.hid hy
    clear hy
    by_cases hlt : k < k0
    · go_wp2_with (first
        | (refine wpList_pushN elB rfl (.tmp 17) (.tmp 20) rfl (W := w) (B := w.heap.size) hown rfl rfl (y % 256) (by simp) hb (Nat.le_refl _) (by omega) (by omega) (by simp only [maxLen]; omega) ?_
           intro A3 c3 w3 _ _ hown3 hg3 hb3 _ _))
      go_roundw
      case rel => exact ⟨k + 1, A3, c3, by omega, by go_num, by rw [Nat.pow_succ, ← Nat.div_div_eq_div_mul, Hy.out]; go_num, rfl, by rw [List.append_assoc, ← Hy.out] at hown3; exact hown3, hb3⟩
      case measure => simp [intOf]; omega
    · obtain rfl : k = k0 := by omega
      go_wp2
      go_ret
      exact ⟨A', _, c', rfl, hown, hb⟩
theorem rlow_of {w0 w : World} {A : Option Addr} {n c : Nat} {l : List Nat} (x k0 : Nat) (h : Reads w0 w0.heap.size 1 A n (nums .u8 l)) (hb : Below w0.heap.size w0 w) (hl : n ≤ 140737488355200) (hk0 : k0 ≤ 8) (hx : x ≤ 18446744073709551615) :
    Calls Try.prog 57 #[.slice A n c, .int .u64 (x : Int), .int .i64 (k0 : Int)] w (BytesPost (l ++ low x k0) w) :=
  rlow_any x k0 ((h.below hb).more hb.size) hl hk0 hx
theorem rlow4 {w0 w : World} {A : Option Addr} {n c : Nat} {l : List Nat} (x : Nat) (h : Reads w0 w0.heap.size 1 A n (nums .u8 l)) (hb : Below w0.heap.size w0 w) (hl : n ≤ 140737488355200) (hx : x ≤ 18446744073709551615) :
    Calls Try.prog 57 #[.slice A n c, .int .u64 (x : Int), .int .i64 4] w (BytesPost (l ++ low x 4) w) :=
  rlow_any x 4 ((h.below hb).more hb.size) hl (by omega) hx
theorem rlow8 {w0 w : World} {A : Option Addr} {n c : Nat} {l : List Nat} (x : Nat) (h : Reads w0 w0.heap.size 1 A n (nums .u8 l)) (hb : Below w0.heap.size w0 w) (hl : n ≤ 140737488355200) (hx : x ≤ 18446744073709551615) :
    Calls Try.prog 57 #[.slice A n c, .int .u64 (x : Int), .int .i64 8] w (BytesPost (l ++ low x 8) w) :=
  rlow_any x 8 ((h.below hb).more hb.size) hl (by omega) hx

end Go.Proofs.Ytflaaahcoglflaa
/- Contracts of the document's own cursor (layer 3's answer): its bytes lie in old memory, below block B. -/

namespace Go.Proofs.Ytflaaahcoglflaa
open Go.RowKit Go.Hm

end Go.Proofs.Ytflaaahcoglflaa
/- Contracts of the document's own answer for layer 4. -/

namespace Go.Proofs.Ytflaaahcoglflaa
open Go.RowKit Go.Hm

set_option maxHeartbeats 400000 in
set_option maxRecDepth 100000 in
theorem rput_any {w : World} {A : Option Addr} {n c : Nat} {l : List Nat} (N : Nat) (hr : Reads w w.heap.size 1 A n (nums .u8 l)) (hn : n ≤ 140737488355200) (hN : N ≤ 18446744073709551615) :
    Calls Try.prog 24 #[.slice A n c, .int .u64 N] w (BytesPost (l ++ vp N) w) := by
  obtain rfl := hr.len
  have hsz := vp_len10 (n := N) (by omega)
  go_enter Try.func24, Try.ntmps24
  go_wp2_with (first
    | (refine wpList_pushesN elB rfl (.tmp 6) (.tmp 7) rfl (W := w) (B := w.heap.size) (k := .u8) (l := []) (l2 := l) (c2 := c) (Own.empty _ _) ((hr.alloc (Nat.le_refl _) _).more (by simp)) rfl rfl ((Below.refl _ _).alloc (Nat.le_refl _) _) (Nat.le_refl _) (by simp) (by omega) (by simp only [maxLen]; omega) ?_
       simp only [Nat.zero_add, List.nil_append]
       intro A1 c1 w1 _ _ o1 _ b1 _))
  go_loopw [1, 5] (PutRel w l N) (fun nv _ _ => (intOf nv).toNat)
  case atStart =>
    refine ⟨N, l, _, _, rfl, Nat.le_refl _, by omega, rfl, rfl, o1, b1⟩
  case round =>
    obtain ⟨N', D, A', c', rfl, hN', hD, rfl, hDN, hown, hb⟩ := hrel
    have hb0 := hb.size
    by_cases hlt : N' < 128
    · go_wp2_with (first
        | (refine wpList_pushN elB rfl (.tmp 20) (.tmp 23) rfl (W := w) (B := w.heap.size) hown rfl rfl N' rfl hb (Nat.le_refl _) (by omega) (by omega) (by simp only [maxLen]; omega) ?_
           intro A3 c3 w3 _ _ hown3 hg3 hb3 _ _))
      go_ret
      rw [vp_lt hlt] at hDN
      rw [hDN] at hown3
      exact ⟨_, _, _, rfl, hown3, hb3⟩
    · have hv := vp_ge hlt
      have Hv := Lib.hid hv
      clear hv
      go_wp2_with (first
        | (refine wpList_pushN elB rfl (.tmp 11) (.tmp 16) rfl (W := w) (B := w.heap.size) hown rfl rfl (N' % 128 + 128) (by go_num) hb (Nat.le_refl _) (by omega) (by omega) (by simp only [maxLen]; omega) ?_
           intro A3 c3 w3 _ _ hown3 hg3 hb3 _ _))
      go_roundw
      case rel =>
        have hv' := Hv.out
        rw [hv', List.length_cons] at hD
        exact ⟨N' / 128, D ++ [N' % 128 + 128], A3, c3, by go_num, by omega, by simp; omega, by simp, by rw [← hDN, hv']; simp, by simpa using hown3, hb3⟩
      case measure => simp [intOf]; omega


set_option maxHeartbeats 400000 in
theorem rzig_any (x : Int) (w : World) (h : -9223372036854775808 ≤ x) (h1 : x ≤ 9223372036854775807) : Calls Try.prog 58 #[.int .i64 x] w (ZigPost (.int .u64 (zig x : Int)) w) := by
  by_cases hx : 0 ≤ x
  · have e : (zig x : Int) = 2 * x := by unfold zig; split <;> omega
    go_enter Try.func58, Try.ntmps58
    go_wp2
    go_ret
    exact ⟨by rw [e]; go_num, rfl⟩
  · have e : (zig x : Int) = 2 * -(x + 1) + 1 := by unfold zig; split <;> omega
    have hx' : x < 0 := by omega
    clear hx
    go_enter Try.func58, Try.ntmps58
    go_wp2
    go_ret
    exact ⟨by rw [e]; go_num, rfl⟩


end Go.Proofs.Ytflaaahcoglflaa
/- The contract of hypostyleref09.Encode. -/

namespace Go.Proofs.Ytflaaahcoglflaa
open Go.RowKit Go.Hm
set_option maxHeartbeats 4000000 in
set_option maxRecDepth 100000 in
theorem rplain0 {w : World} {A : Option Addr} {c : Nat} {L : List CellS} (h : Reads w w.heap.size 5 A L.length (recs cellV L)) (hL : ∀ y ∈ L, cellData y) (hn : L.length ≤ 65536) (hR : ∀ c ∈ L, rightB c 0 false = true) (hok : plOk 0 L = true) :
    Calls Try.prog 43 #[.int .i64 0, .slice A L.length c] w (OptB (some (plB 0 L)) w) := by
  have FN := Lib.hid (rfine_any (t := 0) (c := c) h (fun y hy => (hL y hy).1.1) (by omega))
  rw [hok] at FN
  have HR := Lib.hid h
  have HD := Lib.hid hL
  have HR2 := Lib.hid hR
  have HX := Lib.hid (fun c (hc : c ∈ L) => right_text (hR c hc))
  have hp : plB 0 L = L.flatMap (plE 0) := by unfold plB; rw [if_neg (by decide)]
  rw [hp]
  clear hp
  clear h hL hR hok
  go_enter Try.func43, Try.ntmps43
  go_wp2_with fail
  refine FN.out.mono ?_
  rintro e w1 ⟨rfl, b1⟩
  clear FN
  go_wp2_with fail
  go_loopw [7, 9] (fun v i wr => ∃ (k m cc : Nat) (AA : Option Addr), k ≤ L.length ∧ i = .int .i64 (k : Int) ∧ v = .slice AA m cc ∧ Own wr w.heap.size 5 (.slice AA m cc) (nums .u8 ((L.take k).flatMap (plE 0))) ∧ Below w.heap.size w wr) (fun _ i _ => L.length - (intOf i).toNat)
  case atStart => exact ⟨0, 0, 0, none, Nat.zero_le _, rfl, rfl, Own.nil_, b1⟩
  case round =>
    obtain ⟨k, m, cc, AA, hk2, rfl, rfl, o, b⟩ := hrel
    by_cases hlt : k < L.length
    · obtain ⟨ad, rfl, hb, -⟩ := (Reads.later HR.out b).cell5 hlt
      have hmem : (L.getD k (false, 0, [], 0, 0)) ∈ L := by rw [List.getD_eq_getElem?_getD, List.getElem?_eq_getElem hlt]; exact List.getElem_mem hlt
      have HY : ∀ W, New w W → W.cell? (ad.add (k * 5)) = some (.bool (L.getD k (false, 0, [], 0, 0)).1) ∧ W.cell? ⟨(ad.add (k * 5)).block, (ad.add (k * 5)).off + 1, none⟩ = some (.int .i64 (L.getD k (false, 0, [], 0, 0)).2.1) ∧ W.cell? ⟨(ad.add (k * 5)).block, (ad.add (k * 5)).off + 2, none⟩ = some (.string (bstr (L.getD k (false, 0, [], 0, 0)).2.2.1))
          ∧ W.cell? ⟨(ad.add (k * 5)).block, (ad.add (k * 5)).off + 3, none⟩ = some (.int .i64 (L.getD k (false, 0, [], 0, 0)).2.2.2.1) ∧ W.cell? ⟨(ad.add (k * 5)).block, (ad.add (k * 5)).off + 4, none⟩ = some (.int .i64 (L.getD k (false, 0, [], 0, 0)).2.2.2.2) := fun W hN => by
        obtain ⟨ad', e, _, d⟩ := (Reads.later HR.out hN).cell5 hlt
        injection e with e
        subst e
        exact d
      have hfs := flat_snoc (t := 0) hlt
      have hfl := flat_len (L.take k) (fun c hc => HR2.out c (List.mem_of_mem_take hc)) (fun c hc => HX.out c (List.mem_of_mem_take hc))
      rw [List.length_take] at hfl
      have hm : m ≤ 100000000000 := by have := o.len; rw [nums_length] at this; have := Nat.min_le_left k L.length; omega
      have h8 := HD.out _ hmem
      have hry := HR2.out _ hmem
      clear hmem hfl
      generalize L.getD k (false, 0, [], 0, 0) = y at *
      obtain ⟨y0, y1, y2, y3, y4⟩ := y
      dsimp only at HY
      have zs := bstr_size y2
      have hz := b.size
      have HY := Lib.hid HY
      obtain ⟨z0, z1, z2, z3, z4⟩ := HY.out _ b
      have HFS := Lib.hid hfs
      clear hfs
      have hw := u64_wrapN y1
      have hu := u64N_lt y1
      have U := rlow_any (c := cc) (u64N y1) 8 o.reads (by omega) (by omega) (by omega)
      have e0 : plE 0 (y0, y1, y2, y3, y4) = low (u64N y1) 8 := by unfold plE; rw [if_pos rfl]
      rw [← e0] at U
      have U := Lib.hid U
      clear e0 hu
      generalize u64N y1 = z at *
      go_wp2_with fail
      refine U.out.mono ?_
      rintro e w3 ⟨A3, n3, c3, rfl, k3, b3⟩
      clear z0 z1 z2 z3 z4
      go_wp2_with fail
      go_roundw
      case rel => exact ⟨k + 1, _, _, _, by omega, by go_num, rfl, by rw [HFS.out]; exact k3.base_le hz, b.trans (Below.mono b3 hz)⟩
      case measure => simp [intOf]; omega
    · obtain rfl : k = L.length := by omega
      rw [List.take_length] at o
      go_wp2_with fail
      go_ret2
      exact ⟨_, _, _, rfl, o, b⟩
set_option maxHeartbeats 4000000 in
set_option maxRecDepth 100000 in
theorem rplain2 {w : World} {A : Option Addr} {c : Nat} {L : List CellS} (h : Reads w w.heap.size 5 A L.length (recs cellV L)) (hL : ∀ y ∈ L, cellData y) (hn : L.length ≤ 65536) (hR : ∀ c ∈ L, rightB c 2 false = true) (hok : plOk 2 L = true) :
    Calls Try.prog 43 #[.int .i64 2, .slice A L.length c] w (OptB (some (plB 2 L)) w) := by
  have FN := Lib.hid (rfine_any (t := 2) (c := c) h (fun y hy => (hL y hy).1.1) (by omega))
  rw [hok] at FN
  have HR := Lib.hid h
  have HD := Lib.hid hL
  have HR2 := Lib.hid hR
  have HX := Lib.hid (fun c (hc : c ∈ L) => right_text (hR c hc))
  have hp : plB 2 L = L.flatMap (plE 2) := by unfold plB; rw [if_neg (by decide)]
  rw [hp]
  clear hp
  clear h hL hR hok
  go_enter Try.func43, Try.ntmps43
  go_wp2_with fail
  refine FN.out.mono ?_
  rintro e w1 ⟨rfl, b1⟩
  clear FN
  go_wp2_with fail
  go_loopw [7, 9] (fun v i wr => ∃ (k m cc : Nat) (AA : Option Addr), k ≤ L.length ∧ i = .int .i64 (k : Int) ∧ v = .slice AA m cc ∧ Own wr w.heap.size 5 (.slice AA m cc) (nums .u8 ((L.take k).flatMap (plE 2))) ∧ Below w.heap.size w wr) (fun _ i _ => L.length - (intOf i).toNat)
  case atStart => exact ⟨0, 0, 0, none, Nat.zero_le _, rfl, rfl, Own.nil_, b1⟩
  case round =>
    obtain ⟨k, m, cc, AA, hk2, rfl, rfl, o, b⟩ := hrel
    by_cases hlt : k < L.length
    · obtain ⟨ad, rfl, hb, -⟩ := (Reads.later HR.out b).cell5 hlt
      have hmem : (L.getD k (false, 0, [], 0, 0)) ∈ L := by rw [List.getD_eq_getElem?_getD, List.getElem?_eq_getElem hlt]; exact List.getElem_mem hlt
      have HY : ∀ W, New w W → W.cell? (ad.add (k * 5)) = some (.bool (L.getD k (false, 0, [], 0, 0)).1) ∧ W.cell? ⟨(ad.add (k * 5)).block, (ad.add (k * 5)).off + 1, none⟩ = some (.int .i64 (L.getD k (false, 0, [], 0, 0)).2.1) ∧ W.cell? ⟨(ad.add (k * 5)).block, (ad.add (k * 5)).off + 2, none⟩ = some (.string (bstr (L.getD k (false, 0, [], 0, 0)).2.2.1))
          ∧ W.cell? ⟨(ad.add (k * 5)).block, (ad.add (k * 5)).off + 3, none⟩ = some (.int .i64 (L.getD k (false, 0, [], 0, 0)).2.2.2.1) ∧ W.cell? ⟨(ad.add (k * 5)).block, (ad.add (k * 5)).off + 4, none⟩ = some (.int .i64 (L.getD k (false, 0, [], 0, 0)).2.2.2.2) := fun W hN => by
        obtain ⟨ad', e, _, d⟩ := (Reads.later HR.out hN).cell5 hlt
        injection e with e
        subst e
        exact d
      have hfs := flat_snoc (t := 2) hlt
      have hfl := flat_len (L.take k) (fun c hc => HR2.out c (List.mem_of_mem_take hc)) (fun c hc => HX.out c (List.mem_of_mem_take hc))
      rw [List.length_take] at hfl
      have hm : m ≤ 100000000000 := by have := o.len; rw [nums_length] at this; have := Nat.min_le_left k L.length; omega
      have h8 := HD.out _ hmem
      have hry := HR2.out _ hmem
      clear hmem hfl
      generalize L.getD k (false, 0, [], 0, 0) = y at *
      obtain ⟨y0, y1, y2, y3, y4⟩ := y
      dsimp only at HY
      have zs := bstr_size y2
      have hz := b.size
      have HY := Lib.hid HY
      obtain ⟨z0, z1, z2, z3, z4⟩ := HY.out _ b
      have HFS := Lib.hid hfs
      clear hfs
      have hl2 := right2 hry
      have hw : IntKind.u64.wrap (y2.length : Int) = (y2.length : Int) := by dsimp only at hl2; rw [IntKind.wrap_u64]; omega
      have V := vp_len10 (n := y2.length) (by dsimp only at hl2; omega)
      have U := Lib.hid (rput_any (c := cc) y2.length o.reads (by omega) (by dsimp only at hl2; omega))
      have e0 : plE 2 (y0, y1, y2, y3, y4) = vp y2.length ++ y2 := by unfold plE; rw [if_neg (by decide), if_pos rfl]
      rw [e0, ← List.append_assoc] at HFS
      dsimp only at hl2
      have h82 := h8.1.2
      dsimp only at h82
      clear e0
      go_wp2_with fail
      refine U.out.mono ?_
      rintro e w2 ⟨A2, n2, c2, rfl, k2, b2⟩
      have hn2 : n2 ≤ 100000000010 := by have a := k2.len; have b' := o.len; rw [nums_length] at a b'; rw [List.length_append] at a; omega
      have b02 := b.trans (Below.mono b2 hz)
      have hz2 := b02.size
      clear z0 z1 z2 z3 z4
      obtain ⟨z0, z1, z2, z3, z4⟩ := HY.out _ b02
      go_wp2_with (refine wpList_pushStr elB strT rfl (.tmp 54) (.tmp 59) rfl (W := w) (B := w.heap.size) (k2.base_le hz) h82 rfl rfl b02 (Nat.le_refl _) hz2 (by omega) ?_
                   intro A3 c3 w3 _ _ k3 _ b3)
      go_wp2_with fail
      go_roundw
      case rel => exact ⟨k + 1, _, _, _, by omega, by go_num, rfl, by rw [HFS.out]; exact k3, b3⟩
      case measure => simp [intOf]; omega
    · obtain rfl : k = L.length := by omega
      rw [List.take_length] at o
      go_wp2_with fail
      go_ret2
      exact ⟨_, _, _, rfl, o, b⟩
set_option maxHeartbeats 4000000 in
set_option maxRecDepth 100000 in
theorem rplain3 {w : World} {A : Option Addr} {c : Nat} {L : List CellS} (h : Reads w w.heap.size 5 A L.length (recs cellV L)) (hL : ∀ y ∈ L, cellData y) (hn : L.length ≤ 65536) (hR : ∀ c ∈ L, rightB c 3 false = true) (hok : plOk 3 L = true) :
    Calls Try.prog 43 #[.int .i64 3, .slice A L.length c] w (OptB (some (plB 3 L)) w) := by
  have FN := Lib.hid (rfine_any (t := 3) (c := c) h (fun y hy => (hL y hy).1.1) (by omega))
  rw [hok] at FN
  have HR := Lib.hid h
  have HD := Lib.hid hL
  have HR2 := Lib.hid hR
  have HX := Lib.hid (fun c (hc : c ∈ L) => right_text (hR c hc))
  have hp : plB 3 L = L.flatMap (plE 3) := by unfold plB; rw [if_neg (by decide)]
  rw [hp]
  clear hp
  clear h hL hR hok
  go_enter Try.func43, Try.ntmps43
  go_wp2_with fail
  refine FN.out.mono ?_
  rintro e w1 ⟨rfl, b1⟩
  clear FN
  go_wp2_with fail
  go_loopw [7, 9] (fun v i wr => ∃ (k m cc : Nat) (AA : Option Addr), k ≤ L.length ∧ i = .int .i64 (k : Int) ∧ v = .slice AA m cc ∧ Own wr w.heap.size 5 (.slice AA m cc) (nums .u8 ((L.take k).flatMap (plE 3))) ∧ Below w.heap.size w wr) (fun _ i _ => L.length - (intOf i).toNat)
  case atStart => exact ⟨0, 0, 0, none, Nat.zero_le _, rfl, rfl, Own.nil_, b1⟩
  case round =>
    obtain ⟨k, m, cc, AA, hk2, rfl, rfl, o, b⟩ := hrel
    by_cases hlt : k < L.length
    · obtain ⟨ad, rfl, hb, -⟩ := (Reads.later HR.out b).cell5 hlt
      have hmem : (L.getD k (false, 0, [], 0, 0)) ∈ L := by rw [List.getD_eq_getElem?_getD, List.getElem?_eq_getElem hlt]; exact List.getElem_mem hlt
      have HY : ∀ W, New w W → W.cell? (ad.add (k * 5)) = some (.bool (L.getD k (false, 0, [], 0, 0)).1) ∧ W.cell? ⟨(ad.add (k * 5)).block, (ad.add (k * 5)).off + 1, none⟩ = some (.int .i64 (L.getD k (false, 0, [], 0, 0)).2.1) ∧ W.cell? ⟨(ad.add (k * 5)).block, (ad.add (k * 5)).off + 2, none⟩ = some (.string (bstr (L.getD k (false, 0, [], 0, 0)).2.2.1))
          ∧ W.cell? ⟨(ad.add (k * 5)).block, (ad.add (k * 5)).off + 3, none⟩ = some (.int .i64 (L.getD k (false, 0, [], 0, 0)).2.2.2.1) ∧ W.cell? ⟨(ad.add (k * 5)).block, (ad.add (k * 5)).off + 4, none⟩ = some (.int .i64 (L.getD k (false, 0, [], 0, 0)).2.2.2.2) := fun W hN => by
        obtain ⟨ad', e, _, d⟩ := (Reads.later HR.out hN).cell5 hlt
        injection e with e
        subst e
        exact d
      have hfs := flat_snoc (t := 3) hlt
      have hfl := flat_len (L.take k) (fun c hc => HR2.out c (List.mem_of_mem_take hc)) (fun c hc => HX.out c (List.mem_of_mem_take hc))
      rw [List.length_take] at hfl
      have hm : m ≤ 100000000000 := by have := o.len; rw [nums_length] at this; have := Nat.min_le_left k L.length; omega
      have h8 := HD.out _ hmem
      have hry := HR2.out _ hmem
      clear hmem hfl
      generalize L.getD k (false, 0, [], 0, 0) = y at *
      obtain ⟨y0, y1, y2, y3, y4⟩ := y
      dsimp only at HY
      have zs := bstr_size y2
      have hz := b.size
      have HY := Lib.hid HY
      obtain ⟨z0, z1, z2, z3, z4⟩ := HY.out _ b
      have HFS := Lib.hid hfs
      clear hfs
      obtain ⟨⟨p1, p2⟩, p3, p4⟩ := right3 hry
      dsimp only at p1 p2 p3 p4
      have Z1 := Lib.hid (fun (W : World) => rzig_any y3 W (by omega) (by omega))
      have Z2 := Lib.hid (fun (W : World) => rzig_any y4 W (by omega) (by omega))
      have q3 : zig y3 ≤ 18446744073709551615 := by unfold zig; split <;> omega
      have q4 : zig y4 ≤ 18446744073709551615 := by unfold zig; split <;> omega
      have V1 := vp_len10 (n := zig y3) (by omega)
      have e0 : plE 3 (y0, y1, y2, y3, y4) = vp (zig y3) ++ vp (zig y4) := by unfold plE; rw [if_neg (by decide), if_neg (by decide), if_pos rfl]
      rw [e0, ← List.append_assoc] at HFS
      clear e0
      generalize zig y3 = s3 at *
      generalize zig y4 = s4 at *
      have U := Lib.hid (rput_any (c := cc) s3 o.reads (by omega) q3)
      go_wp2_with fail
      refine (Z1.out _).mono ?_
      rintro e w2 ⟨rfl, rfl⟩
      go_wp2_with fail
      refine U.out.mono ?_
      rintro e w2 ⟨A2, n2, c2, rfl, k2, b2⟩
      have hn2 : n2 ≤ 100000000010 := by have a := k2.len; have b' := o.len; rw [nums_length] at a b'; rw [List.length_append] at a; omega
      have b02 := b.trans (Below.mono b2 hz)
      have hz2 := b02.size
      have U2 := Lib.hid (rput_any (c := c2) s4 k2.reads (by omega) q4)
      clear z0 z1 z2 z3 z4
      obtain ⟨z0, z1, z2, z3, z4⟩ := HY.out _ b02
      go_wp2_with fail
      refine (Z2.out _).mono ?_
      rintro e w3 ⟨rfl, rfl⟩
      go_wp2_with fail
      refine U2.out.mono ?_
      rintro e w3 ⟨A3, n3, c3, rfl, k3, b3⟩
      go_wp2_with fail
      go_roundw
      case rel => exact ⟨k + 1, _, _, _, by omega, by go_num, rfl, by rw [HFS.out]; exact k3.base_le hz2, b02.trans (Below.mono b3 hz2)⟩
      case measure => simp [intOf]; omega
    · obtain rfl : k = L.length := by omega
      rw [List.take_length] at o
      go_wp2_with fail
      go_ret2
      exact ⟨_, _, _, rfl, o, b⟩

end Go.Proofs.Ytflaaahcoglflaa
/- The contract of hypostyleref09.Encode, of every type. -/

namespace Go.Proofs.Ytflaaahcoglflaa
open Go.RowKit Go.Hm
theorem bits_snoc {L : List CellS} {k : Nat} (h : k < L.length) : bitsP (L.take (k + 1)) = bitsP (L.take k) ++ [u64N (L.getD k (false, 0, [], 0, 0)).2.1] := by
  unfold bitsP
  rw [take_snoc L k (false, 0, [], 0, 0) h, List.map_append]
  rfl
set_option maxHeartbeats 4000000 in
set_option maxRecDepth 100000 in
theorem rplain1 {w : World} {A : Option Addr} {c : Nat} {L : List CellS} (h : Reads w w.heap.size 5 A L.length (recs cellV L)) (hL : ∀ y ∈ L, cellData y) (hn : L.length ≤ 65536) (hR : ∀ c ∈ L, rightB c 1 false = true) (hok : plOk 1 L = true) :
    Calls Try.prog 43 #[.int .i64 1, .slice A L.length c] w (OptB (some (plB 1 L)) w) := by
  have FN := Lib.hid (rfine_any (t := 1) (c := c) h (fun y hy => (hL y hy).1.1) (by omega))
  rw [hok] at FN
  have HR := Lib.hid h
  have HP := Lib.hid (pack_plB hR hn)
  clear h hL hR hok
  go_enter Try.func43, Try.ntmps43
  go_wp2_with fail
  refine FN.out.mono ?_
  rintro e w1 ⟨rfl, b1⟩
  clear FN
  go_wp2_with fail
  go_loopw [8, 9] (fun v i wr => ∃ (k cc : Nat) (AA : Option Addr), k ≤ L.length ∧ i = .int .i64 (k : Int) ∧ v = .slice AA k cc ∧ Own wr w.heap.size 60 (.slice AA k cc) (nums .u64 (bitsP (L.take k))) ∧ Below w.heap.size w wr) (fun _ i _ => L.length - (intOf i).toNat)
  case atStart => exact ⟨0, 0, none, Nat.zero_le _, rfl, rfl, Own.nil_, b1⟩
  case round =>
    obtain ⟨k, cc, AA, hk2, rfl, rfl, o, b⟩ := hrel
    by_cases hlt : k < L.length
    · obtain ⟨ad, rfl, hb, d0, d1, d2, d3, d4⟩ := (Reads.later HR.out b).cell5 hlt
      have HS := Lib.hid (bits_snoc hlt)
      generalize L.getD k (false, 0, [], 0, 0) = y at *
      obtain ⟨y0, y1, y2, y3, y4⟩ := y
      dsimp only at d0 d1 d2 d3 d4 HS
      have hz := b.size
      have hw := u64_wrapN y1
      generalize u64N y1 = z at *
      go_wp2_with (refine wpList_pushN elW rfl (.tmp 34) (.tmp 41) rfl (W := w) (B := w.heap.size) o rfl rfl z rfl b (Nat.le_refl _) hz (by omega) (by simp only [maxLen]; omega) ?_
                   intro A3 c3 w3 _ _ k3 _ b3 _ _)
      go_roundw
      case rel => exact ⟨k + 1, c3, A3, by omega, by go_num, rfl, by rw [HS.out]; exact k3, b3⟩
      case measure => simp [intOf]; omega
    · obtain rfl : k = L.length := by omega
      rw [List.take_length] at o
      have P := rpack_any (c := cc) 1 o.reads (fun x hx => by unfold bitsP at hx; obtain ⟨y, _, rfl⟩ := List.mem_map.1 hx; have := u64N_lt y.2.1; omega) (by omega) (by omega) (by omega)
      rw [HP.out] at P
      have P := Lib.hid P
      go_wp2_with fail
      refine P.out.mono ?_
      rintro e w5 ⟨A5, n5, c5, rfl, o5, b5⟩
      have hz := b.size
      go_wp2_with fail
      go_ret2
      exact ⟨_, _, _, rfl, o5.base_le hz, b.trans (Below.mono b5 hz)⟩
set_option maxHeartbeats 2000000 in
set_option maxRecDepth 100000 in
theorem rplain_any {w : World} {t : Int} {A : Option Addr} {n c : Nat} {L : List CellS} (h : Reads w w.heap.size 5 A n (recs cellV L)) (hL : ∀ y ∈ L, cellData y) (hn : n ≤ 4611686018427387903) :
    Calls Try.prog 43 #[.int .i64 t, .slice A n c] w (OptB (plO t L) w) := by
  obtain rfl := h.lenCell
  unfold plO
  by_cases hok : plOk t L = true
  · rw [if_pos hok]
    obtain ⟨⟨h1, h2, h3⟩, h4⟩ := plOk_iff.1 hok
    rcases (show t = 0 ∨ t = 1 ∨ t = 2 ∨ t = 3 by omega) with rfl | rfl | rfl | rfl
    · exact rplain0 h hL h3 h4 hok
    · exact rplain1 h hL h3 h4 hok
    · exact rplain2 h hL h3 h4 hok
    · exact rplain3 h hL h3 h4 hok
  · rw [if_neg hok]
    have FN := Lib.hid (rfine_any (t := t) (c := c) h (fun y hy => (hL y hy).1.1) hn)
    rw [Bool.eq_false_iff.2 hok] at FN
    clear h hL hok
    go_enter Try.func43, Try.ntmps43
    go_wp2_with fail
    refine FN.out.mono ?_
    rintro e w1 ⟨rfl, b1⟩
    go_wp2_with fail
    go_ret2
    exact ⟨rfl, b1⟩

end Go.Proofs.Ytflaaahcoglflaa
/- The contract of hypostyleref15.Put. -/

namespace Go.Proofs.Ytflaaahcoglflaa
open Go.RowKit Go.Hm
theorem madeB (w : World) (e : TypeId) : Go.Hm.Own (w.alloc (.cells #[] e)) w.heap.size e (.slice (some ⟨w.heap.size, 0, none⟩) 0 0) [] :=
  ⟨by simp, .inr ⟨w.heap.size, 0, #[], rfl, Nat.le_refl _, heap_alloc_new w _, Nat.le_refl _, by simp [maxLen], by simp, by simp⟩⟩
set_option maxHeartbeats 4000000 in
set_option maxRecDepth 100000 in
theorem rstput_any {w : World} {A : Option Addr} {n c : Nat} {l : List Nat} {t : Int} {s : StatS} (h : Reads w w.heap.size 1 A n (nums .u8 l)) (hn : n ≤ 100000000000000) (hs : statData s) :
    Calls Try.prog 25 #[.slice A n c, .int .i64 t, statA s] w (BytesPost (putS l t s) w) := by
  obtain rfl : n = l.length := h.len
  have SR := fun (W : World) => rsright_any (w := W) (t := t) hs.fine
  have hrn := fun (e : rightS t s = true) => rightS_n e
  have PE := fun (e : rightS t s = true) (eh : s.2.1 = true) (W : World) => rplain_any (t := t) (c := 2) (Reads.litR W 49 (cellV s.2.2.1 ++ cellV s.2.2.2).toArray 2 5 (recs cellV [s.2.2.1, s.2.2.2]) (by simp [recs]) (by simp [recs, cellV])) (fun y hy => by simp at hy; rcases hy with rfl | rfl; exact hs.1; exact hs.2) (by omega)
  have pe2 := fun (e : rightS t s = true) (eh : s.2.1 = true) => (show plO t [s.2.2.1, s.2.2.2] = some (endsL t s) by unfold plO endsL; rw [if_pos (ends_ok e eh)])
  have hel := fun (e : rightS t s = true) (eh : s.2.1 = true) => ends_len e eh
  obtain ⟨M, hM⟩ : ∃ M, M = putS l t s := ⟨_, rfl⟩
  rw [← hM]
  unfold putS at hM
  clear hs
  generalize rightS t s = R at *
  generalize endsL t s = E at *
  obtain ⟨nn, b, ⟨p1, p2, p3, p4, p5⟩, ⟨q1, q2, q3, q4, q5⟩⟩ := s
  dsimp only at hrn PE pe2 hel hM
  have SR : Hid (∀ W, Calls Try.prog 42 #[.int .i64 t, .agg #[.int .i64 nn, .bool b, .bool p1, .int .i64 p2, .string (bstr p3), .int .i64 p4, .int .i64 p5, .bool q1, .int .i64 q2, .string (bstr q3), .int .i64 q4, .int .i64 q5]] W (NewPost (.bool R) W)) := Lib.hid SR
  show Calls Try.prog 25 #[.slice A l.length c, .int .i64 t, .agg #[.int .i64 nn, .bool b, .bool p1, .int .i64 p2, .string (bstr p3), .int .i64 p4, .int .i64 p5, .bool q1, .int .i64 q2, .string (bstr q3), .int .i64 q4, .int .i64 q5]] w (BytesPost M w)
  have B0 : Blk (w.alloc (.cells #[.int .i64 nn, .bool b, .bool p1, .int .i64 p2, .string (bstr p3), .int .i64 p4, .int .i64 p5, .bool q1, .int .i64 q2, .string (bstr q3), .int .i64 q4, .int .i64 q5] 51)) w.heap.size 51 #[.int .i64 nn, .bool b, .bool p1, .int .i64 p2, .string (bstr p3), .int .i64 p4, .int .i64 p5, .bool q1, .int .i64 q2, .string (bstr q3), .int .i64 q4, .int .i64 q5] := Blk.new _ _ _
  have hb : New w (w.alloc (.cells #[.int .i64 nn, .bool b, .bool p1, .int .i64 p2, .string (bstr p3), .int .i64 p4, .int .i64 p5, .bool q1, .int .i64 q2, .string (bstr q3), .int .i64 q4, .int .i64 q5] 51)) := (Below.refl _ _).alloc (Nat.le_refl _) _
  have hz0 := hb.size
  have ha : New (w.alloc (.cells #[.int .i64 nn, .bool b, .bool p1, .int .i64 p2, .string (bstr p3), .int .i64 p4, .int .i64 p5, .bool q1, .int .i64 q2, .string (bstr q3), .int .i64 q4, .int .i64 q5] 51)) ((w.alloc (.cells #[.int .i64 nn, .bool b, .bool p1, .int .i64 p2, .string (bstr p3), .int .i64 p4, .int .i64 p5, .bool q1, .int .i64 q2, .string (bstr q3), .int .i64 q4, .int .i64 q5] 51)).alloc (.cells #[] 5)) := (Below.refl _ _).alloc (Nat.le_refl _) _
  have om := (madeB (w.alloc (.cells #[.int .i64 nn, .bool b, .bool p1, .int .i64 p2, .string (bstr p3), .int .i64 p4, .int .i64 p5, .bool q1, .int .i64 q2, .string (bstr q3), .int .i64 q4, .int .i64 q5] 51)) 5).base_le hz0
  rw [show (w.alloc (.cells #[.int .i64 nn, .bool b, .bool p1, .int .i64 p2, .string (bstr p3), .int .i64 p4, .int .i64 p5, .bool q1, .int .i64 q2, .string (bstr q3), .int .i64 q4, .int .i64 q5] 51)).heap.size = w.heap.size + 1 by simp] at om
  have rm := Reads.later h (New.trans hb ha)
  have bm := New.trans hb ha
  have BM := B0.alloc (.cells #[] 5)
  have HPE := Lib.hid PE
  have Hpe2 := Lib.hid pe2
  have Hhel := Lib.hid hel
  clear PE pe2 hel h ha hb B0 hz0
  have HM := Lib.hid hM
  clear hM
  have Hrn := Lib.hid hrn
  clear hrn
  go_enter Try.func25, Try.ntmps25
  go_wp2_with (refine wpList_pushesN elB rfl (.tmp 11) (.tmp 12) rfl (W := w) (B := w.heap.size) (k := .u8) (l := []) om rm rfl rfl bm (Nat.le_refl _) (by simp; omega) (by omega) (by simp only [maxLen]; omega) ?_
               intro A1 c1 w1 _ _ o1 g1 b1 _
               have B1 := BM.push om g1 (by decide)
               rw [List.nil_append, Nat.zero_add] at o1
               obtain ⟨x0, x1, x2, x3, x4, x5, x6, x7, x8, x9, x10, x11⟩ := cells12 B1)
  refine (SR.out _).mono ?_
  rintro e w2 ⟨rfl, b2⟩
  have o2 := o1.later b2
  have b02 := New.trans b1 b2
  have hz2 := b02.size
  have B2 := B1.below b2 B1.lt
  clear om rm bm BM o1 g1 B1 b2 b1 x0 x1 x2 x3 x4 x5 x6 x7 x8 x9 x10 x11
  obtain ⟨x0, x1, x2, x3, x4, x5, x6, x7, x8, x9, x10, x11⟩ := cells12 B2
  have hM := HM.out
  clear HM
  cases R with
  | false =>
    rw [if_neg (by simp)] at hM
    have HM := Lib.hid hM
    clear hM Hrn HPE Hpe2 Hhel
    go_wp2_with fail
    go_ret
    rw [HM.out]
    exact ⟨_, _, _, rfl, o2, b02⟩
  | true =>
    rw [if_pos rfl] at hM
    obtain ⟨-, ⟨n0, n1⟩⟩ := Hrn.out (by trivial)
    obtain ⟨N, rfl⟩ := Int.eq_ofNat_of_zero_le n0
    rw [Int.toNat_natCast] at hM
    have hw : IntKind.u64.wrap (N : Int) = (N : Int) := by rw [IntKind.wrap_u64]; omega
    have V := vp_len10 (n := N) (by omega)
    have U := Lib.hid (rput_any (c := c1) N o2.reads (by omega) (by omega))
    clear Hrn
    cases b with
    | false =>
      rw [if_neg (by simp)] at hM
      have HM := Lib.hid hM
      clear hM HPE Hpe2 Hhel
      go_wp2_with fail
      refine U.out.mono ?_
      rintro e w3 ⟨A3, n3, c3, rfl, k3, b3⟩
      have hn3 : n3 ≤ 100000000000010 := by have := k3.len; rw [nums_length, List.length_append] at this; omega
      have b03 := New.trans b02 b3
      have B3 := B2.below b3 B2.lt
      have hz3 := b03.size
      clear U b3 B2 o2 x0 x1 x2 x3 x4 x5 x6 x7 x8 x9 x10 x11
      obtain ⟨x0, x1, x2, x3, x4, x5, x6, x7, x8, x9, x10, x11⟩ := cells12 B3
      go_wp2_with (refine wpList_pushN elB rfl (.tmp 28) (.tmp 29) rfl (W := w) (B := w.heap.size) (k3.base_le hz2) rfl rfl 0 rfl b03 (Nat.le_refl _) hz3 (by omega) (by simp only [maxLen]; omega) ?_
                   intro A5 c5 w5 _ _ o5 _ b5 _ _)
      go_ret
      rw [HM.out]
      exact ⟨_, _, _, rfl, o5, b5⟩
    | true =>
      rw [if_pos rfl] at hM
      have PE := HPE.out (by trivial) (by trivial)
      rw [Hpe2.out (by trivial) (by trivial)] at PE
      have hel := Hhel.out (by trivial) (by trivial)
      have PE : Hid (∀ W : World, Calls Try.prog 43 #[.int .i64 t, .slice (some ⟨W.heap.size, 0, none⟩) 2 2] (W.alloc (.cells #[.bool p1, .int .i64 p2, .string (bstr p3), .int .i64 p4, .int .i64 p5, .bool q1, .int .i64 q2, .string (bstr q3), .int .i64 q4, .int .i64 q5] 49)) (OptB (some E) (W.alloc (.cells #[.bool p1, .int .i64 p2, .string (bstr p3), .int .i64 p4, .int .i64 p5, .bool q1, .int .i64 q2, .string (bstr q3), .int .i64 q4, .int .i64 q5] 49)))) := Lib.hid PE
      have HM := Lib.hid hM
      clear hM HPE Hpe2 Hhel
      have V2 := vp_len10 (n := E.length) (by omega)
      go_wp2_with fail
      refine U.out.mono ?_
      rintro e w3 ⟨A3, n3, c3, rfl, k3, b3⟩
      have hn3 : n3 ≤ 100000000000010 := by have := k3.len; rw [nums_length, List.length_append] at this; omega
      have b03 := New.trans b02 b3
      have B3 := B2.below b3 B2.lt
      have hz3 := b03.size
      have o3 := k3.base_le hz2
      clear U b3 B2 o2 k3 x0 x1 x2 x3 x4 x5 x6 x7 x8 x9 x10 x11
      obtain ⟨x0, x1, x2, x3, x4, x5, x6, x7, x8, x9, x10, x11⟩ := cells12 B3
      go_wp2_with fail
      refine (PE.out _).mono ?_
      rintro e w4 ⟨A4, n4, c4, rfl, k4, b4⟩
      have ha : New w3 (w3.alloc (.cells #[.bool p1, .int .i64 p2, .string (bstr p3), .int .i64 p4, .int .i64 p5, .bool q1, .int .i64 q2, .string (bstr q3), .int .i64 q4, .int .i64 q5] 49)) := (Below.refl _ _).alloc (Nat.le_refl _) _
      have b34 := New.trans ha b4
      have hap := ownApart k4 (o3.later ha)
      have o4 := o3.later b34
      have b04 := New.trans b03 b34
      have hz4 := b04.size
      have hn4 : n4 ≤ 131112 := by have l4 := k4.len; rw [nums_length] at l4; omega
      have HNE : Hid (n4 = E.length) := Lib.hid (by have l4 := k4.len; rwa [nums_length] at l4)
      have hw2 : IntKind.u64.wrap (n4 : Int) = (n4 : Int) := by rw [IntKind.wrap_u64]; omega
      clear ha b4 b34 o3 b03 B3 x0 x1 x2 x3 x4 x5 x6 x7 x8 x9 x10 x11
      go_wp2_with (refine wpList_pushN elB rfl (.tmp 41) (.tmp 42) rfl (W := w) (B := w.heap.size) o4 rfl rfl 1 rfl b04 (Nat.le_refl _) hz4 (by omega) (by simp only [maxLen]; omega) ?_
                   intro A5 c5 w5 _ _ o5 g5 b5 _ d5)
      have k5 := k4.kept g5 hap
      have hz5 := b5.size
      have U2 := rput_any (c := c5) E.length o5.reads (by omega) (by omega)
      rw [← HNE.out] at U2
      have U2 := Lib.hid U2
      refine U2.out.mono ?_
      rintro e w6 ⟨A6, n6, c6, rfl, k6, b6⟩
      have hn6 : n6 ≤ 100000000000030 := by
        have a := k6.len
        have b' := o5.len
        rw [nums_length] at a b'
        rw [List.length_append, HNE.out] at a
        omega
      have k56 := k5.later b6
      have b06 := New.trans b5 b6
      have hz6 := b06.size
      rw [HNE.out] at k6
      go_wp2_with (refine wpList_pushesN elB rfl (.tmp 49) (.tmp 50) rfl (W := w) (B := w.heap.size) (k6.base_le hz5) k56.reads rfl rfl b06 (Nat.le_refl _) hz6 (by omega) (by simp only [maxLen]; omega) ?_
                   intro A8 c8 w8 _ _ o8 _ b8 _)
      go_ret
      rw [HM.out]
      exact ⟨_, _, _, rfl, o8, b8⟩

end Go.Proofs.Ytflaaahcoglflaa
/- The answer's columns as bytes. -/

namespace Go.Proofs.Ytflaaahcoglflaa
open Go.RowKit Go.Hm

set_option maxHeartbeats 2000000 in
set_option maxRecDepth 100000 in
theorem rsput_any {w : World} {A A2 : Option Addr} {n c n2 c2 : Nat} {b : List Nat} {L : List ColS} (h : Reads w w.heap.size 1 A n (nums .u8 b)) (hn : n ≤ 140737488300000) (h2 : Reads w w.heap.size 3 A2 n2 (recs colV L)) (hL : ∀ x ∈ L, (∀ z ∈ x.1, z < 256) ∧ x.1.length ≤ 140737488351232) (hn2 : n2 ≤ 4611686018427387903) :
    Calls Try.prog 23 #[.slice A n c, .slice A2 n2 c2] w (BytesPost (putC b L) w) := by
  obtain rfl := h2.lenC
  have hln := h.len
  have CC := Lib.hid (fun (W : World) (hW : New w W) => rcols_any (c := c2) (Reads.later h2 hW) hL hn2)
  have hc : colsCk L = 0 ∨ ¬ colsCk L = 0 := Classical.em _
  rcases hc with hk | hk
  · rw [hk] at CC
    have HO := Lib.hid (show putC b L = b ++ vp L.length ++ catC L by rw [putC, if_pos hk])
    obtain ⟨m1, m2, _⟩ := (colsCk_iff L).1 hk
    generalize putC b L = O at *
    have M2 := Lib.hid m2
    have HLL := Lib.hid hL
    have vl := vp_len10 (n := L.length) (by omega)
    have VL := Lib.hid vl
    have LN := Lib.hid hln
    clear hk m2 hL hln
    go_enter Try.func23, Try.ntmps23
    go_wp2_with (refine wpList_pushesN elB rfl (.tmp 8) (.tmp 9) rfl (W := w) (B := w.heap.size) (k := .u8) (l := []) (l2 := b) (c2 := c) (Own.empty _ _) ((h.alloc (Nat.le_refl _) _).more (by simp)) rfl rfl ((Below.refl _ _).alloc (Nat.le_refl _) _) (Nat.le_refl _) (by simp) (by omega) (by simp only [maxLen]; omega) ?_
                 simp only [Nat.zero_add, List.nil_append]
                 intro A1 c1 w1 _ _ o1 _ b1 _)
    refine (CC.out w1 b1).mono ?_
    rintro e w2 ⟨rfl, b2⟩
    have b02 := New.trans b1 b2
    have o2 := o1.later b2
    have P3 := Lib.hid (rput_any (c := c1) L.length o2.reads (by omega) (by omega))
    clear b1 b2 o1 CC vl
    go_wp2_with fail
    refine P3.out.mono ?_
    rintro e w3 ⟨A3, n3, c3, rfl, k3, b3⟩
    have z2 := b02.size
    have b03 := New.trans b02 b3
    have k3 := k3.base_le z2
    clear P3 o2 b02 b3 z2
    go_wp2
    go_loopw [5, 7] (fun v i wr => ∃ (k : Nat) (A : Option Addr) (m c5 : Nat), i = .int .i64 (k : Int) ∧ k ≤ L.length ∧ v = .slice A m c5 ∧ Own wr w.heap.size 5 (.slice A m c5) (nums .u8 (b ++ vp L.length ++ catC (L.take k))) ∧ New w wr) (fun _ i _ => L.length - (intOf i).toNat)
    case atStart => exact ⟨0, _, _, _, rfl, by omega, rfl, by rw [List.take_zero, catC_nil, List.append_nil]; exact k3, b03⟩
    case round =>
      obtain ⟨k, A5, m5, c5, rfl, hk, rfl, o5, b5⟩ := hrel
      have z5 := b5.size
      by_cases hlt : k < L.length
      · obtain ⟨ad, rfl, hbk, d0, d1, d2⟩ := (Reads.later h2 b5).colT hlt
        have HC := Lib.hid (show ∀ W, New w W → W.cell? (ad.add (k * 3)) = some (.string (bstr (L.getD k ([], 0, false)).1)) ∧ W.cell? ⟨(ad.add (k * 3)).block, (ad.add (k * 3)).off + 1, none⟩ = some (.int .i64 (L.getD k ([], 0, false)).2.1) ∧ W.cell? ⟨(ad.add (k * 3)).block, (ad.add (k * 3)).off + 2, none⟩ = some (.bool (L.getD k ([], 0, false)).2.2) from fun W hW => by
          obtain ⟨ad', e', _, d0, d1, d2⟩ := (Reads.later h2 hW).colT hlt
          cases e'
          exact ⟨d0, d1, d2⟩)
        have hx : (L.getD k ([], 0, false)) ∈ L := by rw [List.getD_eq_getElem?_getD, List.getElem?_eq_getElem hlt]; exact List.getElem_mem hlt
        obtain ⟨x1, x2, x3, x4⟩ := M2.out _ hx
        have y1 := (HLL.out _ hx).1
        have T := take_snoc L k ([], 0, false) hlt
        have q5 : m5 ≤ n + 7200 := by
          have l := o5.len
          have l2 := catC_len (L.take k) (fun x hx => (M2.out x (List.mem_of_mem_take hx)).2.1)
          rw [nums_length, List.length_append, List.length_append] at l
          rw [List.length_take] at l2
          have := VL.out
          have := LN.out
          omega
        have HT := Lib.hid (show b ++ vp L.length ++ catC (L.take (k + 1)) = b ++ vp L.length ++ catC (L.take k) ++ vp (L.getD k ([], 0, false)).1.length ++ (L.getD k ([], 0, false)).1 ++ [(L.getD k ([], 0, false)).2.1.toNat] ++ [boolN (L.getD k ([], 0, false)).2.2] by rw [T, catC_snoc]; simp)
        clear T hx
        generalize (L.getD k ([], 0, false)).1 = s2 at *
        generalize (L.getD k ([], 0, false)).2.1 = t2 at *
        generalize (L.getD k ([], 0, false)).2.2 = nu at *
        obtain ⟨t2, rfl⟩ := Int.eq_ofNat_of_zero_le x3
        rw [Int.toNat_natCast] at HT
        have zs := bstr_size s2
        have VS := Lib.hid (vp_len10 (n := s2.length) (by omega))
        have Y1 := Lib.hid y1
        have hiz : (k : Int) < (L.length : Int) := by omega
        have e8 : IntKind.u8.wrap (t2 : Int) = (t2 : Int) := by rw [IntKind.wrap_u8]; omega
        have P6 := Lib.hid (rput_any (c := c5) s2.length o5.reads (by omega) (by omega))
        clear y1 d1 d2
        go_wp2_with fail
        refine P6.out.mono ?_
        rintro e w7 ⟨A7, n7, c7, rfl, k7, b7⟩
        have b07 := New.trans b5 b7
        have k7 := k7.base_le z5
        have q7 : n7 ≤ m5 + 10 := by have l := k7.len; have l5 := o5.len; rw [nums_length, List.length_append] at l; rw [nums_length] at l5; have := VS.out; omega
        have z7 := b07.size
        obtain ⟨p0, p1, p2⟩ := HC.out w7 b07
        clear d0 b7 P6 o5
        cases nu
        all_goals
          go_wp2_with (first
            | (refine wpList_pushStr elB strT rfl (.tmp 36) (.tmp 41) rfl (W := w) (B := w.heap.size) k7 Y1.out rfl rfl b07 (Nat.le_refl _) z7 (by omega) ?_
               intro A9 c9 w9 _ _ o9 g9 b09
               have z9 := b09.size
               obtain ⟨p0, p1, p2⟩ := HC.out w9 b09)
            | (refine wpList_pushN elB rfl (.tmp 43) (.tmp 50) rfl (W := w) (B := w.heap.size) o9 rfl rfl t2 rfl b09 (Nat.le_refl _) z9 (by omega) (by simp only [maxLen]; omega) ?_
               intro A10 c10 w10 _ _ o10 g10 b10 _ _
               have z10 := b10.size
               obtain ⟨p0, p1, p2⟩ := HC.out w10 b10)
            | (refine wpList_pushN elB rfl (.tmp 57) (.tmp 58) rfl (W := w) (B := w.heap.size) o10 rfl rfl 1 rfl b10 (Nat.le_refl _) z10 (by omega) (by simp only [maxLen]; omega) ?_
               intro A11 c11 w11 _ _ o11 g11 b11 _ _)
            | (refine wpList_pushN elB rfl (.tmp 60) (.tmp 61) rfl (W := w) (B := w.heap.size) o10 rfl rfl 0 rfl b10 (Nat.le_refl _) z10 (by omega) (by simp only [maxLen]; omega) ?_
               intro A11 c11 w11 _ _ o11 g11 b11 _ _))
          go_roundw
          case rel => exact ⟨k + 1, _, _, _, by go_num, by omega, rfl, by rw [HT.out]; exact o11, b11⟩
          case measure => simp [intOf]; omega
      · obtain rfl : k = L.length := by omega
        rw [List.take_length] at o5
        go_wp2
        go_ret
        exact ⟨_, _, _, rfl, by rw [HO.out]; exact o5, b5⟩
  · have HO := Lib.hid (show putC b L = b by rw [putC, if_neg hk])
    generalize putC b L = O at *
    generalize colsCk L = ck at *
    have e1 : (ck != 0) = true := by simpa using hk
    clear hk hln
    go_enter Try.func23, Try.ntmps23
    go_wp2_with (refine wpList_pushesN elB rfl (.tmp 8) (.tmp 9) rfl (W := w) (B := w.heap.size) (k := .u8) (l := []) (l2 := b) (c2 := c) (Own.empty _ _) ((h.alloc (Nat.le_refl _) _).more (by simp)) rfl rfl ((Below.refl _ _).alloc (Nat.le_refl _) _) (Nat.le_refl _) (by simp) (by omega) (by simp only [maxLen]; omega) ?_
                 simp only [Nat.zero_add, List.nil_append]
                 intro A1 c1 w1 _ _ o1 _ b1 _)
    refine (CC.out w1 b1).mono ?_
    rintro e w2 ⟨rfl, b2⟩
    have o2 := o1.later b2
    go_wp2
    go_ret
    exact ⟨_, _, _, rfl, by rw [HO.out]; exact o2, New.trans b1 b2⟩

end Go.Proofs.Ytflaaahcoglflaa
