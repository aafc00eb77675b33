/- The small case of layer 7's statements. -/
import Derived.Test.YtcnaameebbcmhaaCellJ
import Derived.Test.YtcnaameebbcmhaaCellQ
import Derived.Test.YtcnaameebbcmhaaOpen
import Derived.Test.YtcnaameebbcmhaaOrd07

namespace Go.Hm
def s7C : List ColS := [([110], 0, true), ([115], 2, false)]
def s7A : List CellS := [(true, 0, [], 0, 0), (false, 5, [], 0, 0)]
def s7B : List CellS := [(false, 0, [97], 0, 0), (false, 0, [98], 0, 0)]
abbrev s7D (A B : Option Addr) (a b : Nat) : List ColD := [(A, a, s7A), (B, b, s7B)]

end Go.Hm

namespace Go.Proofs.Ytcnaameebbcmhaa
open Go.RowKit Go.Hm

section
variable {A B : Option Addr} {a b : Nat}
theorem s7_1 : tabCk s7C 2 (s7D A B a b) = 0 := rfl
theorem s7_2 : projEr s7C 2 (s7D A B a b) [1] 1 2 = 0 := rfl
theorem s7_3 : projEr s7C 2 (s7D A B a b) [1, 1] 0 1 = 7 := rfl
theorem s7_4 : projEr s7C 2 (s7D A B a b) [] 0 2 = 0 := rfl
end
theorem TabPost.one {er : Int} {L : List ColS} {r : Int} {C : List (List CellS)} {w w' : World} {e : Ending} (h : TabPost er L r C w e w') {c : List CellS} (hC : C = [c]) {n : Nat} (hn : L.length = n) {r0 : Int} (hr : r = r0) :
    ∃ (Ac Ad A : Option Addr) (cc cd k : Nat), e = .returned (.tuple #[.agg #[.slice Ac n cc, .int .i64 r0, .slice Ad 1 cd], .int .i64 er]) ∧
      (∀ W, New w' W → Reads W W.heap.size 3 Ac n (recs colV L)) ∧ (∀ W, New w' W → Reads W W.heap.size 1 Ad 1 [.slice A c.length k]) ∧ (∀ W, New w' W → Reads W W.heap.size 5 A c.length (recs cellV c)) ∧ New w w' := by
  obtain ⟨Ac, Ad, cc, cd, D, rfl, h1, h2, h3, h4, h5⟩ := h
  subst hC hn hr
  match D, h4 with
  | [d], h4 =>
    simp only [List.map_cons, List.map_nil, List.cons.injEq, and_true] at h4
    subst h4
    exact ⟨Ac, Ad, d.1, cc, cd, d.2.1, rfl, fun W hW => Reads.later (Reads.of_own h1) hW, fun W hW => Reads.later (Reads.of_own h2) hW, fun W hW => Reads.later (Reads.of_own (h3 d (by simp))) hW, h5⟩
theorem TabPost.zero {er : Int} {L : List ColS} {r : Int} {C : List (List CellS)} {w w' : World} {e : Ending} (h : TabPost er L r C w e w') (hC : C = []) (hL : L = []) {r0 : Int} (hr : r = r0) :
    ∃ (Ac Ad : Option Addr) (cc cd : Nat), e = .returned (.tuple #[.agg #[.slice Ac 0 cc, .int .i64 r0, .slice Ad 0 cd], .int .i64 er]) ∧ New w w' := by
  obtain ⟨Ac, Ad, cc, cd, D, rfl, h1, h2, h3, h4, h5⟩ := h
  subst hC hL hr
  match D, h4 with
  | [], h4 => exact ⟨Ac, Ad, cc, cd, rfl, h5⟩
theorem alloc_size (w : World) (o : Obj) : (w.alloc o).heap.size = w.heap.size + 1 := by simp
theorem s7_r1 (W : World) : Calls Try.prog 10 #[.agg #[.bool true, .int .i64 0, .string ⟨#[]⟩, .int .i64 0, .int .i64 0], .agg #[.string ⟨#[110]⟩, .int .i64 0, .bool true]] W (NewPost (.bool true) W) := cright_any (w := W) (b := true) (n := 0) (s := []) (x := 0) (y := 0) (cn := [110]) (t := 0) (nu := true) (by simp)
theorem s7_r2 (W : World) : Calls Try.prog 10 #[.agg #[.bool true, .int .i64 0, .string ⟨#[]⟩, .int .i64 0, .int .i64 0], .agg #[.string ⟨#[115]⟩, .int .i64 2, .bool false]] W (NewPost (.bool false) W) := cright_any (w := W) (b := true) (n := 0) (s := []) (x := 0) (y := 0) (cn := [115]) (t := 2) (nu := false) (by simp)
theorem s7_r3 (W : World) : Calls Try.prog 10 #[.agg #[.bool false, .int .i64 0, .string ⟨#[120]⟩, .int .i64 0, .int .i64 0], .agg #[.string ⟨#[115]⟩, .int .i64 2, .bool false]] W (NewPost (.bool true) W) := cright_any (w := W) (b := false) (n := 0) (s := [120]) (x := 0) (y := 0) (cn := [115]) (t := 2) (nu := false) (by simp)
theorem s7_r4 (W : World) : Calls Try.prog 10 #[.agg #[.bool false, .int .i64 0, .string ⟨#[120]⟩, .int .i64 0, .int .i64 0], .agg #[.string ⟨#[110]⟩, .int .i64 0, .bool true]] W (NewPost (.bool false) W) := cright_any (w := W) (b := false) (n := 0) (s := [120]) (x := 0) (y := 0) (cn := [110]) (t := 0) (nu := true) (by simp)
theorem s7_c1 (W : World) : Calls Try.prog 12 #[.int .i64 0, .agg #[.bool true, .int .i64 0, .string ⟨#[]⟩, .int .i64 0, .int .i64 0], .agg #[.bool false, .int .i64 (-9), .string ⟨#[]⟩, .int .i64 0, .int .i64 0]] W (NewPost (.int .i64 (-1)) W) := compare_any (w := W) (t := 0) (a := true) (b := false) (n := 0) (m := -9) (s := []) (r := []) (x := 0) (y := 0) (x2 := 0) (y2 := 0) (by simp)
theorem s7_c2 (W : World) : Calls Try.prog 12 #[.int .i64 2, .agg #[.bool false, .int .i64 0, .string ⟨#[98]⟩, .int .i64 0, .int .i64 0], .agg #[.bool false, .int .i64 0, .string ⟨#[97]⟩, .int .i64 0, .int .i64 0]] W (NewPost (.int .i64 1) W) := compare_any (w := W) (t := 2) (a := false) (b := false) (n := 0) (m := 0) (s := [98]) (r := [97]) (x := 0) (y := 0) (x2 := 0) (y2 := 0) (by simp)
theorem s7_l1 (W : World) : Calls Try.prog 17 #[.slice (some ⟨W.heap.size, 0, none⟩) 1 1] (W.alloc (.cells #[.string ⟨#[97]⟩, .int .i64 4, .bool false] 27)) (NewPost (.int .i64 3) (W.alloc (.cells #[.string ⟨#[97]⟩, .int .i64 4, .bool false] 27))) :=
  cols_any (L := [([97], 4, false)]) (Reads.litR W _ _ 1 3 (recs colV [([97], 4, false)]) rfl rfl) (by simp) (by omega) (by omega)
theorem s7_l2 (W : World) : Calls Try.prog 15 #[.agg #[.slice none 0 0, .int .i64 (-1), .slice none 0 0]] W (NewPost (.int .i64 2) W) :=
  check_any (w := W) (L := []) (r := -1) (D := []) Reads.none_ (by simp) (by omega) (by omega) Reads.none_ (by omega) (fun _ h => absurd h (by simp))
set_option maxHeartbeats 4000000 in
set_option maxRecDepth 100000 in
theorem small07_any (w : World) : Calls Try.prog 9 #[] w (SmallPost w) := by
  obtain ⟨W1, hW1⟩ : ∃ W, W = w.alloc (.cells #[.string ⟨#[110]⟩, .int .i64 0, .bool true] 27) := ⟨_, rfl⟩
  obtain ⟨W2, hW2⟩ : ∃ W, W = W1.alloc (.cells #[.string ⟨#[115]⟩, .int .i64 2, .bool false] 27) := ⟨_, rfl⟩
  obtain ⟨W3, hW3⟩ : ∃ W, W = W2.alloc (.cells #[.string ⟨#[110]⟩, .int .i64 0, .bool true, .string ⟨#[115]⟩, .int .i64 2, .bool false] 27) := ⟨_, rfl⟩
  obtain ⟨W4, hW4⟩ : ∃ W, W = W3.alloc (.cells #[.bool true, .int .i64 0, .string ⟨#[]⟩, .int .i64 0, .int .i64 0, .bool false, .int .i64 5, .string ⟨#[]⟩, .int .i64 0, .int .i64 0] 25) := ⟨_, rfl⟩
  obtain ⟨W5, hW5⟩ : ∃ W, W = W4.alloc (.cells #[.bool false, .int .i64 0, .string ⟨#[97]⟩, .int .i64 0, .int .i64 0, .bool false, .int .i64 0, .string ⟨#[98]⟩, .int .i64 0, .int .i64 0] 25) := ⟨_, rfl⟩
  obtain ⟨W6, hW6⟩ : ∃ W, W = W5.alloc (.cells #[.slice (some ⟨w.heap.size + 1 + 1 + 1, 0, none⟩) 2 2, .slice (some ⟨w.heap.size + 1 + 1 + 1 + 1, 0, none⟩) 2 2] 44) := ⟨_, rfl⟩
  obtain ⟨W7, hW7⟩ : ∃ W, W = W6.alloc (.cells #[.slice (some ⟨w.heap.size + 1 + 1, 0, none⟩) 2 2, .int .i64 2, .slice (some ⟨w.heap.size + 1 + 1 + 1 + 1 + 1, 0, none⟩) 2 2] 35) := ⟨_, rfl⟩
  have z1 : W1.heap.size = w.heap.size + 1 := by rw [hW1, alloc_size]
  have z2 : W2.heap.size = w.heap.size + 1 + 1 := by rw [hW2, alloc_size, z1]
  have z3 : W3.heap.size = w.heap.size + 1 + 1 + 1 := by rw [hW3, alloc_size, z2]
  have z4 : W4.heap.size = w.heap.size + 1 + 1 + 1 + 1 := by rw [hW4, alloc_size, z3]
  have z5 : W5.heap.size = w.heap.size + 1 + 1 + 1 + 1 + 1 := by rw [hW5, alloc_size, z4]
  have z6 : W6.heap.size = w.heap.size + 1 + 1 + 1 + 1 + 1 + 1 := by rw [hW6, alloc_size, z5]
  have e1 : New w W1 := by rw [hW1]; exact (Below.refl _ _).alloc (Nat.le_refl _) _
  have e2 : New W1 W2 := by rw [hW2]; exact (Below.refl _ _).alloc (Nat.le_refl _) _
  have e3 : New W2 W3 := by rw [hW3]; exact (Below.refl _ _).alloc (Nat.le_refl _) _
  have e4 : New W3 W4 := by rw [hW4]; exact (Below.refl _ _).alloc (Nat.le_refl _) _
  have e5 : New W4 W5 := by rw [hW5]; exact (Below.refl _ _).alloc (Nat.le_refl _) _
  have e6 : New W5 W6 := by rw [hW6]; exact (Below.refl _ _).alloc (Nat.le_refl _) _
  have e7 : New W6 W7 := by rw [hW7]; exact (Below.refl _ _).alloc (Nat.le_refl _) _
  have e67 := e7
  have e57 := New.trans e6 e67
  have e47 := New.trans e5 e57
  have e37 := New.trans e4 e47
  have e27 := New.trans e3 e37
  have e17 := New.trans e2 e27
  have e07 := New.trans e1 e17
  have B1 : Blk W7 w.heap.size 27 #[.string ⟨#[110]⟩, .int .i64 0, .bool true] := by
    have : Blk W1 w.heap.size 27 #[.string ⟨#[110]⟩, .int .i64 0, .bool true] := by rw [hW1]; exact Blk.new _ _ _
    exact this.below e17 this.lt
  have B2 : Blk W7 (w.heap.size + 1) 27 #[.string ⟨#[115]⟩, .int .i64 2, .bool false] := by
    have : Blk W2 W1.heap.size 27 #[.string ⟨#[115]⟩, .int .i64 2, .bool false] := by rw [hW2]; exact Blk.new _ _ _
    rw [← z1]
    exact this.below e27 this.lt
  have B7 : Blk W7 (w.heap.size + 1 + 1 + 1 + 1 + 1 + 1) 35 #[.slice (some ⟨w.heap.size + 1 + 1, 0, none⟩) 2 2, .int .i64 2, .slice (some ⟨w.heap.size + 1 + 1 + 1 + 1 + 1, 0, none⟩) 2 2] := by
    have : Blk W7 W6.heap.size 35 #[.slice (some ⟨w.heap.size + 1 + 1, 0, none⟩) 2 2, .int .i64 2, .slice (some ⟨w.heap.size + 1 + 1 + 1 + 1 + 1, 0, none⟩) 2 2] := by rw [hW7]; exact Blk.new _ _ _
    rw [← z6]
    exact this
  have rC := Lib.hid (fun (W : World) (hW : New W7 W) => show Reads W W.heap.size 3 (some ⟨w.heap.size + 1 + 1, 0, none⟩) 2 (recs colV s7C) by
    have : Reads W3 W3.heap.size 3 (some ⟨W2.heap.size, 0, none⟩) 2 (recs colV s7C) := by rw [hW3]; exact Reads.litR W2 _ _ 2 3 (recs colV s7C) rfl rfl
    rw [← z2]
    exact Reads.later this (New.trans e37 hW))
  have rA := fun (W : World) (hW : New W7 W) => show Reads W W.heap.size 5 (some ⟨w.heap.size + 1 + 1 + 1, 0, none⟩) 2 (recs cellV s7A) by
    have : Reads W4 W4.heap.size 5 (some ⟨W3.heap.size, 0, none⟩) 2 (recs cellV s7A) := by rw [hW4]; exact Reads.litR W3 _ _ 2 5 (recs cellV s7A) rfl rfl
    rw [← z3]
    exact Reads.later this (New.trans e47 hW)
  have rB := fun (W : World) (hW : New W7 W) => show Reads W W.heap.size 5 (some ⟨w.heap.size + 1 + 1 + 1 + 1, 0, none⟩) 2 (recs cellV s7B) by
    have : Reads W5 W5.heap.size 5 (some ⟨W4.heap.size, 0, none⟩) 2 (recs cellV s7B) := by rw [hW5]; exact Reads.litR W4 _ _ 2 5 (recs cellV s7B) rfl rfl
    rw [← z4]
    exact Reads.later this (New.trans e57 hW)
  have rD := Lib.hid (fun (W : World) (hW : New W7 W) => show Reads W W.heap.size 1 (some ⟨w.heap.size + 1 + 1 + 1 + 1 + 1, 0, none⟩) 2 (recs dataV (s7D (some ⟨w.heap.size + 1 + 1 + 1, 0, none⟩) (some ⟨w.heap.size + 1 + 1 + 1 + 1, 0, none⟩) 2 2)) by
    have : Reads W6 W6.heap.size 1 (some ⟨W5.heap.size, 0, none⟩) 2 (recs dataV (s7D (some ⟨w.heap.size + 1 + 1 + 1, 0, none⟩) (some ⟨w.heap.size + 1 + 1 + 1 + 1, 0, none⟩) 2 2)) := by rw [hW6]; exact Reads.litR W5 _ _ 2 1 _ rfl rfl
    rw [← z5]
    exact Reads.later this (New.trans e67 hW))
  have DI := Lib.hid (fun (W : World) (hW : New W7 W) => show DataIn W W.heap.size (s7D (some ⟨w.heap.size + 1 + 1 + 1, 0, none⟩) (some ⟨w.heap.size + 1 + 1 + 1 + 1, 0, none⟩) 2 2) by
    intro d hd
    rcases List.mem_cons.1 hd with rfl | hd
    · exact ⟨rA W hW, by simp [s7A], by simp [s7A], by simp, by simp⟩
    · obtain rfl := List.mem_singleton.1 hd
      exact ⟨rB W hW, by simp [s7B], by simp [s7B], by simp, by simp⟩)
  have HC : ∀ x ∈ s7C, (∀ z ∈ x.1, z < 256) ∧ x.1.length ≤ 140737488351232 := by simp [s7C]
  have PJ := fun (W : World) (hW : New W7 W) (Al : Option Addr) (nl cl : Nat) (l : List Int) (fr to_ : Int) (hl : Reads W W.heap.size 1 Al nl (ints .i64 l)) (hcl : nl ≤ cl) (hnl : nl ≤ 100000) hb => project_any (cc := 2) (r := 2) (cd := 2) (fr := fr) (to_ := to_) (rC.out W hW) HC (by omega) (by omega) (rD.out W hW) (by omega) (DI.out W hW) hl hcl hnl hb
  have CK := Lib.hid (fun (W : World) (hW : New W7 W) => check_any (cc := 2) (r := 2) (cd := 2) (rC.out W hW) HC (by omega) (by omega) (rD.out W hW) (by omega) (DI.out W hW))
  have P1 := Lib.hid (PJ (W7.alloc (.cells #[.int .i64 1] 3)) ((Below.refl _ _).alloc (Nat.le_refl _) _) (some ⟨W7.heap.size, 0, none⟩) 1 1 [1] 1 2 (Reads.litV W7 _ _ 1 (ints .i64 [1]) rfl rfl) (by omega) (by omega) (by omega))
  have P2 := Lib.hid (fun (W : World) (hW : New W7 W) => PJ (W.alloc (.cells #[.int .i64 1, .int .i64 1] 3)) (New.trans hW ((Below.refl _ _).alloc (Nat.le_refl _) _)) (some ⟨W.heap.size, 0, none⟩) 2 2 [1, 1] 0 1 (Reads.litV W _ _ 2 (ints .i64 [1, 1]) rfl rfl) (by omega) (by omega) (by omega))
  have P3 := Lib.hid (fun (W : World) (hW : New W7 W) => PJ W hW none 0 0 [] 0 2 Reads.none_ (by omega) (by omega) (by omega))
  simp only [s7_2] at P1
  simp only [s7_3] at P2
  simp only [s7_4] at P3
  simp only [s7_1] at CK
  have z7 : W7.heap.size = w.heap.size + 1 + 1 + 1 + 1 + 1 + 1 + 1 := by rw [hW7, alloc_size, z6]
  rw [z7] at P1
  have HE := Lib.hid e07
  have HE7 := Lib.hid (show W7.alloc (.cells #[.int .i64 1] 3) = _ from by rw [hW7, hW6, hW5, hW4, hW3, hW2, hW1])
  clear hW7 hW6 hW5 hW4 hW3 hW2 hW1 z1 z2 z3 z4 z5 z6 e1 e2 e3 e4 e5 e6 e7 e67 e57 e47 e37 e27 e17 e07 rA rB PJ rC rD DI
  go_enter Try.func9, Try.ntmps9
  go_wp2_with fail
  rw [← HE7.out]
  refine P1.out.mono ?_
  rintro e w1 h
  obtain ⟨Ac, Ad, A1, cc, cd, k1, rfl, rc, rd, ra, b1⟩ := h.u.one (c := [(false, 0, [98], 0, 0)]) rfl (n := 1) rfl (r0 := 1) rfl
  have rc : ∀ W, New w1 W → Reads W W.heap.size 3 Ac 1 [.string ⟨#[115]⟩, .int .i64 2, .bool false] := rc
  have rd : ∀ W, New w1 W → Reads W W.heap.size 1 Ad 1 [.slice A1 1 k1] := rd
  have ra : ∀ W, New w1 W → Reads W W.heap.size 5 A1 1 [.bool false, .int .i64 0, .string ⟨#[98]⟩, .int .i64 0, .int .i64 0] := ra
  obtain ⟨ac, rfl, _, _⟩ := (rc w1 (New.refl _)).2 (by omega)
  obtain ⟨ad, rfl, _, _⟩ := (rd w1 (New.refl _)).2 (by omega)
  obtain ⟨a1, rfl, _, _⟩ := (ra w1 (New.refl _)).2 (by omega)
  have F1 := Lib.hid (fun (W : World) (hW : New w1 W) => show W.cell? ac = some (.string ⟨#[115]⟩) ∧ W.cell? ⟨ac.block, ac.off + 1, none⟩ = some (.int .i64 2) ∧ W.cell? ⟨ac.block, ac.off + 2, none⟩ = some (.bool false) ∧ W.cell? ad = some (.slice (some a1) 1 k1) ∧ W.cell? ⟨a1.block, a1.off + 2, none⟩ = some (.string ⟨#[98]⟩) by
    obtain ⟨_, h1, _, h1'⟩ := (rc W hW).2 (by omega)
    obtain ⟨_, h2, _, h2'⟩ := (rd W hW).2 (by omega)
    obtain ⟨_, h3, _, h3'⟩ := (ra W hW).2 (by omega)
    obtain rfl := Option.some.inj h1
    obtain rfl := Option.some.inj h2
    obtain rfl := Option.some.inj h3
    have q1 := h1' 0 _ rfl
    have q2 := h2' 0 _ rfl
    rw [add_zero'] at q1 q2
    exact ⟨q1, h1' 1 _ rfl, h1' 2 _ rfl, q2, h3' 2 _ rfl⟩)
  have b71 := New.alloc _ b1
  clear h HE7 P1 rc rd ra b1
  obtain ⟨w2, hw2⟩ : ∃ W, W = w1.alloc (.cells #[.slice (some ac) 1 cc, .int .i64 1, .slice (some ad) 1 cd] 35) := ⟨_, rfl⟩
  have b12 : New w1 w2 := by rw [hw2]; exact (Below.refl _ _).alloc (Nat.le_refl _) _
  have D2 : Blk w2 w1.heap.size 35 #[.slice (some ac) 1 cc, .int .i64 1, .slice (some ad) 1 cd] := by rw [hw2]; exact Blk.new _ _ _
  have b72 := New.trans b71 b12
  obtain ⟨x0, x1, x2⟩ := ccells (B7.below b72 B7.lt)
  have P2 := Lib.hid (P2.out w2 b72)
  have HW2 := Lib.hid hw2
  rw [hw2] at x0 x1 x2
  have hz1 : w1.heap.size + 1 = w2.heap.size := by rw [hw2, alloc_size]
  have HZ1 := Lib.hid hz1
  clear hw2 hz1
  go_wp2_with fail
  rw [← HW2.out]
  first | rw [HZ1.out] | skip
  refine P2.out.mono ?_
  rintro e w3 h
  obtain ⟨A3, A3', c3, c3', rfl, b3⟩ := h.u.zero rfl rfl (r0 := 0) rfl
  clear h P2 HW2 HZ1 x0 x1 x2
  have b23 := New.alloc _ b3
  obtain ⟨w4, hw4⟩ : ∃ W, W = w3.alloc (.cells #[.slice A3 0 c3, .int .i64 0, .slice A3' 0 c3'] 35) := ⟨_, rfl⟩
  have b34 : New w3 w4 := by rw [hw4]; exact (Below.refl _ _).alloc (Nat.le_refl _) _
  have b24 := New.trans b23 b34
  have b74 := New.trans b72 b24
  obtain ⟨x0, x1, x2⟩ := ccells (B7.below b74 B7.lt)
  have P3 := Lib.hid (P3.out w4 b74)
  rw [hw4] at x0 x1 x2
  have HW4 := Lib.hid hw4
  clear hw4 b23 b3
  go_wp2_with fail
  rw [← HW4.out]
  refine P3.out.mono ?_
  rintro e w5 h
  obtain ⟨A5, A5', c5, c5', rfl, b45⟩ := h.u.zero rfl rfl (r0 := 2) rfl
  clear h P3 HW4 x0 x1 x2
  obtain ⟨w6, hw6⟩ : ∃ W, W = w5.alloc (.cells #[.slice A5 0 c5, .int .i64 2, .slice A5' 0 c5'] 35) := ⟨_, rfl⟩
  have b56 : New w5 w6 := by rw [hw6]; exact (Below.refl _ _).alloc (Nat.le_refl _) _
  have D6 : Blk w6 w5.heap.size 35 #[.slice A5 0 c5, .int .i64 2, .slice A5' 0 c5'] := by rw [hw6]; exact Blk.new _ _ _
  have b46 := New.trans b45 b56
  have b26 := New.trans b24 b46
  have b76 := New.trans b72 b26
  have b16 := New.trans b12 b26
  have F := Lib.hid (fun (W : World) (hW : New w6 W) => And.intro (ccells (B1.below (New.trans b76 hW) B1.lt)) (And.intro (ccells (B2.below (New.trans b76 hW) B2.lt)) (And.intro (ccells (B7.below (New.trans b76 hW) B7.lt)) (And.intro (ccells (D2.below (New.trans b26 hW) D2.lt)) (And.intro (ccells (D6.below hW D6.lt)) (F1.out W (New.trans b16 hW)))))))
  have CK := Lib.hid (fun (W : World) (hW : New w6 W) => CK.out W (New.trans b76 hW))
  have HE := Lib.hid (New.trans HE.out b76)
  clear B1 B2 B7 D2 D6 F1 b76 b26 b16 b46 b56 b24 b45 b34 b12 b71 b72 b74
  obtain ⟨⟨o0, o1, o2⟩, ⟨p0, p1, p2⟩, ⟨x0, x1, x2⟩, ⟨y0, y1, y2⟩, ⟨z0, z1, z2⟩, f0, f1, f2, f3, f4⟩ := F.out w6 (New.refl _)
  have HW6 := Lib.hid hw6
  rw [hw6] at o0 o1 o2 p0 p1 p2 x0 x1 x2 y0 y1 y2 z0 z1 z2 f0 f1 f2 f3 f4
  clear hw6
  go_wp2_with fail
  rw [← HW6.out]
  clear o0 o1 o2 p0 p1 p2 x0 x1 x2 y0 y1 y2 z0 z1 z2 f0 f1 f2 f3 f4
  refine wp_region_up New ord07
    New.refl New.trans (by kernel_rfl) (by kernel_rfl) (by kernel_rfl) ok07 ?_
  have hU := New.drew w6
  repeat (first
    | (refine up_quiet rfl rfl (v := ?_) (fun W hW => ?_) ?_; rotate_left; (obtain ⟨⟨o0, o1, o2⟩, ⟨p0, p1, p2⟩, ⟨x0, x1, x2⟩, ⟨y0, y1, y2⟩, ⟨z0, z1, z2⟩, f0, f1, f2, f3, f4⟩ := F.out W (New.trans hU hW); go_simp <;> with_reducible rfl); simp only [Act.put, List.setIfInBounds_toArray, List.set_cons_zero, List.set_cons_succ])
    | (refine up_call rfl rfl (fun K hK => ?_); go_simp
       (with_reducible refine (CK.out _ hU).mono ?_)
       rintro e u ⟨rfl, c⟩
       refine hK _ _ c ?_
       clear hK
       replace hU := New.trans hU c)
    | (refine up_call rfl rfl (fun K hK => ?_); go_simp
       (with_reducible refine (s7_r1 _).mono ?_)
       rintro e u ⟨rfl, c⟩
       refine hK _ _ c ?_
       clear hK
       replace hU := New.trans hU c)
    | (refine up_call rfl rfl (fun K hK => ?_); go_simp
       (with_reducible refine (s7_r2 _).mono ?_)
       rintro e u ⟨rfl, c⟩
       refine hK _ _ c ?_
       clear hK
       replace hU := New.trans hU c)
    | (refine up_call rfl rfl (fun K hK => ?_); go_simp
       (with_reducible refine (s7_r3 _).mono ?_)
       rintro e u ⟨rfl, c⟩
       refine hK _ _ c ?_
       clear hK
       replace hU := New.trans hU c)
    | (refine up_call rfl rfl (fun K hK => ?_); go_simp
       (with_reducible refine (s7_r4 _).mono ?_)
       rintro e u ⟨rfl, c⟩
       refine hK _ _ c ?_
       clear hK
       replace hU := New.trans hU c)
    | (refine up_call rfl rfl (fun K hK => ?_); go_simp
       (with_reducible refine (s7_c1 _).mono ?_)
       rintro e u ⟨rfl, c⟩
       refine hK _ _ c ?_
       clear hK
       replace hU := New.trans hU c)
    | (refine up_call rfl rfl (fun K hK => ?_); go_simp
       (with_reducible refine (s7_c2 _).mono ?_)
       rintro e u ⟨rfl, c⟩
       refine hK _ _ c ?_
       clear hK
       replace hU := New.trans hU c)
    | (refine up_call rfl rfl (fun K hK => ?_); go_simp
       (with_reducible refine (s7_l1 _).mono ?_)
       rintro e u ⟨rfl, c⟩
       refine hK _ _ c ?_
       clear hK
       replace hU := New.trans hU c)
    | (refine up_call rfl rfl (fun K hK => ?_); go_simp
       (with_reducible refine (s7_l2 _).mono ?_)
       rintro e u ⟨rfl, c⟩
       refine hK _ _ c ?_
       clear hK
       replace hU := New.trans hU c)
    | (refine up_call rfl rfl (fun K hK => ?_); go_simp
       refine hK _ _ ((Below.refl _ _).alloc (Nat.le_refl _) _) ?_
       clear hK
       replace hU := New.trans hU ((Below.refl _ _).alloc (Nat.le_refl _) (.cells #[.string ⟨#[97]⟩, .int .i64 4, .bool false] 27))))
  refine up_nil ?_
  go_wp2
  go_ret
  exact ⟨by simp, New.trans HE.out hU⟩

end Go.Proofs.Ytcnaameebbcmhaa
