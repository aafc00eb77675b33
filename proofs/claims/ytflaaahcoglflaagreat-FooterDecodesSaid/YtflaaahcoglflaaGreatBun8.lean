/- Texts merged, for a claim has at most 60 files: FooH, SchG, FooI, FooY, StaR, CellRr, StaT, FooL, FooR, ColsR. -/
import Derived.Test.YtflaaahcoglflaaGreatBun2
import Derived.Test.YtflaaahcoglflaaGreatBun3
import Derived.Test.YtflaaahcoglflaaGreatBun4
import Derived.Test.YtflaaahcoglflaaGreatBun5
import Derived.Test.YtflaaahcoglflaaGreatBun6
import Derived.Test.YtflaaahcoglflaaGreatBun7
/- The contract of footer.getGroup. -/

namespace Go.Hm
open Go Go.RowKit
theorem rows_apart {w : World} {base base2 sz sz2 n n2 : Nat} {e e2 : TypeId} {v v2 : Value} {xs xs2 : List Value} (h : w.ownsRow base e sz v n xs) (h2 : w.ownsRow base2 e2 sz2 v2 n2 xs2) (hne : e ≠ e2) : v.ownBlock = none ∨ v.ownBlock ≠ v2.ownBlock := by
  rcases hu : v.ownBlock with _ | k
  · exact .inl rfl
  · refine .inr fun he => row_row h h2 hne k ?_ hu
    unfold rowT
    rw [← he]
    simp
theorem recs_chV_snoc (D : List ChD) (x : ChD) : recs chV (D ++ [x]) = recs chV D ++ [.slice x.1 x.2.2.length x.2.1] := by
  rw [recs_append]
  rfl

end Go.Hm

namespace Go.Proofs.YtflaaahcoglflaaGreat
open Go.RowKit Go.Hm
theorem chunksR_snoc {m : Int} : ∀ (cs : List ColS) (c : ColS) (S : St), chunksR m (cs ++ [c]) S = ((chunksR m cs S).1 ++ [(chunkR c.2.1 m (chunksR m cs S).2).1], (chunkR c.2.1 m (chunksR m cs S).2).2)
  | [], _, _ => rfl
  | x :: cs, c, S => by
    have := chunksR_snoc (m := m) cs c (chunkR x.2.1 m S).2
    simp only [List.cons_append, chunksR, this]
theorem pagesR_sub {t m : Int} : ∀ (k : Nat) {S : St}, S.ok → ((pagesR t m k S).2.getD []).length ≤ (S.getD []).length
  | 0, _, _ => Nat.le_refl _
  | _ + 1, none, _ => Nat.le_refl _
  | k + 1, some b, h => by
    have h1 := pagesR_sub (t := t) (m := m) k (pageR_ok (t := t) (m := m) h)
    have h2 : ((pageR t m (some b)).2.getD []).length ≤ ((some b : St).getD []).length := by
      unfold pageR
      have a := lenS_sub (m := 268435456) h
      have b' := lenS_sub (m := m) (lenS_ok (m := 268435456) h)
      have c := getA_sub (t := t) (lenS_ok (m := m) (lenS_ok (m := 268435456) h))
      dsimp only
      omega
    simp only [pagesR]
    omega
theorem chunkR_sub {t m : Int} {S : St} (h : S.ok) : ((chunkR t m S).2.getD []).length ≤ (S.getD []).length := by
  have a := lenS_sub (m := m) h
  have b := pagesR_sub (t := t) (m := m) (lenS m S).1 (lenS_ok (m := m) h)
  unfold chunkR
  omega
/-- Chunks that are the call's own. -/
structure ChOwn (w : World) (B : Nat) (A : Option Addr) (d : Nat) (D : List ChD) : Prop where
  row : w.ownsRow B 42 1 (.slice A D.length d) D.length (recs chV D)
  pages : ∀ x ∈ D, w.ownsRow B 41 14 (.slice x.1 x.2.2.length x.2.1) x.2.2.length (recs pageV x.2.2)
theorem ChOwn.later {w w' : World} {B : Nat} {A : Option Addr} {d : Nat} {D : List ChD} (h : ChOwn w B A d D) (b : New w w') : ChOwn w' B A d D := ⟨row_later h.row b, fun x hx => row_later (h.pages x hx) b⟩
theorem ChOwn.far {w w' : World} {B g : Nat} {A : Option Addr} {d : Nat} {D : List ChD} (h : ChOwn w B A d D) (hg : w.grownBy w' (some g)) (hne : g < B) : ChOwn w' B A d D :=
  ⟨h.row.kept hg (.inr (fun e => by have := (World.ownsRow.lt h.row _ e).1; omega)), fun x hx => (h.pages x hx).kept hg (.inr (fun e => by have := (World.ownsRow.lt (h.pages x hx) _ e).1; omega))⟩
theorem ChOwn.blk {w w' : World} {B g : Nat} {A : Option Addr} {d : Nat} {D : List ChD} {t : TypeId} {cs : Array Value} (h : ChOwn w B A d D) (hB : Blk w g t cs) (hg : w.grownBy w' (some g)) (h1 : 42 ≠ t) (h2 : 41 ≠ t) : ChOwn w' B A d D :=
  ⟨h.row.kept hg (.inr (row_blk_ne h.row hB h1)), fun x hx => (h.pages x hx).kept hg (.inr (row_blk_ne (h.pages x hx) hB h2))⟩
def GroupPost (G : GroupS) (g : Nat) (S : St) (w : World) (e : Ending) (w' : World) : Prop :=
  ∃ A d D, e = .returned (.agg #[.int .i64 G.1, .slice A D.length d]) ∧ D.map (·.2.2) = G.2 ∧ ChOwn w' w.heap.size A d D ∧ CurS w' g S ∧ w.grownBy w' (some g)
theorem elCh : ElT Tryz.prog 43 42 (.slice none 0 0) 1 24 := ⟨by kernel_rfl, by kernel_rfl, rfl, by omega⟩
set_option maxHeartbeats 4000000 in
set_option maxRecDepth 100000 in
theorem getGroup_any {w : World} {g base cc : Nat} {S : St} {m : Int} {Ac : Option Addr} {L : List ColS} (h : CurS w g S) (hl : (S.getD []).length ≤ 140737488351232) (hm : 0 ≤ m ∧ m ≤ 65536)
    (hL : w.ownsRow base 39 3 (.slice Ac L.length cc) L.length (recs colV L)) (hlen : L.length ≤ 100000) :
    Calls Tryz.prog 16 #[.pointer (some ⟨g, 0, none⟩), .slice Ac L.length cc, .int .i64 m] w (GroupPost (groupR (fun r => r) L m S).1 g (groupR (fun r => r) L m S).2 w) := by
  obtain ⟨X, hX⟩ : ∃ X, X = groupR (fun r => r) L m S := ⟨_, rfl⟩
  rw [← hX]
  unfold groupR at hX
  have hgw := h.lt
  have hle := lenS_le (m := m) S hm.1 h.ok
  have hok := lenS_ok (m := m) h.ok
  have hsub := lenS_sub (m := m) h.ok
  obtain ⟨cb, hcb⟩ := h.blk
  have hLne := row_blk_ne hL hcb (by decide)
  have HLK := Lib.hid (fun (W : World) (G : w.grownBy W (some g)) => hL.kept G (.inr hLne))
  have ha : New w (w.alloc (.cells #[.int .i64 0, .slice none 0 0] 45)) := (Below.refl _ _).alloc (Nat.le_refl _) _
  have BZ := Blk.new w 45 #[.int .i64 0, .slice none 0 0]
  have s0 := h.below ha
  have L1 := Lib.hid (lenS_any (m := m) s0 (by omega) (by omega))
  generalize lenS m S = H at *
  obtain ⟨N, S1⟩ := H
  dsimp only at *
  have HX := Lib.hid hX
  clear hX h hL hcb hLne s0
  go_enter Tryz.func16, Tryz.ntmps16
  go_wp2_with fail
  refine L1.out.mono ?_
  rintro e w1 ⟨rfl, s1, g1⟩
  have hz1 := g1.size
  simp only [World.size_alloc] at hz1
  have BZ1 := BZ.grown g1 (by intro e; injection e with e; omega)
  have ha2 : New w1 (w1.alloc (.cells #[.int .i64 (N : Int), .slice none 0 0] 45)) := (Below.refl _ _).alloc (Nat.le_refl _) _
  have BQ := Blk.new w1 45 #[.int .i64 (N : Int), .slice none 0 0]
  have BZ2 := BZ1.below ha2 BZ1.lt
  have s2 := s1.below ha2
  have G2 := grown_own ((grown_new_any (row := some g) ha).trans g1) (grown_new_any (row := none) ha2) (by simp)
  have hgz : w.heap.size < w1.heap.size := by omega
  clear L1 BZ BZ1 s1 g1 ha ha2
  go_wp2_with fail
  generalize w1.heap.size = gq at *
  go_loopw [16] (fun i wr => ∃ (k d : Nat) (A : Option Addr) (D : List ChD), k ≤ L.length ∧ i = .int .i64 (k : Int) ∧ Blk wr gq 45 #[.int .i64 (N : Int), .slice A D.length d] ∧ Blk wr w.heap.size 45 #[.int .i64 0, .slice none 0 0]
    ∧ ChOwn wr w.heap.size A d D ∧ Hid (D.map (·.2.2) = (chunksR (N : Int) (L.take k) S1).1) ∧ Hid (D.length = k) ∧ CurS wr g (chunksR (N : Int) (L.take k) S1).2 ∧ ((chunksR (N : Int) (L.take k) S1).2.getD []).length ≤ 140737488351232 ∧ w.grownBy wr (some g)) (fun i _ => L.length - (intOf i).toNat)
  case atStart => exact ⟨0, 0, none, [], Nat.zero_le _, rfl, BQ, BZ2, ⟨row_nil, by simp⟩, Lib.hid rfl, Lib.hid rfl, s2, by simp only [List.take_zero, chunksR]; omega, G2⟩
  case round =>
    obtain ⟨k, d, A, D, hk, rfl, B, BZ, CO, HD, hDk, s, hsl, G⟩ := hrel
    clear BQ BZ2 s2 G2 hok hsub
    have hDl : D.length ≤ 100000 := by have := hDk.out; omega
    have hgr := G.size
    by_cases hlt : k < L.length
    · have oL := HLK.out wr G
      obtain ⟨al, rfl, hbl, f0, f1, f2⟩ := (Reads.of_own oL).colT hlt
      have htk := take_snoc L k colZ hlt
      have hsn := chunksR_snoc (m := (N : Int)) (L.take k) (L.getD k colZ) S1
      rw [← htk] at hsn
      have hok := s.ok
      generalize (chunksR (N : Int) (L.take k) S1).2 = Sk at *
      have hcs := chunkR_sub (t := (L.getD k colZ).2.1) (m := (N : Int)) hok
      have GPg := fun (W : World) (hs : CurS W g Sk) => getPages_any (t := (L.getD k colZ).2.1) (m := (N : Int)) hs hsl (by omega)
      rw [← HD.out] at hsn
      generalize L.getD k colZ = col at *
      obtain ⟨nm, t, nu⟩ := col
      dsimp only at f0 f1 f2 hsn hcs GPg
      generalize chunkR t (N : Int) Sk = H at *
      obtain ⟨pl, S5⟩ := H
      dsimp only at hsn hcs GPg
      have ha : New wr (wr.alloc (.cells #[.string (bstr nm), .int .i64 t, .bool nu] 39)) := (Below.refl _ _).alloc (Nat.le_refl _) _
      have BC := Blk.new wr 39 #[.string (bstr nm), .int .i64 t, .bool nu]
      have B1 := B.below ha B.lt
      have BZ1 := BZ.below ha BZ.lt
      have CO1 := CO.later ha
      have s1 := s.below ha
      have G1 := grown_own G (grown_new_any (row := none) ha) (by simp)
      have HSN := Lib.hid hsn
      have hgl := s.lt
      have hap := fun b e => (World.ownsRow.lt CO.row b e).2
      clear B BZ CO s G hbl htk hsn HD oL hok ha
      have hza : wr.heap.size < (wr.alloc (.cells #[.string (bstr nm), .int .i64 t, .bool nu] 39)).heap.size := by simp
      obtain ⟨y0, y1, y2⟩ := ccells BC
      obtain ⟨z0, z1⟩ := cells2 B1
      have hne1 : gq ∉ (g :: rowT (.slice A D.length d)) := by
        intro hm
        rcases List.mem_cons.1 hm with e | e
        · omega
        · exact rowT_ne CO1.row B1 (by decide) e
      have hne2 : wr.heap.size ∉ (g :: rowT (.slice A D.length d)) := by
        intro hm
        rcases List.mem_cons.1 hm with e | e
        · omega
        · exact rowT_ne CO1.row BC (by decide) e
      go_wp2_with fail
      refine wp_region_upT (Turns (g :: rowT (.slice A D.length d))) 11 [(1, 0), (0, 1), (1, 2), (1, 3), (0, 4), (1, 5), (0, 6), (2, 7), (2, 8), (2, 9), (1, 10), (2, 11)]
        (Turns.refl _) Turns.trans (by kernel_rfl) (by kernel_rfl) (by kernel_rfl) (by kernel_rfl) ?_
      have F := Lib.hid (fun (W : World) (hW : Turns (g :: rowT (.slice A D.length d)) (wr.alloc (.cells #[.string (bstr nm), .int .i64 t, .bool nu] 39)).drew W) => And.intro (B1.drew.touch hW hne1) (BC.drew.touch hW hne2))
      have s2 := s1.below (New.drew _)
      have CO2 := CO1.later (New.drew _)
      have B2 := B1.drew
      have BZ2 := BZ1.drew
      have G2 := grown_own G1 (grown_new_any (row := none) (New.drew _)) (by simp)
      have GP2 := Lib.hid (GPg _ s2)
      clear y0 y1 y2 z0 z1 B1 BZ1 CO1 s1 G1 GPg
      obtain ⟨wa, hwa⟩ : ∃ wa, wa = (wr.alloc (.cells #[.string (bstr nm), .int .i64 t, .bool nu] 39)).drew := ⟨_, rfl⟩
      have hza2 : wr.heap.size < wa.heap.size := by rw [hwa]; exact hza
      rw [← hwa] at F s2 CO2 B2 BZ2 G2 GP2 ⊢
      clear hwa BC hza
      repeat (first
        | (refine upT_quiet rfl rfl (v := ?_) (fun W hW => ?_) ?_; rotate_left; (obtain ⟨F1, F2⟩ := F.out W hW; obtain ⟨y0, y1, y2⟩ := ccells F2; obtain ⟨z0, z1⟩ := cells2 F1; clear F1 F2; go_simp <;> with_reducible rfl); simp only [Act.put, List.setIfInBounds_toArray, List.set_cons_zero, List.set_cons_succ])
        | (refine upT_pure rfl rfl (v := ?_) (fun W => ?_) ?_; rotate_left; (go_simp <;> with_reducible rfl); simp only [Act.put, List.setIfInBounds_toArray, List.set_cons_zero, List.set_cons_succ]))
      refine upT_call rfl rfl (fun K hK => ?_)
      go_simp
      (with_reducible refine GP2.out.mono ?_)
      rintro e w8 ⟨A8, n8, c8, rfl, o8, s8, g8⟩
      refine hK _ _ (.inr (.inr (Turns.of_far g8 (by simp)))) ?_
      clear hK
      obtain rfl : n8 = pl.length := (Reads.of_own o8).lenPage
      have hz8 := g8.size
      have CO8 := CO2.far g8 hgw
      have B8 := B2.grown g8 (by intro e; injection e with e; omega)
      have BZ8 := BZ2.grown g8 (by intro e; injection e with e; omega)
      have G8 := G2.trans g8
      have o8 := row_base o8 (show w.heap.size ≤ wa.heap.size by omega)
      clear F GP2 CO2 B2 BZ2 G2 s2 g8
      refine upT_call rfl rfl (fun K hK => ?_)
      go_simp
      refine hK _ _ (.inr (.inr (Turns.of_new ((Below.refl _ _).alloc (Nat.le_refl _) _)))) ?_
      clear hK
      have RL := Reads.litR w8 42 #[.slice A8 pl.length c8] 1 1 [.slice A8 pl.length c8] rfl rfl
      have hb8 : New w8 (w8.alloc (.cells #[.slice A8 pl.length c8] 42)) := (Below.refl _ _).alloc (Nat.le_refl _) _
      have CO9 := CO8.later hb8
      have o9 := row_later o8 hb8
      have s9 := s8.below hb8
      have B9 := B8.below hb8 B8.lt
      have BZ9 := BZ8.below hb8 BZ8.lt
      have G9 := grown_own G8 (grown_new_any (row := none) hb8) (by simp)
      have hz9 := hb8.size
      clear CO8 o8 s8 B8 BZ8 G8 hb8
      obtain ⟨wb, hwb⟩ : ∃ wb, wb = w8.alloc (.cells #[.slice A8 pl.length c8] 42) := ⟨_, rfl⟩
      rw [← hwb] at RL CO9 o9 s9 B9 BZ9 G9 hz9 ⊢
      have hbk : (Value.ownBlock (.slice (some ⟨w8.heap.size, 0, none⟩) 1 1)) = some w8.heap.size := rfl
      clear hwb hbk
      refine upT_call rfl rfl (fun K hK => ?_)
      refine wp_appR elCh (.tmp 21) (.tmp 28) rfl (W := w) (B := 0) (base := w.heap.size) CO9.row RL rfl rfl (below_zero G9) (Nat.zero_le _) (by omega) (by simp [Value.oneCell']) (by omega) (by simp only [maxLen]; omega) ?_
      intro A10 c10 w10 _ _ o10 g10 _
      refine hK _ _ (.inr (.inr ((Turns.row g10).more (fun x hx => List.mem_cons_of_mem _ hx)))) ?_
      clear hK
      have B10 := B9.touch (Turns.row g10) (rowT_ne CO9.row B9 (by decide))
      have BZ10 := BZ9.touch (Turns.row g10) (rowT_ne CO9.row BZ9 (by decide))
      have s10 := s9.pushRow CO9.row g10 (by decide) (by decide)
      have G10 := grown_own G9 g10 (fun b e => (World.ownsRow.lt CO9.row b e).1)
      have P10 : ∀ x ∈ D, w10.ownsRow w.heap.size 41 14 (.slice x.1 x.2.2.length x.2.1) x.2.2.length (recs pageV x.2.2) := fun x hx => (CO9.pages x hx).kept g10 (rows_apart (CO9.pages x hx) CO9.row (by decide))
      have o11 := o9.kept g10 (rows_apart o9 CO9.row (by decide))
      have x0 := B10.cell 1
      have y0 := B10.frozen 1
      simp at x0
      have gS : w10.grownBy (w10.setCell ⟨gq, 1, none⟩ (.slice A10 (D.length + 1) c10)) (some gq) := setCell_gr
      clear CO9 o9 s9 B9 BZ9 G9 g10 RL
      refine upT_pure rfl rfl (v := ?_) (fun W => ?_) ?_
      rotate_left
      · go_simp <;> with_reducible rfl
      simp only [Act.put, List.setIfInBounds_toArray, List.set_cons_zero, List.set_cons_succ]
      refine upT_call rfl rfl (fun K hK => ?_)
      go_simp
      refine hK _ _ (.inr (.inl rfl)) ?_
      clear hK x0 y0
      refine upT_nil ?_
      have CO12 : ChOwn (w10.setCell ⟨gq, 1, none⟩ (.slice A10 (D.length + 1) c10)) w.heap.size A10 c10 (D ++ [(A8, c8, pl)]) := by
        constructor
        · rw [recs_chV_snoc, List.length_append]
          exact o10.kept gS (.inr (row_blk_ne o10 B10 (by decide)))
        · intro x hx
          rcases List.mem_append.1 hx with hx | hx
          · exact (P10 x hx).kept gS (.inr (row_blk_ne (P10 x hx) B10 (by decide)))
          · rw [List.mem_singleton.1 hx]
            exact o11.kept gS (.inr (row_blk_ne o11 B10 (by decide)))
      have B12 := B10.set_ 1 (.slice A10 (D.length + 1) c10)
      simp only [List.setIfInBounds_toArray, List.set_cons_zero, List.set_cons_succ] at B12
      have BZ12 := BZ10.grown gS (by intro e; injection e with e; omega)
      have s12 := s10.keep gS B10 (by omega) (by decide)
      have G12 := grown_then G10 gS (by omega)
      have HD12 : Hid ((D ++ [(A8, c8, pl)]).map (fun x : ChD => x.2.2) = (chunksR (N : Int) (L.take (k + 1)) S1).1) := Lib.hid (by rw [HSN.out, List.map_append]; rfl)
      have hs12 : (chunksR (N : Int) (L.take (k + 1)) S1).2 = S5 := by rw [HSN.out]
      have HS12 := Lib.hid hs12
      clear gS P10 o10 o11 s10 G10 BZ10 B10 HSN hs12
      go_wp2_with fail
      go_roundw
      case rel => exact ⟨k + 1, c10, A10, D ++ [(A8, c8, pl)], by omega, by go_num, by rw [List.length_append]; exact B12, BZ12, CO12, HD12, Lib.hid (by rw [List.length_append, hDk.out]; rfl), by rw [HS12.out]; exact s12, by rw [HS12.out]; omega, G12⟩
      case measure => simp [intOf]; omega
    · obtain rfl : k = L.length := by omega
      obtain ⟨z0, z1⟩ := cells2 B
      have hX := HX.out
      rw [List.take_length] at s
      have HD2 := HD.out
      rw [List.take_length] at HD2
      have HXX := Lib.hid hX
      have HS := Lib.hid s
      have HDD := Lib.hid HD2
      have HG := Lib.hid G
      have HCO := Lib.hid CO
      clear hX s HD HD2 G CO
      go_wp2_with (refine wpList_storeG rfl 45 (.tmp 6) (.tmp 32) rfl w.heap.size _ rfl rfl BZ (by kernel_rfl) rfl (by simp [Value.oneCell']) ?_
                   intro W9 BR G9
                   obtain ⟨s0, s1⟩ := cells2 BR)
      have hX := HXX.out
      subst hX
      exact bodyPost_ret (v := .agg #[.int .i64 (N : Int), .slice A D.length d]) (by simp [results, Tryz.results16, go_sem, s0, s1]) rfl ⟨A, d, D, rfl, HDD.out, HCO.out.blk BZ G9 (by decide) (by decide), HS.out.keep G9 BZ (by omega) (by decide), grown_then HG.out G9 (Nat.le_refl _)⟩

end Go.Proofs.YtflaaahcoglflaaGreat
/- Contracts of schema.getCol and schema.Get. -/

namespace Go.Proofs.YtflaaahcoglflaaGreat
open Go.RowKit Go.Hm
def ColPost (c : ColS) (g : Nat) (S : St) (w : World) (e : Ending) (w' : World) : Prop := e = .returned (.agg #[.string (bstr c.1), .int .i64 c.2.1, .bool c.2.2]) ∧ CurS w' g S ∧ w.grownBy w' (some g)

set_option maxHeartbeats 2000000 in
set_option maxRecDepth 100000 in
theorem getCol_any {w : World} {g : Nat} {S : St} (h : CurS w g S) : Calls Tryz.prog 31 #[.pointer (some ⟨g, 0, none⟩)] w (ColPost (colS S).1 g (colS S).2 w) := by
  have hok := h.ok
  have hg := h.lt
  obtain ⟨W0, hW0⟩ : ∃ W, W = w.alloc (.cells #[.string ⟨#[]⟩, .int .i64 0, .bool false] 39) := ⟨_, rfl⟩
  have b0 : New w W0 := by rw [hW0]; exact (Below.refl _ _).alloc (Nat.le_refl _) _
  have G0 : w.grownBy W0 (some g) := by rw [hW0]; exact World.grownBy_alloc _ _ _
  have B0 : Blk W0 w.heap.size 39 #[.string ⟨#[]⟩, .int .i64 0, .bool false] := by rw [hW0]; exact Blk.new _ _ _
  have h0 := h.below b0
  have hne : w.heap.size ≠ g := by omega
  have P1 := Lib.hid (lenS_any (m := 100) h0 (by omega) (by omega))
  have hl := lenS_le (m := 100) S (by omega) hok
  have ok1 := lenS_ok (m := 100) hok
  rw [hW0] at P1
  have HW := Lib.hid hW0
  clear h h0 hok hW0 b0
  generalize hS : colS S = R
  unfold colS at hS
  generalize lenS 100 S = R1 at *
  obtain ⟨n1, S1⟩ := R1
  simp only at hl ok1 hS P1
  have HS := Lib.hid hS
  clear hS
  go_enter Tryz.func31, Tryz.ntmps31
  go_wp2_with fail
  refine P1.out.mono ?_
  rintro e w1 ⟨rfl, C1, G1⟩
  rw [← HW.out] at G1
  have B1 := B0.grown G1 (by simpa using hne)
  have G01 := G0.trans G1
  have P2 := Lib.hid (takeS_any (n := (n1 : Int)) C1 (by omega) (by omega))
  obtain ⟨ok2, l2⟩ := takeS_ok (n := (n1 : Int)) ok1
  replace HS := HS.out
  generalize takeS (n1 : Int) S1 = R2 at *
  obtain ⟨s2, S2⟩ := R2
  simp only at ok2 l2 HS P2
  replace HS := Lib.hid HS
  clear P1 B0 G0 G1 C1
  go_wp2_with fail
  refine P2.out.mono ?_
  rintro e w2 ⟨A2, n2, c2, rfl, e2, k2, C2, G2⟩
  have B2 := B1.grown G2 (by simpa using hne)
  have G02 := G01.trans G2
  have X2 := run_strB (c := c2) k2.reads
  have P3 := Lib.hid (byteS_any C2)
  have ok3 := byteS_ok ok2
  have lt3 := byteS_lt ok2
  replace HS := HS.out
  generalize byteS S2 = R3 at *
  obtain ⟨t3, S3⟩ := R3
  simp only at ok3 lt3 HS P3
  replace HS := Lib.hid HS
  clear P2 B1 G01 G2 C2 k2 e2
  go_wp2_with fail
  refine P3.out.mono ?_
  rintro e w3 ⟨rfl, C3, G3⟩
  have B3 := B2.grown G3 (by simpa using hne)
  have G03 := G02.trans G3
  have P4 := Lib.hid (byteS_any C3)
  have lt4 := byteS_lt ok3
  replace HS := HS.out
  generalize byteS S3 = R4 at *
  obtain ⟨u4, S4⟩ := R4
  simp only at lt4 HS P4
  replace HS := Lib.hid HS
  clear P3 B2 G02 G3 C3 X2
  go_wp2_with fail
  refine P4.out.mono ?_
  rintro e w4 ⟨rfl, C4, G4⟩
  have B4 := B3.grown G4 (by simpa using hne)
  have G04 := G03.trans G4
  clear P4 B3 G03 G4
  by_cases hu : 1 < u4
  · have P5 := Lib.hid (failS C4)
    go_wp2_with fail
    refine P5.out.mono ?_
    rintro e w5 ⟨rfl, C5, G5⟩
    have B5 := B4.grown G5 (by simpa using hne)
    have G05 := G04.trans G5
    clear P5 B4 G04 G5 C4
    obtain ⟨p0, p1, p2⟩ := ccells B5
    have f0 := B5.frozen 0
    have f1 := B5.frozen 1
    have f2 := B5.frozen 2
    have HB := Lib.hid B5
    clear B5
    go_wp2
    obtain ⟨W3, hW3, R10, G10, K10⟩ := store3g HB.out (a := .string (bstr s2)) (b := .int .i64 (t3 : Int)) (c := .bool ((u4 : Int) == 1)) G05 (Nat.le_refl _)
    rw [← hW3]
    have s0 := R10.cell 0
    have s1 := R10.cell 1
    have s2' := R10.cell 2
    simp at s0 s1 s2'
    have CW : CurS W3 g none := by rw [hW3]; exact ((C5.keep setCell_grown HB.out (by omega) (by decide)).keep setCell_grown (HB.out.set_ 0 _) (by omega) (by decide)).keep setCell_grown ((HB.out.set_ 0 _).set_ 1 _) (by omega) (by decide)
    refine bodyPost_ret (v := .agg #[.string (bstr s2), .int .i64 (t3 : Int), .bool ((u4 : Int) == 1)]) (by simp [results, Tryz.results31, go_sem, s0, s1, s2']) rfl ⟨?_, ?_, G10⟩
    · rw [← HS.out, show ((u4 : Int) == 1) = decide (u4 = 1) by rw [Bool.eq_iff_iff]; simp; omega]
    · rw [← HS.out, if_pos hu]
      exact CW
  ·
    obtain ⟨p0, p1, p2⟩ := ccells B4
    have f0 := B4.frozen 0
    have f1 := B4.frozen 1
    have f2 := B4.frozen 2
    have HB := Lib.hid B4
    clear B4
    go_wp2
    obtain ⟨W3, hW3, R10, G10, K10⟩ := store3g HB.out (a := .string (bstr s2)) (b := .int .i64 (t3 : Int)) (c := .bool ((u4 : Int) == 1)) G04 (Nat.le_refl _)
    rw [← hW3]
    have s0 := R10.cell 0
    have s1 := R10.cell 1
    have s2' := R10.cell 2
    simp at s0 s1 s2'
    have CW : CurS W3 g S4 := by rw [hW3]; exact ((C4.keep setCell_grown HB.out (by omega) (by decide)).keep setCell_grown (HB.out.set_ 0 _) (by omega) (by decide)).keep setCell_grown ((HB.out.set_ 0 _).set_ 1 _) (by omega) (by decide)
    refine bodyPost_ret (v := .agg #[.string (bstr s2), .int .i64 (t3 : Int), .bool ((u4 : Int) == 1)]) (by simp [results, Tryz.results31, go_sem, s0, s1, s2']) rfl ⟨?_, ?_, G10⟩
    · rw [← HS.out, show ((u4 : Int) == 1) = decide (u4 = 1) by rw [Bool.eq_iff_iff]; simp; omega]
    · rw [← HS.out, if_neg hu]
      exact CW

theorem grown_below' {w w1 w2 : World} {row : Option Nat} (h : w.grownBy w1 row) (h2 : w1.grownBy w2 row) : w.grownBy w2 row := h.trans h2

/-- Columns, a row of the call's own, and what is left of the cursor. -/
def ColsPost (l : List ColS) (g : Nat) (S : St) (w : World) (e : Ending) (w' : World) : Prop := ∃ A n c, e = .returned (.slice A n c) ∧ n ≤ c ∧ c ≤ maxLen ∧ w'.ownsRow w.heap.size 39 3 (.slice A n c) n (recs colV l) ∧ CurS w' g S ∧ w.grownBy w' (some g)
theorem elC : ElT Tryz.prog 24 39 (.agg #[.string ⟨#[]⟩, .int .i64 0, .bool false]) 3 32 := ⟨by kernel_rfl, by kernel_rfl, rfl, by omega⟩
set_option maxHeartbeats 2000000 in
set_option maxRecDepth 100000 in
theorem sget_any {w : World} {g : Nat} {S : St} (h : CurS w g S) : Calls Tryz.prog 13 #[.pointer (some ⟨g, 0, none⟩)] w (ColsPost (getC S).1 g (getC S).2 w) := by
  have hok := h.ok
  have hg := h.lt
  have P1 := Lib.hid (lenS_any (m := 64) h (by omega) (by omega))
  have hl := lenS_le (m := 64) S (by omega) hok
  have ok1 := lenS_ok (m := 64) hok
  have G1 := Lib.hid (show getC S = _ from rfl)
  generalize hR : getC S = R at *
  unfold getC at hR
  generalize lenS 64 S = R1 at *
  obtain ⟨n, S1⟩ := R1
  simp only at hl ok1 hR P1
  have HR := Lib.hid hR
  clear hR G1 h hok
  go_enter Tryz.func13, Tryz.ntmps13
  go_wp2_with fail
  refine P1.out.mono ?_
  rintro e w1 ⟨rfl, C1, G1⟩
  have z1 := G1.size
  clear P1
  have g1 : g < w1.heap.size := C1.lt
  go_wp2_with (refine wpList_mkR elC rfl (.tmp 8) (.tmp 8) rfl (W := w1) (B := w1.heap.size) n rfl rfl rfl rfl (Below.refl _ w1) (Nat.le_refl _) (by omega) (by simp only [maxLen]; omega) ?_
               intro w2 o2 g2 b2 s2)
  have C2 := C1.below b2
  have G2 : w.grownBy w2 (some g) := grown_below G1 b2
  obtain ⟨gm, hgm⟩ : ∃ gm, gm = w1.heap.size := ⟨_, rfl⟩
  rw [← hgm] at o2 ⊢
  have hgm1 : w.heap.size ≤ gm ∧ g ≠ gm := by omega
  have o2 := row_base o2 hgm1.1
  clear hgm C1 G1 z1 g2 b2 s2 g1
  go_loopw [12] (fun i wr => ∃ k : Nat, i = .int .i64 (k : Int) ∧ k ≤ n ∧ CurS wr g (colsS k S1).2 ∧ wr.ownsRow w.heap.size 39 3 (.slice (some ⟨gm, 0, none⟩) n n) n (recs colV ((colsS k S1).1 ++ List.replicate (n - k) ([], 0, false))) ∧ w.grownBy wr (some g)) (fun i _ => n - (intOf i).toNat)
  case atStart => exact ⟨0, rfl, by omega, C2, by simpa [recs, colsS, List.flatMap_replicate, colV, bstr] using o2, G2⟩
  case round =>
    obtain ⟨k, rfl, hk, C3, o3, G3⟩ := hrel
    by_cases hlt : k < n
    · have P4 := Lib.hid (getCol_any C3)
      obtain ⟨q1, q2⟩ := colsS_snoc k S1
      have okk := colsS_ok k ok1
      have hlen := colsS_len k S1
      have fin := colS_fine okk
      have HQ1 := Lib.hid q1
      have HQ2 := Lib.hid q2
      clear q1 q2
      generalize (colsS k S1).1 = pre at *
      generalize (colsS k S1).2 = Sk at *
      generalize colS Sk = R4 at *
      obtain ⟨⟨nm4, t4, u4⟩, S4⟩ := R4
      simp only at P4
      have hrep : List.replicate (n - k) (([], 0, false) : ColS) = ([], 0, false) :: List.replicate (n - (k + 1)) ([], 0, false) := by rw [show n - k = (n - (k + 1)) + 1 by omega]; rfl
      rw [hrep, recs_append, recs_cons] at o3
      have hpl : (recs colV pre).length = k * 3 := by rw [recs_length (sz := 3) (fun _ => rfl), hlen]
      have hiz : (k : Int) < (n : Int) := by omega
      have HO3 := Lib.hid o3
      clear o3 C3 hrep
      go_wp2_with fail
      refine P4.out.mono ?_
      rintro e w4 ⟨rfl, C4, G4⟩
      have o4 := World.ownsRow.kept HO3.out G4 (.inr (by simp [Value.ownBlock]; exact fun e => hgm1.2 e.symm))
      have G04 := grown_below' G3 G4
      obtain ⟨cs, B4⟩ := row_blk o4
      have c0 := o4.cellAt (k * 3) (by omega)
      have c1 := o4.cellAt (k * 3 + 1) (by omega)
      have c2 := o4.cellAt (k * 3 + 2) (by omega)
      rw [List.getElem?_append_right (by omega), hpl] at c0 c1 c2
      simp [colV] at c0 c1 c2
      have f0 := o4.frozenAt (k * 3)
      have f1 := o4.frozenAt (k * 3 + 1)
      have f2 := o4.frozenAt (k * 3 + 2)
      have HO4 := Lib.hid o4
      clear o4 P4 HO3
      go_wp2
      obtain ⟨W5, hW5, o5, g5⟩ := row_set3 (a := .string (bstr nm4)) (b := .int .i64 t4) (d := .bool u4) HO4.out hpl
      rw [← hW5]
      clear hW5
      go_roundw
      case rel => exact ⟨k + 1, by go_num, by omega, by rw [HQ2.out]; exact C4.keep g5 B4 hgm1.2 (by decide), by rw [HQ1.out, List.append_assoc, recs_append]; exact o5, grown_new G04 g5 hgm1.1⟩
      case measure => simp [intOf]; omega
    · obtain rfl : k = n := by omega
      rw [Nat.sub_self, List.replicate_zero, List.append_nil] at o3
      have hfin := colsS_fine k ok1
      have HR := HR.out
      have hlen := colsS_len k S1
      generalize colsS k S1 = R5 at *
      obtain ⟨L, S5⟩ := R5
      simp only at o3 hfin HR hlen C3
      subst hlen
      have r3 := Reads.of_own o3
      have P6 := Lib.hid (cols_any (c := L.length) r3 (fun x hx => ⟨(hfin x hx).1, by have := (hfin x hx).2; omega⟩) (Nat.le_refl _) (by omega))
      have P5 := Lib.hid (badS C3)
      rcases S5 with _ | l5
      · rw [if_pos (.inl rfl)] at HR
        subst HR
        go_wp2_with fail
        refine P5.out.mono ?_
        rintro e w5 ⟨rfl, rfl⟩
        have P7 := Lib.hid (failS C3)
        go_wp2_with fail
        refine P7.out.mono ?_
        rintro e w7 ⟨rfl, C7, G7⟩
        go_wp2
        go_ret
        exact ⟨none, 0, 0, rfl, by omega, by simp [maxLen], row_nil, C7, grown_below' G3 G7⟩
      · by_cases hck : colsCk L = 0
        · rw [if_neg (by simp [hck])] at HR
          subst HR
          rw [hck] at P6
          go_wp2_with fail
          refine P5.out.mono ?_
          rintro e w5 ⟨rfl, rfl⟩
          go_wp2_with fail
          refine P6.out.mono ?_
          rintro e w6 ⟨rfl, b6⟩
          go_wp2
          go_ret
          exact ⟨_, _, _, rfl, Nat.le_refl _, by simp only [maxLen]; omega, row_later o3 b6, C3.below b6, grown_below G3 b6⟩
        · rw [if_pos (.inr hck)] at HR
          subst HR
          generalize colsCk L = ck at *
          have e1 : (ck != 0) = true := by simpa using hck
          clear hck
          go_wp2_with fail
          refine P5.out.mono ?_
          rintro e w5 ⟨rfl, rfl⟩
          go_wp2_with fail
          refine P6.out.mono ?_
          rintro e w6 ⟨rfl, b6⟩
          have P7 := Lib.hid (failS (C3.below b6))
          go_wp2_with fail
          refine P7.out.mono ?_
          rintro e w7 ⟨rfl, C7, G7⟩
          go_wp2
          go_ret
          exact ⟨none, 0, 0, rfl, by omega, by simp [maxLen], row_nil, C7, grown_below' (grown_below G3 b6) G7⟩

end Go.Proofs.YtflaaahcoglflaaGreat
/- The contract of footer.Decode. -/

namespace Go.Proofs.YtflaaahcoglflaaGreat
open Go.RowKit Go.Hm
theorem getC_fine {S : St} (hS : S.ok) : (∀ c ∈ (getC S).1, (∀ z ∈ c.1, z < 256) ∧ c.1.length ≤ 140737488351232) ∧ (getC S).1.length ≤ 64 := by
  cases h : (getC S).2 with
  | none =>
    have := getC_none (show getC S = ((getC S).1, none) by rw [← h])
    rw [this]
    simp
  | some r =>
    obtain ⟨h1, h2⟩ := getC_some hS (show getC S = ((getC S).1, some r) by rw [← h])
    obtain ⟨a, b, -⟩ := (colsCk_iff _).1 h1
    refine ⟨fun c hc => ⟨fun z hz => hS _ h2 z ?_, by have := (b c hc).2.1; omega⟩, a⟩
    rw [List.append_assoc]
    refine List.mem_append_right _ (List.mem_append_left _ (List.mem_flatMap.2 ⟨c, hc, ?_⟩))
    simp only [colB, List.mem_append]
    exact .inl (.inr hz)
theorem getC_ok {S : St} (hS : S.ok) : (getC S).2.ok := by
  cases h : (getC S).2 with
  | none => exact St.ok_none
  | some r =>
    have := (getC_some hS (show getC S = ((getC S).1, some r) by rw [← h])).2
    exact St.ok_some fun x hx => hS _ this x (by simp [hx])
theorem getC_sub {S : St} (hS : S.ok) : ((getC S).2.getD []).length ≤ (S.getD []).length := by
  cases h : (getC S).2 with
  | none => simp
  | some r =>
    have := (getC_some hS (show getC S = ((getC S).1, some r) by rw [← h])).2
    rw [this]
    simp only [Option.getD_some, List.length_append]
    omega
theorem chunksR_sub {m : Int} : ∀ (cs : List ColS) {S : St}, S.ok → ((chunksR m cs S).2.getD []).length ≤ (S.getD []).length
  | [], _, _ => Nat.le_refl _
  | c :: cs, S, h => by
    have a := chunksR_sub (m := m) cs (chunkR_ok (t := c.2.1) (m := m) h)
    have b := chunkR_sub (t := c.2.1) (m := m) h
    simp only [chunksR]
    omega
theorem groupR_sub {k : Int → Int} {cols : List ColS} {m : Int} {S : St} (h : S.ok) : ((groupR k cols m S).2.getD []).length ≤ (S.getD []).length := by
  have a := lenS_sub (m := m) h
  have b := chunksR_sub (m := k ((lenS m S).1 : Int)) cols (lenS_ok (m := m) h)
  unfold groupR
  dsimp only
  omega
/-- Groups that are the call's own. -/
structure GrOwn (w : World) (B : Nat) (A : Option Addr) (d : Nat) (G : List GrD) : Prop where
  row : w.ownsRow B 45 2 (.slice A G.length d) G.length (recs grV G)
  chunks : ∀ g ∈ G, ChOwn w B g.2.1 g.2.2.1 g.2.2.2
theorem GrOwn.later {w w' : World} {B : Nat} {A : Option Addr} {d : Nat} {G : List GrD} (h : GrOwn w B A d G) (b : New w w') : GrOwn w' B A d G := ⟨row_later h.row b, fun x hx => (h.chunks x hx).later b⟩
theorem GrOwn.far {w w' : World} {B g : Nat} {A : Option Addr} {d : Nat} {G : List GrD} (h : GrOwn w B A d G) (hg : w.grownBy w' (some g)) (hne : g < B) : GrOwn w' B A d G :=
  ⟨h.row.kept hg (.inr (fun e => by have := (World.ownsRow.lt h.row _ e).1; omega)), fun x hx => (h.chunks x hx).far hg hne⟩
theorem ChOwn.base {w : World} {B B' : Nat} {A : Option Addr} {d : Nat} {D : List ChD} (h : ChOwn w B A d D) (hb : B' ≤ B) : ChOwn w B' A d D := ⟨row_base h.row hb, fun x hx => row_base (h.pages x hx) hb⟩
theorem ChOwn.row_ {w w' : World} {B base sz n : Nat} {A : Option Addr} {d : Nat} {D : List ChD} {e : TypeId} {v : Value} {xs : List Value} (h : ChOwn w B A d D) (o : w.ownsRow base e sz v n xs) (hg : w.grownBy w' v.ownBlock) (h1 : 42 ≠ e) (h2 : 41 ≠ e) : ChOwn w' B A d D :=
  ⟨h.row.kept hg (rows_apart h.row o h1), fun x hx => (h.pages x hx).kept hg (rows_apart (h.pages x hx) o h2)⟩
theorem FootIn.own {w : World} {B cc d : Nat} {Ac A : Option Addr} {L : List ColS} {G : List GrD} (oC : w.ownsRow B 39 3 (.slice Ac L.length cc) L.length (recs colV L)) (GO : GrOwn w B A d G) (hf : ∀ x ∈ L, (∀ z ∈ x.1, z < 256) ∧ x.1.length ≤ 140737488351232) (hc : L.length ≤ cc) (hl : L.length ≤ 64) (hg : G.length ≤ 65536)
    (hs : ∀ x ∈ G, x.2.2.2.length = L.length ∧ ∀ y ∈ x.2.2.2, y.2.2.length ≤ 65536) : FootIn w Ac cc L A G :=
  ⟨Reads.of_own oC, hf, hc, by omega, Reads.of_own GO.row, by omega, fun x hx => ⟨Reads.of_own (GO.chunks x hx).row, by have := (hs x hx).1; omega⟩, fun x hx y hy => ⟨Reads.of_own ((GO.chunks x hx).pages y hy), by have := (hs x hx).2 y hy; omega⟩⟩
theorem pagesR_few {t m : Int} : ∀ (k : Nat) (S : St), (pagesR t m k S).1.length ≤ k
  | 0, _ => Nat.le_refl _
  | _ + 1, none => Nat.zero_le _
  | k + 1, some l => by
    have := pagesR_few (t := t) (m := m) k (pageR t m (some l)).2
    simp only [pagesR, List.length_cons]
    omega
theorem chunkR_few {t m : Int} {S : St} (hS : S.ok) (hm : 0 ≤ m ∧ m ≤ 65536) : (chunkR t m S).1.length ≤ 65536 := by
  have a := pagesR_few (t := t) (m := m) (lenS m S).1 (lenS m S).2
  have b := lenS_le (m := m) S hm.1 hS
  unfold chunkR
  omega
theorem chunksR_few {m : Int} (hm : 0 ≤ m ∧ m ≤ 65536) : ∀ (cs : List ColS) {S : St}, S.ok → ∀ l ∈ (chunksR m cs S).1, l.length ≤ 65536
  | [], _, _, l, hl => by simp [chunksR] at hl
  | c :: cs, S, hS, l, hl => by
    simp only [chunksR, List.mem_cons] at hl
    rcases hl with rfl | hl
    · exact chunkR_few hS hm
    · exact chunksR_few hm cs (chunkR_ok hS) l hl
theorem groupsR_few {cols : List ColS} {m : Int} (hm : 0 ≤ m ∧ m ≤ 65536) : ∀ (n : Nat) {S : St}, S.ok → ∀ g ∈ (groupsR (fun r => r) cols m n S).1, g.2.length = cols.length ∧ ∀ l ∈ g.2, l.length ≤ 65536
  | 0, _, _, g, hg => by simp [groupsR] at hg
  | _ + 1, none, _, g, hg => by simp [groupsR] at hg
  | n + 1, some b, hS, g, hg => by
    simp only [groupsR, List.mem_cons] at hg
    rcases hg with rfl | hg
    · have hle := lenS_le (m := m) (some b) hm.1 hS
      exact ⟨chunksR_len _ _, chunksR_few (by dsimp only; omega) _ (lenS_ok hS)⟩
    · exact groupsR_few hm n (groupR_ok hS) g hg
/-- A footer, or none. -/
def OptF (o : Option FootS) (w : World) (e : Ending) (w' : World) : Prop :=
  match o with
  | none => e = .returned (.tuple #[.agg #[.slice none 0 0, .int .i64 0, .slice none 0 0], .bool false]) ∧ New w w'
  | some F => ∃ Ac cc L r Ag cg G, e = .returned (.tuple #[footA Ac cc L r Ag cg G, .bool true]) ∧ footP L r G = F ∧ (FootIn w' Ac cc L Ag G ∧ G.length ≤ cg) ∧ New w w'
theorem elGr : ElT Tryz.prog 25 45 (.agg #[.int .i64 0, .slice none 0 0]) 2 32 := ⟨by kernel_rfl, by kernel_rfl, rfl, by omega⟩
theorem recs_grV_snoc (D : List GrD) (x : GrD) : recs grV (D ++ [x]) = recs grV D ++ [.int .i64 x.1, .slice x.2.1 x.2.2.2.length x.2.2.1] := by
  rw [recs_append]
  rfl
theorem groupsR_step {k : Int → Int} {cols : List ColS} {m : Int} {j : Nat} {b : List Nat} : groupsR k cols m (j + 1) (some b) = ((groupR k cols m (some b)).1 :: (groupsR k cols m j (groupR k cols m (some b)).2).1, (groupsR k cols m j (groupR k cols m (some b)).2).2) := rfl
set_option maxHeartbeats 4000000 in
set_option maxRecDepth 100000 in
theorem fdecode_any {w : World} {A : Option Addr} {m c : Nat} {b : List Nat} (h : Reads w w.heap.size 1 A m (nums .u8 b)) (h8 : ∀ x ∈ b, x < 256) (hm : m ≤ 140737488351232) :
    Calls Tryz.prog 5 #[.slice A m c] w (OptF (footO (fun r => r) b) w) := by
  obtain rfl : m = b.length := h.len
  have hok0 : St.ok (some b) := St.ok_some h8
  obtain ⟨hf1, hf2⟩ := getC_fine hok0
  have hok1 := getC_ok hok0
  have hsub1 := getC_sub hok0
  have ha : New w (w.alloc (.cells #[.slice none 0 0, .int .i64 0, .slice none 0 0] 27)) := (Below.refl _ _).alloc (Nat.le_refl _) _
  have BZ := Blk.new w 27 #[.slice none 0 0, .int .i64 0, .slice none 0 0]
  have OV := Lib.hid (over_any (c := c) (Reads.later h ha) (by omega) h8)
  obtain ⟨M, hM⟩ : ∃ M, M = footO (fun r => r) b := ⟨_, rfl⟩
  rw [← hM]
  unfold footO footG footN footC at hM
  have hle2 := lenS_le (m := 65536) (getC (some b)).2 (by omega) hok1
  have hok2 := lenS_ok (m := 65536) hok1
  have hsub2 := lenS_sub (m := 65536) hok1
  have HF1 := Lib.hid hf1
  have HM := Lib.hid hM
  have GC := fun (W : World) (g : Nat) (hs : CurS W g (some b)) => sget_any hs
  clear h hM hf1 hok0
  generalize getC (some b) = H at *
  obtain ⟨L, SC⟩ := H
  dsimp only at hok1 hsub1 hf2 hle2 hok2 hsub2 HF1 HM GC
  have L1 := fun (W : World) (g : Nat) (hs : CurS W g SC) => lenS_any (m := 65536) hs (by omega) (by omega)
  generalize lenS 65536 SC = H at *
  obtain ⟨R, SN⟩ := H
  dsimp only at hle2 hok2 hsub2 HM L1
  have hle3 := lenS_le (m := (R : Int)) SN (by omega) hok2
  have hok3 := lenS_ok (m := (R : Int)) hok2
  have hsub3 := lenS_sub (m := (R : Int)) hok2
  have L2 := fun (W : World) (g : Nat) (hs : CurS W g SN) => lenS_any (m := (R : Int)) hs (by omega) (by omega)
  generalize lenS (R : Int) SN = H at *
  obtain ⟨N, Sn⟩ := H
  dsimp only at hle3 hok3 hsub3 HM L2
  simp only [Option.getD_some] at hsub1
  have HGC := Lib.hid GC
  have HL1 := Lib.hid L1
  have HL2 := Lib.hid L2
  clear GC L1 L2 hok1 hok2
  go_enter Tryz.func5, Tryz.ntmps5
  go_wp2_with fail
  refine OV.out.mono ?_
  rintro e w1 ⟨g, rfl, hg, C1, b1⟩
  have hgl := C1.lt
  have hz1 := b1.size
  simp only [World.size_alloc] at hz1 hg
  have s1 := CurS.of C1
  have BZ1 := BZ.below b1 BZ.lt
  have b01 := New.trans ha b1
  have ha2 : New w1 (w1.alloc (.cells #[.slice none 0 0, .int .i64 0, .slice none 0 0] 27)) := (Below.refl _ _).alloc (Nat.le_refl _) _
  have BQ := Blk.new w1 27 #[.slice none 0 0, .int .i64 0, .slice none 0 0]
  have BZ2 := BZ1.below ha2 BZ1.lt
  have s2 := s1.below ha2
  have b02 := New.trans b01 ha2
  have P1 := Lib.hid (HGC.out _ _ s2)
  have hzq : (w1.alloc (.cells #[.slice none 0 0, .int .i64 0, .slice none 0 0] 27)).heap.size = w1.heap.size + 1 := by simp
  clear OV C1 BZ BZ1 b1 b01 ha ha2 s1 s2
  go_wp2_with fail
  refine P1.out.mono ?_
  rintro e w3 ⟨Ac, nc, cc, rfl, hcc, hcm, oC, s3, g3⟩
  obtain rfl : nc = L.length := (Reads.of_own oC).lenC
  rw [hzq] at oC
  have hz3 := g3.size
  rw [hzq] at hz3
  have BQ3 := BQ.grown g3 (by intro e; injection e with e; omega)
  have BZ3 := BZ2.grown g3 (by intro e; injection e with e; omega)
  have b03 := Far.below b02 g3 (by omega) (Nat.le_refl _)
  clear P1 BQ BZ2 b02 g3 hzq
  generalize w1.heap.size = gq at *
  obtain ⟨x0, x1, x2⟩ := ccells BQ3
  have f0 := BQ3.frozen 0
  have gS : w3.grownBy (w3.setCell ⟨gq, 0, none⟩ (.slice Ac L.length cc)) (some gq) := setCell_gr
  have hzS : w3.heap.size ≤ (w3.setCell ⟨gq, 0, none⟩ (.slice Ac L.length cc)).heap.size := gS.size
  have s4 := s3.keep gS BQ3 (by omega) (by decide)
  have oC4 := oC.kept gS (.inr (fun e => by have := (World.ownsRow.lt oC _ e).1; omega))
  have BZ4 := BZ3.grown gS (by intro e; injection e with e; omega)
  have BQ4 := BQ3.set_ 0 (.slice Ac L.length cc)
  simp only [List.setIfInBounds_toArray, List.set_cons_zero] at BQ4
  have b04 := Far.below b03 gS (by omega) (Nat.le_refl _)
  have P2 := Lib.hid (HL1.out _ _ s4)
  clear s3 oC BZ3 BQ3 b03 gS
  go_wp2_with fail
  refine P2.out.mono ?_
  rintro e w5 ⟨rfl, s5, g5⟩
  have hz5 := g5.size
  have BQ5 := BQ4.grown g5 (by intro e; injection e with e; omega)
  have BZ5 := BZ4.grown g5 (by intro e; injection e with e; omega)
  have oC5 := oC4.kept g5 (.inr (fun e => by have := (World.ownsRow.lt oC4 _ e).1; omega))
  have b05 := Far.below b04 g5 (by omega) (Nat.le_refl _)
  clear P2 s4 oC4 BZ4 BQ4 b04 g5 x0 x1 x2 f0
  obtain ⟨x0, x1, x2⟩ := ccells BQ5
  have f1 := BQ5.frozen 1
  have gS : w5.grownBy (w5.setCell ⟨gq, 1, none⟩ (.int .i64 (R : Int))) (some gq) := setCell_gr
  have hzS5 : w5.heap.size ≤ (w5.setCell ⟨gq, 1, none⟩ (.int .i64 (R : Int))).heap.size := gS.size
  have s6 := s5.keep gS BQ5 (by omega) (by decide)
  have oC6 := oC5.kept gS (.inr (fun e => by have := (World.ownsRow.lt oC5 _ e).1; omega))
  have BZ6 := BZ5.grown gS (by intro e; injection e with e; omega)
  have BQ6 := BQ5.set_ 1 (.int .i64 (R : Int))
  simp only [List.setIfInBounds_toArray, List.set_cons_zero, List.set_cons_succ] at BQ6
  have b06 := Far.below b05 gS (by omega) (Nat.le_refl _)
  have P3 := Lib.hid (HL2.out _ _ s6)
  clear s5 oC5 BZ5 BQ5 b05 gS
  obtain ⟨y0, y1, y2⟩ := ccells BQ6
  go_wp2_with fail
  refine P3.out.mono ?_
  rintro e w7 ⟨rfl, s7, g7⟩
  have hz7 := g7.size
  have BQ7 := BQ6.grown g7 (by intro e; injection e with e; omega)
  have BZ7 := BZ6.grown g7 (by intro e; injection e with e; omega)
  have oC7 := oC6.kept g7 (.inr (fun e => by have := (World.ownsRow.lt oC6 _ e).1; omega))
  have b07 := Far.below b06 g7 (by omega) (Nat.le_refl _)
  clear P3 s6 oC6 BZ6 BQ6 b06 g7 x0 x1 x2 y0 y1 y2 f1
  go_wp2_with fail
  have hgw : w.heap.size < g := by omega
  have hgq : g < gq := by omega
  have hq7 : gq < w7.heap.size := by omega
  have HX0 := Lib.hid (show groupsR (fun r => r) L (R : Int) N Sn = ([] ++ (groupsR (fun r => r) L (R : Int) N Sn).1, (groupsR (fun r => r) L (R : Int) N Sn).2) from rfl)
  obtain ⟨X, hX⟩ : ∃ X, X = groupsR (fun r => r) L (R : Int) N Sn := ⟨_, rfl⟩
  rw [← hX] at HM
  have HX0 : Hid (X = ([] ++ (groupsR (fun r => r) L (R : Int) N Sn).1, (groupsR (fun r => r) L (R : Int) N Sn).2)) := Lib.hid (by rw [hX]; rfl)
  have HXD : Hid (∀ gr ∈ X.1, ∀ l ∈ gr.2, ∀ p ∈ l, statData p.2.2) := Lib.hid (by rw [hX]; exact groupsR_data _ _)
  have HXF : Hid (∀ gr ∈ X.1, gr.2.length = L.length ∧ ∀ l ∈ gr.2, l.length ≤ 65536) := Lib.hid (by rw [hX]; exact groupsR_few (by omega) _ hok3)
  clear hX hzS hzS5 hz3 hz5 hz7 hz1 hg hgl
  go_loopw [6] (fun i wr => ∃ (j d : Nat) (A : Option Addr) (G : List GrD) (Sj : St), i = .int .i64 (j : Int) ∧ Hid (G.length + j = N) ∧ j ≤ N ∧ Blk wr gq 27 #[.slice Ac L.length cc, .int .i64 (R : Int), .slice A G.length d] ∧ Blk wr w.heap.size 27 #[.slice none 0 0, .int .i64 0, .slice none 0 0]
    ∧ wr.ownsRow (gq + 1) 39 3 (.slice Ac L.length cc) L.length (recs colV L) ∧ GrOwn wr (gq + 1) A d G ∧ CurS wr g Sj ∧ (Sj.getD []).length ≤ 140737488351232 ∧ Hid (X = (G.map grP ++ (groupsR (fun r => r) L (R : Int) j Sj).1, (groupsR (fun r => r) L (R : Int) j Sj).2)) ∧ New w wr ∧ gq < wr.heap.size) (fun i _ => (intOf i).toNat)
  case atStart => exact ⟨N, 0, none, [], Sn, rfl, Lib.hid (by simp), Nat.le_refl _, BQ7, BZ7, oC7, ⟨row_nil, by simp⟩, s7, by omega, HX0, b07, hq7⟩
  case round =>
    obtain ⟨j, d, A, G, Sj, rfl, hGj, hjN, B, BZ, oC, GO, s, hsl, HXj, bw, hgr⟩ := hrel
    clear HX0 s7 BQ7 BZ7 oC7 b07 hq7 HL1 HL2 HGC hok3 hsub3
    have BD := Lib.hid (badS s)
    by_cases hj : 0 < j
    · cases Sj with
      | none =>
        simp only [Option.isNone_none] at BD
        have hX := HXj.out
        rw [groupsR_none, List.append_nil] at hX
        clear HXj
        have hN : M = none := by rw [HM.out, hX]; exact if_neg (fun h => by simp at h)
        have hNone := Lib.hid hN
        have BW := bw
        have EN := endS_any s
        simp only [endS] at EN
        have EN := Lib.hid EN
        clear HM HXD HXF hN GO oC HF1
        go_wp2_with fail
        refine BD.out.mono ?_
        rintro e w8' ⟨rfl, rfl⟩
        go_wp2_with fail
        refine EN.out.mono ?_
        rintro e w8 ⟨rfl, rfl⟩
        go_wp2_with (refine wpList_storeG rfl 27 (.tmp 2) (.tmp 47) rfl w.heap.size _ rfl rfl BZ (by kernel_rfl) rfl (by simp [Value.oneCell']) ?_
                     intro W9 BR G9
                     obtain ⟨r0, r1, r2⟩ := ccells BR)
        rw [hNone.out]
        exact bodyPost_ret (v := .tuple #[.agg #[.slice none 0 0, .int .i64 0, .slice none 0 0], .bool false]) (by simp [results, Tryz.results5, go_sem, r0, r1, r2]) rfl ⟨rfl, Far.below BW G9 (Nat.le_refl _) (Nat.le_refl _)⟩
      | some b =>
        simp only [Option.isNone_some] at BD
        obtain ⟨j, rfl⟩ : ∃ k, j = k + 1 := ⟨j - 1, by omega⟩
        have hX := HXj.out
        rw [groupsR_step] at hX
        have hok := s.ok
        have hgs := groupR_sub (k := fun r => r) (cols := L) (m := (R : Int)) hok
        have GG := fun (W : World) (hs : CurS W g (some b)) (hC : W.ownsRow (gq + 1) 39 3 (.slice Ac L.length cc) L.length (recs colV L)) => getGroup_any (m := (R : Int)) hs hsl (by omega) hC (by omega)
        generalize groupR (fun r => r) L (R : Int) (some b) = H at *
        obtain ⟨gv, S5⟩ := H
        obtain ⟨gvr, gvc⟩ := gv
        dsimp only at hX hgs GG
        have HX := Lib.hid hX
        have hGl : G.length ≤ 65536 := by have := hGj.out; omega
        have hge : ∀ x ∈ rowT (.slice A G.length d), gq + 1 ≤ x := fun x hx => (rowT_ge GO.row x hx).1
        have hne1 : gq ∉ (g :: rowT (.slice A G.length d)) := by
          intro hm
          rcases List.mem_cons.1 hm with e | e
          · omega
          · have := hge _ e; omega
        have hne2 : w.heap.size ∉ (g :: rowT (.slice A G.length d)) := by
          intro hm
          rcases List.mem_cons.1 hm with e | e
          · omega
          · have := hge _ e; omega
        obtain ⟨x0, x1, x2⟩ := ccells B
        clear hX HXj hok
        go_wp2_with fail
        refine BD.out.mono ?_
        rintro e w8' ⟨rfl, rfl⟩
        go_wp2_with fail
        refine wp_region_upT (Turns (g :: rowT (.slice A G.length d))) 11 [(1, 0), (0, 1), (1, 2), (1, 3), (0, 4), (1, 5), (0, 6), (2, 7), (2, 8), (2, 9), (1, 10), (2, 11)]
          (Turns.refl _) Turns.trans (by kernel_rfl) (by kernel_rfl) (by kernel_rfl) (by kernel_rfl) ?_
        have F := Lib.hid (fun (W : World) (hW : Turns (g :: rowT (.slice A G.length d)) wr.drew W) => B.drew.touch hW hne1)
        have s2 := s.below (New.drew wr)
        have GO2 := GO.later (New.drew wr)
        have oC2 := row_later oC (New.drew wr)
        have B2 := B.drew
        have BZ2 := BZ.drew
        have bw2 := New.trans bw (New.drew wr)
        have GP2 := Lib.hid (GG _ s2 oC2)
        have hgr2 : gq < wr.drew.heap.size := hgr
        clear x0 x1 x2 B BZ GO oC s bw GG BD
        obtain ⟨wa, hwa⟩ : ∃ wa, wa = wr.drew := ⟨_, rfl⟩
        rw [← hwa] at F s2 GO2 oC2 B2 BZ2 bw2 GP2 hgr2 ⊢
        clear hwa
        repeat (first
          | (refine upT_quiet rfl rfl (v := ?_) (fun W hW => ?_) ?_; rotate_left; (have F1 := F.out W hW; obtain ⟨y0, y1, y2⟩ := ccells F1; clear F1; go_simp <;> with_reducible rfl); simp only [Act.put, List.setIfInBounds_toArray, List.set_cons_zero, List.set_cons_succ])
          | (refine upT_pure rfl rfl (v := ?_) (fun W => ?_) ?_; rotate_left; (go_simp <;> with_reducible rfl); simp only [Act.put, List.setIfInBounds_toArray, List.set_cons_zero, List.set_cons_succ]))
        refine upT_call rfl rfl (fun K hK => ?_)
        go_simp
        (with_reducible refine GP2.out.mono ?_)
        rintro e w8 ⟨A8, d8, D8, rfl, hD8, CO8, s8, g8⟩
        refine hK _ _ (.inr (.inr (Turns.of_far g8 (by simp)))) ?_
        clear hK
        dsimp only at hD8
        have hz8 := g8.size
        have GO8 := GO2.far g8 (by omega)
        have oC8 := oC2.kept g8 (.inr (fun e => by have := (World.ownsRow.lt oC2 _ e).1; omega))
        have B8 := B2.grown g8 (by intro e; injection e with e; omega)
        have BZ8 := BZ2.grown g8 (by intro e; injection e with e; omega)
        have bw8 := Far.below bw2 g8 (by omega) (Nat.le_refl _)
        have CO8 := CO8.base (show gq + 1 ≤ wa.heap.size by omega)
        have HD8 := Lib.hid hD8
        clear F GP2 GO2 oC2 B2 BZ2 bw2 s2 g8 hD8
        refine upT_call rfl rfl (fun K hK => ?_)
        go_simp
        refine hK _ _ (.inr (.inr (Turns.of_new ((Below.refl _ _).alloc (Nat.le_refl _) _)))) ?_
        clear hK
        have RL := Reads.litR w8 45 #[.int .i64 gvr, .slice A8 D8.length d8] 1 2 [.int .i64 gvr, .slice A8 D8.length d8] rfl rfl
        have hb8 : New w8 (w8.alloc (.cells #[.int .i64 gvr, .slice A8 D8.length d8] 45)) := (Below.refl _ _).alloc (Nat.le_refl _) _
        have GO9 := GO8.later hb8
        have CO9 := CO8.later hb8
        have oC9 := row_later oC8 hb8
        have s9 := s8.below hb8
        have B9 := B8.below hb8 B8.lt
        have BZ9 := BZ8.below hb8 BZ8.lt
        have bw9 := New.trans bw8 hb8
        have hz9 := hb8.size
        clear GO8 CO8 oC8 s8 B8 BZ8 bw8 hb8
        obtain ⟨wb, hwb⟩ : ∃ wb, wb = w8.alloc (.cells #[.int .i64 gvr, .slice A8 D8.length d8] 45) := ⟨_, rfl⟩
        rw [← hwb] at RL GO9 CO9 oC9 s9 B9 BZ9 bw9 hz9 ⊢
        clear hwb
        refine upT_call rfl rfl (fun K hK => ?_)
        refine wp_appR elGr (.tmp 29) (.tmp 36) rfl (W := w) (B := w.heap.size) (base := gq + 1) GO9.row RL rfl rfl bw9 (by omega) (by omega) (by simp [Value.oneCell']) (by omega) (by simp only [maxLen]; omega) ?_
        intro A10 c10 w10 _ _ o10 g10 bw10
        refine hK _ _ (.inr (.inr ((Turns.row g10).more (fun x hx => List.mem_cons_of_mem _ hx)))) ?_
        clear hK
        have hz10 := g10.size
        have hrn : ∀ y, y < gq + 1 → y ∉ rowT (.slice A G.length d) := fun y hy hm => by have := hge _ hm; omega
        have B10 := B9.touch (Turns.row g10) (hrn _ (by omega))
        have BZ10 := BZ9.touch (Turns.row g10) (hrn _ (by omega))
        have s10 := s9.pushRow GO9.row g10 (by decide) (by decide)
        have oC10 := oC9.kept g10 (rows_apart oC9 GO9.row (by decide))
        have P10 : ∀ x ∈ G, ChOwn w10 (gq + 1) x.2.1 x.2.2.1 x.2.2.2 := fun x hx => (GO9.chunks x hx).row_ GO9.row g10 (by decide) (by decide)
        have CO10 := CO9.row_ GO9.row g10 (by decide) (by decide)
        have x0 := B10.cell 2
        have y0 := B10.frozen 2
        simp at x0
        have gS : w10.grownBy (w10.setCell ⟨gq, 2, none⟩ (.slice A10 (G.length + 1) c10)) (some gq) := setCell_gr
        clear GO9 CO9 oC9 s9 B9 BZ9 bw9 g10 RL
        refine upT_pure rfl rfl (v := ?_) (fun W => ?_) ?_
        rotate_left
        · go_simp <;> with_reducible rfl
        simp only [Act.put, List.setIfInBounds_toArray, List.set_cons_zero, List.set_cons_succ]
        refine upT_call rfl rfl (fun K hK => ?_)
        go_simp
        refine hK _ _ (.inr (.inl rfl)) ?_
        clear hK x0 y0
        refine upT_nil ?_
        have GO12 : GrOwn (w10.setCell ⟨gq, 2, none⟩ (.slice A10 (G.length + 1) c10)) (gq + 1) A10 c10 (G ++ [(gvr, A8, d8, D8)]) := by
          constructor
          · rw [recs_grV_snoc, List.length_append]
            exact o10.kept gS (.inr (fun e => by have := (World.ownsRow.lt o10 _ e).1; omega))
          · intro x hx
            rcases List.mem_append.1 hx with hx | hx
            · exact (P10 x hx).far gS (by omega)
            · rw [List.mem_singleton.1 hx]
              exact CO10.far gS (by omega)
        have B12 := B10.set_ 2 (.slice A10 (G.length + 1) c10)
        simp only [List.setIfInBounds_toArray, List.set_cons_zero, List.set_cons_succ] at B12
        have BZ12 := BZ10.grown gS (by intro e; injection e with e; omega)
        have s12 := s10.keep gS B10 (by omega) (by decide)
        have oC12 := oC10.kept gS (.inr (fun e => by have := (World.ownsRow.lt oC10 _ e).1; omega))
        have bw12 := Far.below bw10 gS (by omega) (Nat.le_refl _)
        have hg12 : gq < (w10.setCell ⟨gq, 2, none⟩ (.slice A10 (G.length + 1) c10)).heap.size := by have := gS.size; omega
        have HX12 : Hid (X = ((G ++ [(gvr, A8, d8, D8)]).map grP ++ (groupsR (fun r => r) L (R : Int) j S5).1, (groupsR (fun r => r) L (R : Int) j S5).2)) := Lib.hid (by
          rw [HX.out, List.map_append, show [((gvr, A8, d8, D8) : GrD)].map grP = [(gvr, gvc)] by rw [← HD8.out]; rfl, List.append_assoc]
          rfl)
        have HG12 : Hid ((G ++ [(gvr, A8, d8, D8)]).length + j = N) := Lib.hid (by rw [List.length_append, ← hGj.out]; simp; omega)
        have hsl5 : (S5.getD []).length ≤ 140737488351232 := by omega
        have B12 : Blk (w10.setCell ⟨gq, 2, none⟩ (.slice A10 (G.length + 1) c10)) gq 27 #[.slice Ac L.length cc, .int .i64 (R : Int), .slice A10 (G ++ [(gvr, A8, d8, D8)]).length c10] := by rw [List.length_append]; exact B12
        clear gS P10 CO10 o10 s10 oC10 BZ10 B10 bw10 HX HD8 hgs
        go_wp2_with fail
        go_roundw
        case rel => exact ⟨j, c10, A10, G ++ [(gvr, A8, d8, D8)], S5, by go_num, HG12, by omega, B12, BZ12, oC12, GO12, s12, hsl5, HX12, bw12, hg12⟩
        case measure => simp [intOf]
    · obtain rfl : j = 0 := by omega
      have hX := HXj.out
      rw [show groupsR (fun r => r) L (R : Int) 0 Sj = ([], Sj) from rfl, List.append_nil] at hX
      clear HXj BD
      cases Sj with
      | none =>
        have hN : M = none := by rw [HM.out, hX]; exact if_neg (fun h => by simp at h)
        have hNone := Lib.hid hN
        have BW := bw
        have EN := endS_any s
        simp only [endS] at EN
        have EN := Lib.hid EN
        clear HM HXD HXF hN GO oC HF1
        go_wp2_with fail
        refine EN.out.mono ?_
        rintro e w8 ⟨rfl, rfl⟩
        go_wp2_with (refine wpList_storeG rfl 27 (.tmp 2) (.tmp 47) rfl w.heap.size _ rfl rfl BZ (by kernel_rfl) rfl (by simp [Value.oneCell']) ?_
                     intro W9 BR G9
                     obtain ⟨r0, r1, r2⟩ := ccells BR)
        rw [hNone.out]
        exact bodyPost_ret (v := .tuple #[.agg #[.slice none 0 0, .int .i64 0, .slice none 0 0], .bool false]) (by simp [results, Tryz.results5, go_sem, r0, r1, r2]) rfl ⟨rfl, Far.below BW G9 (Nat.le_refl _) (Nat.le_refl _)⟩
      | some r =>
        cases r with
        | cons z r =>
          have hN : M = none := by rw [HM.out, hX]; exact if_neg (fun h => by simp at h)
          have hNone := Lib.hid hN
          have BW := bw
          have EN := endS_any s
          simp only [endS] at EN
          have EN := Lib.hid EN
          clear HM HXD HXF hN GO oC HF1
          go_wp2_with fail
          refine EN.out.mono ?_
          rintro e w8 ⟨rfl, rfl⟩
          go_wp2_with (refine wpList_storeG rfl 27 (.tmp 2) (.tmp 47) rfl w.heap.size _ rfl rfl BZ (by kernel_rfl) rfl (by simp [Value.oneCell']) ?_
                       intro W9 BR G9
                       obtain ⟨r0, r1, r2⟩ := ccells BR)
          rw [hNone.out]
          exact bodyPost_ret (v := .tuple #[.agg #[.slice none 0 0, .int .i64 0, .slice none 0 0], .bool false]) (by simp [results, Tryz.results5, go_sem, r0, r1, r2]) rfl ⟨rfl, Far.below BW G9 (Nat.le_refl _) (Nat.le_refl _)⟩
        | nil =>
          have EN := endS_any s
          simp only [endS] at EN
          have EN := Lib.hid EN
          have hGl : G.length ≤ 65536 := by have := hGj.out; omega
          have hsh : ∀ x ∈ G, x.2.2.2.length = L.length ∧ ∀ y ∈ x.2.2.2, y.2.2.length ≤ 65536 := fun x hx => by
            have h1 := HXF.out
            rw [hX] at h1
            obtain ⟨h2, h3⟩ := h1 (grP x) (List.mem_map.2 ⟨x, hx, rfl⟩)
            unfold grP at h2 h3
            rw [List.length_map] at h2
            exact ⟨h2, fun y hy => h3 y.2.2 (List.mem_map.2 ⟨y, hy, rfl⟩)⟩
          have FI := FootIn.own oC GO HF1.out hcc hf2 hGl hsh
          have HFO := Lib.hid (fun (W : World) (o1 : W.ownsRow (gq + 1) 39 3 (.slice Ac L.length cc) L.length (recs colV L)) (o2 : GrOwn W (gq + 1) A d G) => FootIn.own o1 o2 HF1.out hcc hf2 hGl hsh)
          have hdat : ∀ x ∈ G, ∀ y ∈ x.2.2.2, ∀ p ∈ y.2.2, statFine p.2.2 := fun x hx y hy p hp => by
            have h1 := HXD.out
            rw [hX] at h1
            exact (h1 (grP x) (List.mem_map.2 ⟨x, hx, rfl⟩) y.2.2 (List.mem_map.2 ⟨y, hy, rfl⟩) p hp).fine
          have RT := fright_any (cg := d) (r := (R : Int)) FI hdat
          have RT : Calls Tryz.prog 11 #[.agg #[.slice Ac L.length cc, .int .i64 (R : Int), .slice A G.length d]] wr (NewPost (.bool (rightF (footP L (R : Int) G))) wr) := RT
          have hMM := HM.out
          rw [hX] at hMM
          dsimp only at hMM
          have HOC := Lib.hid oC
          have HGO := Lib.hid GO
          clear HM HXD HXF hdat hsh FI GO oC HF1
          obtain ⟨x0, x1, x2⟩ := ccells B
          by_cases hFo : FootOk (footP L (R : Int) G)
          · rw [rightF_yes hFo] at RT
            rw [if_pos ⟨rfl, hFo⟩] at hMM
            have RT := Lib.hid RT
            have HMM := Lib.hid hMM
            clear hMM hFo
            go_wp2_with fail
            refine EN.out.mono ?_
            rintro e w8 ⟨rfl, rfl⟩
            go_wp2_with fail
            refine RT.out.mono ?_
            rintro e w9 ⟨rfl, b9⟩
            have B9 := B.below b9 B.lt
            have BZ9 := BZ.below b9 BZ.lt
            have HOC := Lib.hid (row_later HOC.out b9)
            have HGO := Lib.hid (HGO.out.later b9)
            have b09 := New.trans bw b9
            clear B BZ b9 x0 x1 x2 RT EN
            obtain ⟨x0, x1, x2⟩ := ccells B9
            go_wp2_with (refine wpList_storeG rfl 27 (.tmp 2) (.tmp 48) rfl w.heap.size _ rfl rfl BZ9 (by kernel_rfl) rfl (by simp [Value.oneCell']) ?_
                         intro W9 BR G9
                         obtain ⟨r0, r1, r2⟩ := ccells BR)
            rw [HMM.out]
            exact bodyPost_ret (v := .tuple #[.agg #[.slice Ac L.length cc, .int .i64 (R : Int), .slice A G.length d], .bool true]) (by simp [results, Tryz.results5, go_sem, r0, r1, r2]) rfl ⟨Ac, cc, L, (R : Int), A, d, G, rfl, rfl, ⟨HFO.out _ (HOC.out.kept G9 (.inr (fun e => by have := (World.ownsRow.lt HOC.out _ e).1; omega))) (HGO.out.far G9 (by omega)), by obtain ⟨_, _, e, k, _⟩ := row_slice HGO.out.row; injection e with _ _ e; omega⟩, Far.below b09 G9 (Nat.le_refl _) (Nat.le_refl _)⟩
          · rw [rightF_no hFo] at RT
            rw [if_neg (fun h => hFo h.2)] at hMM
            have RT := Lib.hid RT
            have hNone := Lib.hid hMM
            clear hMM hFo HFO HOC HGO
            go_wp2_with fail
            refine EN.out.mono ?_
            rintro e w8 ⟨rfl, rfl⟩
            go_wp2_with fail
            refine RT.out.mono ?_
            rintro e w9 ⟨rfl, b9⟩
            have BZ := BZ.below b9 BZ.lt
            have BW := New.trans bw b9
            clear B b9 x0 x1 x2 RT EN
            go_wp2_with (refine wpList_storeG rfl 27 (.tmp 2) (.tmp 47) rfl w.heap.size _ rfl rfl BZ (by kernel_rfl) rfl (by simp [Value.oneCell']) ?_
                         intro W9 BR G9
                         obtain ⟨r0, r1, r2⟩ := ccells BR)
            rw [hNone.out]
            exact bodyPost_ret (v := .tuple #[.agg #[.slice none 0 0, .int .i64 0, .slice none 0 0], .bool false]) (by simp [results, Tryz.results5, go_sem, r0, r1, r2]) rfl ⟨rfl, Far.below BW G9 (Nat.le_refl _) (Nat.le_refl _)⟩

end Go.Proofs.YtflaaahcoglflaaGreat
/- The small footer of layer 19's statements, and what else of footers its laws need: plain. -/

namespace Go.Proofs.YtflaaahcoglflaaGreat
open Go Go.RowKit Go.Hm
def fcN (n : Int) : CellS := (false, n, [], 0, 0)
def fsS : StatS := (0, true, fcN 1, fcN 2)
def fpA : PageS := (5, 2, fsS)
def fpB : PageS := (7, 1, fsS)
def fL : List ColS := [([97], 0, false)]
def fsm : FootS := ⟨fL, 3, [(3, [[fpA, fpB]])]⟩
def fz : FootS := ⟨[], 0, []⟩
theorem fs_right : rightS 0 fsS = true := by
  unfold rightS
  rw [if_neg (by simp [fsS]), if_pos (show fsS.2.1 = true from rfl)]
  have h1 : rightB (fcN 1) 0 false = true := by simp [rightB, fcN]
  have h2 : rightB (fcN 2) 0 false = true := by simp [rightB, fcN]
  have h3 : cmpD 0 (fcN 1) (fcN 2) = -1 := rfl
  simp [fsS, h1, h2, h3]
theorem fpA_ok : pageB 0 false fpA 65536 = true := by
  rw [pageB_most]
  refine ⟨by simp [fpA], ?_⟩
  rw [show rightS 0 fpA.2.2 = true from fs_right]
  simp [fpA, fsS]
theorem fpB_ok : pageB 0 false fpB 65536 = true := by
  rw [pageB_most]
  refine ⟨by simp [fpB], ?_⟩
  rw [show rightS 0 fpB.2.2 = true from fs_right]
  simp [fpB, fsS]
theorem fsm_ok : FootOk fsm := by
  refine ⟨(colsCk_iff fL).1 (by decide), ?_, by simp [fsm], by simp [fsm], by simp [fsm, groupSize, sizesL, fpA, fpB]⟩
  intro g hg
  simp only [fsm, List.mem_singleton] at hg
  subst hg
  refine ⟨by simp, by simp [fsm, fL], ?_⟩
  intro i hi
  obtain rfl : i = 0 := by simp [fsm, fL] at hi; omega
  refine ⟨?_, by simp [rowsL, fpA, fpB]⟩
  intro p hp
  simp at hp
  rcases hp with rfl | rfl
  · exact fpA_ok
  · exact fpB_ok
theorem fz_ok : FootOk fz := ⟨(colsCk_iff []).1 (by decide), by simp [fz], by simp [fz], by simp [fz], by simp [fz]⟩
theorem one_no : ¬ FootOk ⟨[], 1, []⟩ := fun h => by have := h.2.2.1; simp at this
theorem fs_data : statData fsS := by unfold statData cellData fsS fcN; simp
theorem fsm_bytes : ∃ r, footL fsm = [1, 1, 97, 0, 0, 3, 1, 3, 2] ++ r := by
  refine ⟨[fpA, fpB].flatMap (pageL 0), ?_⟩
  unfold footL
  have e : putC [] fL = [1, 1, 97, 0, 0] := by
    rw [putC, if_pos (by decide)]
    simp [fL, catC, colB, vp_lt, boolN]
  simp only [fsm]
  rw [e]
  simp [groupL, chunksL, fL, chunkL, vp_lt]
theorem fz_bytes : footL fz = [0, 0, 0] := by
  unfold footL fz
  have e : putC [] [] = [0] := by
    rw [putC, if_pos (by decide)]
    simp [catC, vp_lt]
  rw [e]
  simp [vp_lt]
theorem fsm_len : (footL fsm).length ≤ 1000000 := by
  obtain ⟨r, h⟩ := fsm_bytes
  unfold footL
  have e : (putC [] fL).length = 5 := by
    rw [putC, if_pos (by decide)]
    simp [fL, catC, colB, vp_lt]
  simp only [fsm, List.length_append, e]
  have h1 : ∀ p ∈ [fpA, fpB], (pageL 0 p).length ≤ 140020 := fun p hp => by
    simp at hp
    rcases hp with rfl | rfl <;> exact pageL_len (by simp [fpA, fpB]) (by simp [fpA, fpB])
  have h2 := h1 fpA (by simp)
  have h3 := h1 fpB (by simp)
  simp [groupL, chunksL, fL, chunkL, vp_lt]
  omega
theorem f_b9 : (bstr [1, 1, 97, 0, 0, 3, 1, 3, 2]).toList = [1, 1, 97, 0, 0, 3, 1, 3, 2] := by rw [bstr_toList]; rfl
theorem f_b3 : (bstr [0, 0, 0]).toList = [0, 0, 0] := by rw [bstr_toList]; rfl
theorem putS_byte {t : Int} {s : StatS} (hd : statData s) : ∀ x ∈ putS [] t s, x < 256 := by
  intro x hx
  unfold putS at hx
  split at hx
  · split at hx
    · simp only [List.nil_append, List.mem_append, List.mem_singleton] at hx
      rcases hx with ((hx | hx) | hx) | hx
      · exact vp_byteS _ _ (Nat.le_refl _) x hx
      · omega
      · exact vp_byteS _ _ (Nat.le_refl _) x hx
      · exact plB_lt (fun c hc => by simp at hc; rcases hc with rfl | rfl; exact hd.1.1.2; exact hd.2.1.2) x hx
    · simp only [List.nil_append, List.mem_append, List.mem_singleton] at hx
      rcases hx with hx | hx
      · exact vp_byteS _ _ (Nat.le_refl _) x hx
      · omega
  · simp at hx
theorem footL_byte {F : FootS} (h : FootOk F) (hd : FootData F) : ∀ x ∈ footL F, x < 256 := by
  obtain ⟨a1, a2, a3, a4, a5⟩ := h
  obtain ⟨d1, d2⟩ := hd
  intro x hx
  unfold footL at hx
  simp only [List.mem_append] at hx
  rcases hx with ((hx | hx) | hx) | hx
  · have hck := (colsCk_iff F.cols).2 a1
    rw [putC, if_pos hck, List.nil_append] at hx
    exact putC_byte F.cols (fun c hc => ⟨d1 c hc, (a1.2.1 c hc).2.2.1, (a1.2.1 c hc).2.2.2⟩) x hx
  · exact vp_byteS _ _ (Nat.le_refl _) x hx
  · exact vp_byteS _ _ (Nat.le_refl _) x hx
  · obtain ⟨g, hg, hx⟩ := List.mem_flatMap.1 hx
    unfold groupL at hx
    rcases List.mem_append.1 hx with hx | hx
    · exact vp_byteS _ _ (Nat.le_refl _) x hx
    · have key : ∀ (cs : List ColS) (ls : List (List PageS)), (∀ l ∈ ls, ∀ p ∈ l, statData p.2.2) → x ∈ chunksL cs ls → x < 256 := by
        intro cs
        induction cs with
        | nil => intro ls _ hx; simp [chunksL] at hx
        | cons c cs ih =>
          intro ls hd hx
          cases ls with
          | nil => simp [chunksL] at hx
          | cons l ls =>
            simp only [chunksL, List.mem_append] at hx
            rcases hx with hx | hx
            · unfold chunkL at hx
              rcases List.mem_append.1 hx with hx | hx
              · exact vp_byteS _ _ (Nat.le_refl _) x hx
              · obtain ⟨p, hp, hx⟩ := List.mem_flatMap.1 hx
                simp only [pageL, List.mem_append] at hx
                rcases hx with (hx | hx) | hx
                · exact vp_byteS _ _ (Nat.le_refl _) x hx
                · exact vp_byteS _ _ (Nat.le_refl _) x hx
                · exact putS_byte (hd l (by simp) p hp) x hx
            · exact ih ls (fun l hl => hd l (by simp [hl])) hx
      exact key _ _ (d2 g hg) hx
/-- What stands behind a footer's bytes is left. -/
theorem footG_app {k : Int → Int} (hk : ∀ r, 0 ≤ r → r ≤ 65536 → r ≤ k r ∧ k r ≤ 65536) {F : FootS} (h1 : FootOk F) (h2 : FootData F) (r : List Nat) (hb : (footL F).length + r.length ≤ 140737488351232) :
    footC (footL F ++ r) = (F.cols, (footC (footL F ++ r)).2) ∧ ((footN (footL F ++ r)).1 : Int) = F.rows ∧ footG k (footL F ++ r) = (F.groups, some r) := by
  obtain ⟨cols, rows, gs⟩ := F
  obtain ⟨a1, a2, a3, a4, a5⟩ := h1
  obtain ⟨d1, d2⟩ := h2
  dsimp only at a1 a2 a3 a4 a5 d1 d2
  obtain ⟨r1, r2⟩ := rows_sum a2
  have hck := (colsCk_iff cols).2 a1
  obtain ⟨N, rfl⟩ := Int.eq_ofNat_of_zero_le (show 0 ≤ rows by omega)
  have hkN := hk (N : Int) (by omega) a4
  generalize hbb : footL ⟨cols, (N : Int), gs⟩ ++ r = b
  have hb2 : b = vp cols.length ++ catC cols ++ (vp N ++ (vp gs.length ++ (gs.flatMap (groupL cols) ++ r))) := by
    rw [← hbb]
    unfold footL putC
    dsimp only
    rw [if_pos hck]
    simp
  have hbl := congrArg List.length hb2
  have hbl2 := congrArg List.length hbb
  simp only [List.length_append] at hbl hbl2
  have eC : footC b = (cols, some (vp N ++ (vp gs.length ++ (gs.flatMap (groupL cols) ++ r)))) := by
    unfold footC
    rw [hb2]
    exact getC_app cols _ hck
  have eN : footN b = (N, some (vp gs.length ++ (gs.flatMap (groupL cols) ++ r))) := by
    unfold footN
    rw [eC]
    exact lenS_app N _ (by omega) (by omega)
  have en : lenS (k (N : Int)) (some (vp gs.length ++ (gs.flatMap (groupL cols) ++ r))) = (gs.length, some (gs.flatMap (groupL cols) ++ r)) := lenS_app _ _ (by omega) (by omega)
  have eG : footG k b = (gs, some r) := by
    unfold footG
    rw [eC, eN]
    dsimp only
    rw [en]
    dsimp only
    exact groupsR_app hk (by omega) gs r (fun g hg => ⟨a2 g hg, by have := r2 g hg; omega, d2 g hg⟩) (by omega)
  exact ⟨by rw [eC], by rw [eN], eG⟩
theorem footO_more {k : Int → Int} (hk : ∀ r, 0 ≤ r → r ≤ 65536 → r ≤ k r ∧ k r ≤ 65536) {F : FootS} (h1 : FootOk F) (h2 : FootData F) (x : Nat) (r : List Nat) (hb : (footL F).length + (r.length + 1) ≤ 140737488351232) : footO k (footL F ++ x :: r) = none := by
  have h := (footG_app hk h1 h2 (x :: r) (by simpa using hb)).2.2
  unfold footO
  rw [h]
  rw [if_neg (by simp)]
theorem id_ok : ∀ r : Int, 0 ≤ r → r ≤ 65536 → r ≤ (fun r : Int => r) r ∧ (fun r : Int => r) r ≤ 65536 := fun _ _ h => ⟨Int.le_refl _, h⟩
theorem foot_back {F : FootS} (h1 : FootOk F) (h2 : FootData F) (hb : (footL F).length ≤ 140737488351232) : footO (fun r => r) (footL F) = some F := (footO_is id_ok (footL_byte h1 h2) hb).compl F h1 h2 rfl
theorem fsm_data : FootData fsm := by
  refine ⟨by intro c hc; simp [fsm, fL] at hc; subst hc; simp, ?_⟩
  intro g hg l hl p hp
  simp [fsm] at hg
  subst hg
  simp at hl
  subst hl
  simp at hp
  rcases hp with rfl | rfl <;> exact fs_data
theorem fsm_dec : footO (fun r => r) (footL fsm) = some fsm := foot_back fsm_ok fsm_data (by have := fsm_len; omega)
theorem fsm_no : footO (fun r => r) (footL fsm ++ [0]) = none := footO_more id_ok fsm_ok fsm_data 0 [] (by have := fsm_len; simp; omega)
theorem fsm_enc : encF fsm = some (footL fsm) := by unfold encF; rw [if_pos fsm_ok]
theorem fz_enc : encF fz = some [0, 0, 0] := by unfold encF; rw [if_pos fz_ok, fz_bytes]
theorem fsm_spans : spansF fsm 0 0 = [(0, 2), (2, 3)] := by
  unfold spansF
  rw [rightF_yes fsm_ok]
  have : inB fsm.cols.length fsm.groups.length 0 0 = true := by simp [inB, fsm, fL]
  rw [this]
  simp [aheadR, pagesAt, fsm, spansL, fpA, fpB]
theorem fsm_place : placeF fsm 0 0 1 = 5 ∧ placeF fsm 1 0 0 = 12 ∧ placeF fsm 0 0 2 = -1 := by
  unfold placeF
  rw [rightF_yes fsm_ok]
  refine ⟨?_, ?_, ?_⟩
  all_goals simp [inB, endB, pgB, fsm, fL, pagesAt, placeV, placeG, placeC, groupSize, sizesL, fpA, fpB]
/-- What the pages of a right footer are, of data. -/
theorem pageFine_of {t : Int} {nu : Bool} {p : PageS} (h : pageB t nu p 65536 = true) (hd : statData p.2.2) : PageFine p := by
  obtain ⟨⟨h1, h2, h3, h4⟩, h5⟩ := pageB_most.1 h
  rw [Bool.and_eq_true] at h5
  have hr := h5.1
  have hcell : ∀ {c : CellS}, rightB c t false = true → cellData c → CellFine c := by
    intro c hc hd
    obtain ⟨nul, n, s, x, y⟩ := c
    unfold rightB at hc
    refine ⟨hd.1, hd.2, ?_⟩
    dsimp only at hc ⊢
    split at hc
    · simp at hc
    · split at hc
      · simp at hc; omega
      · split at hc
        · simp at hc; omega
        · split at hc
          · simp at hc; omega
          · split at hc
            · rw [Bool.and_eq_true] at hc
              have hb := hc.2
              unfold inBox at hb
              simp at hb
              omega
            · simp at hc
  unfold rightS at hr
  split at hr
  · simp at hr
  · rename_i hn
    split at hr
    · rw [Bool.and_eq_true, Bool.and_eq_true] at hr
      exact ⟨⟨⟨hcell hr.1 hd.1, hcell hr.2.1 hd.2⟩, by omega, by omega⟩, by omega, by omega⟩
    · rw [Bool.and_eq_true] at hr
      obtain ⟨e1, e2⟩ := hr
      simp only [decide_eq_true_eq] at e1 e2
      have hz : CellFine cell0 := by unfold CellFine cell0; simp
      exact ⟨⟨⟨by rw [e1]; exact hz, by rw [e2]; exact hz⟩, by omega, by omega⟩, by omega, by omega⟩
/-- .. so footers that are right, and of data, may be encoded. -/
theorem foot_fine {L : List ColS} {r : Int} {G : List GrD} (h : FootOk (footP L r G)) (hd : FootData (footP L r G)) : ∀ g ∈ G, ∀ x ∈ g.2.2.2, ∀ p ∈ x.2.2, PageFine p := by
  intro g hg x hx p hp
  have h1 := h.2.1 (grP g) (List.mem_map.2 ⟨g, hg, rfl⟩)
  have h2 := hd.2 (grP g) (List.mem_map.2 ⟨g, hg, rfl⟩) x.2.2 (List.mem_map.2 ⟨x, hx, rfl⟩) p hp
  obtain ⟨i, hi, e⟩ := List.getElem_of_mem (show x.2.2 ∈ (grP g).2 from List.mem_map.2 ⟨x, hx, rfl⟩)
  have h3 := h1.2.2 i (by rw [← h1.2.1]; exact hi)
  rw [List.getD_eq_getElem?_getD (l := (grP g).2), List.getElem?_eq_getElem hi, Option.getD_some, e] at h3
  exact pageFine_of (h3.1 p hp) h2

end Go.Proofs.YtflaaahcoglflaaGreat
/- The contract of hypostyleref15.Merge. -/

namespace Go.Proofs.YtflaaahcoglflaaGreat
open Go.RowKit Go.Hm
theorem rcompareA_any {w : World} {t : Int} {a b : CellS} (ha : near a) (hb : near b) : Calls Tryz.prog 63 #[.int .i64 t, cellA a, cellA b] w (NewPost (.int .i64 (cmpD t a b)) w) := rcompareD_any (near_two ha hb)

end Go.Proofs.YtflaaahcoglflaaGreat
/- Contract on ref07.Right. -/

namespace Go.Proofs.YtflaaahcoglflaaGreat
open Go.RowKit Go.Hm
theorem two_cells {w W : World} {e e2 : TypeId} {a b c d f : Value} {o : Array Value} (h : New ((w.alloc (.cells #[a, b, c, d, f] e)).alloc (.cells o e2)) W) :
    W.cell? ⟨w.heap.size, 0, none⟩ = some a ∧ W.cell? ⟨w.heap.size, 1, none⟩ = some b ∧ W.cell? ⟨w.heap.size, 2, none⟩ = some c ∧ W.cell? ⟨w.heap.size, 3, none⟩ = some d ∧ W.cell? ⟨w.heap.size, 4, none⟩ = some f :=
  have B := (Blk.new w e #[a, b, c, d, f]).alloc (.cells o e2)
  cells5 (B.below h B.lt)
set_option maxHeartbeats 2000000 in
set_option maxRecDepth 100000 in
theorem rpright_any {w : World} (x y : Int) :
    Calls Tryz.prog 76 #[.agg #[.int .i64 x, .int .i64 y]] w (NewPost (.bool (inBox x y)) w) := by
  obtain ⟨W0, hW0⟩ : ∃ W, W = w.alloc (.cells #[.int .i64 x, .int .i64 y] 33) := ⟨_, rfl⟩
  have b0 : New w W0 := by rw [hW0]; exact (Below.refl _ _).alloc (Nat.le_refl _) _
  have B0 : Blk W0 w.heap.size 33 #[.int .i64 x, .int .i64 y] := by rw [hW0]; exact Blk.new _ _ _
  obtain ⟨x0, x1⟩ := cells2 B0
  have HO := Lib.hid (show inBox x y = (decide (-1048576 ≤ x) && decide (x ≤ 1048576) && decide (-1048576 ≤ y) && decide (y ≤ 1048576)) from rfl)
  generalize inBox x y = O at *
  rw [hW0] at x0 x1
  clear B0
  cases h1 : decide (-1048576 ≤ x) <;> cases h2 : decide (x ≤ 1048576) <;> cases h3 : decide (-1048576 ≤ y) <;> cases h4 : decide (y ≤ 1048576)
  all_goals
    rw [h1, h2, h3, h4] at HO
    go_enter Tryz.func76, Tryz.ntmps76
    go_wp2
    go_ret
    exact ⟨by rw [HO.out]; rfl, by rw [← hW0]; exact b0⟩
set_option maxHeartbeats 2000000 in
set_option maxRecDepth 100000 in
theorem rcright_any {w : World} {b : Bool} {n : Int} {s : List Nat} {x y : Int} {cn : List Nat} {t : Int} {nu : Bool} (hs : s.length ≤ 140737488351232) :
    Calls Tryz.prog 62 #[.agg #[.bool b, .int .i64 n, .string (bstr s), .int .i64 x, .int .i64 y], .agg #[.string (bstr cn), .int .i64 t, .bool nu]] w (NewPost (.bool (rightB (b, n, s, x, y) t nu)) w) := by
  have z1 := bstr_size s
  generalize hO : rightB (b, n, s, x, y) t nu = O
  have HO := Lib.hid hO
  have Z := Lib.hid (bstr_nil (s := s))
  clear hO
  have B0 := Blk.new w 35 #[.bool b, .int .i64 n, .string (bstr s), .int .i64 x, .int .i64 y]
  have B1 := Blk.new (w.alloc (.cells #[.bool b, .int .i64 n, .string (bstr s), .int .i64 x, .int .i64 y] 35)) 39 #[.string (bstr cn), .int .i64 t, .bool nu]
  obtain ⟨x0, x1, x2, x3, x4⟩ := cells5 (B0.alloc (.cells #[.string (bstr cn), .int .i64 t, .bool nu] 39))
  obtain ⟨y0, y1, y2⟩ := ccells B1
  clear B0 B1
  go_enter Tryz.func62, Tryz.ntmps62
  go_wp2_with (first
    | (go_at_call 76; refine (rpright_any x y).mono ?_; rintro e w' ⟨rfl, b1⟩; obtain ⟨p0, p1, p2, p3, p4⟩ := two_cells b1))
  all_goals go_ret
  all_goals try refine ⟨?_, new2 w _ _⟩
  all_goals try refine ⟨?_, New.trans (new2 w _ _) (by assumption)⟩
  all_goals
    rw [← HO.out]
    have Z := Z.out
    clear x0 x1 x2 x3 x4 y0 y1 y2 HO
    try clear p0 p1 p2 p3 p4
    simp_all [rightB]
  · by_cases h1 : n = 1 <;> simp [*]
  · omega

end Go.Proofs.YtflaaahcoglflaaGreat
/- The contracts of hypostyleref15.May and Right. -/

namespace Go.Proofs.YtflaaahcoglflaaGreat
open Go.RowKit Go.Hm
set_option maxHeartbeats 1000000 in
set_option maxRecDepth 100000 in
theorem eqCell_any (a b : CellS) (W : World) : (binOp .eql 35 (cellA a) (cellA b)).run Tryz.prog W = .ok (.bool (eqC a b)) W := by
  obtain ⟨a1, a2, a3, a4, a5⟩ := a
  obtain ⟨b1, b2, b3, b4, b5⟩ := b
  show (binOp .eql 35 (.agg #[.bool a1, .int .i64 a2, .string (bstr a3), .int .i64 a4, .int .i64 a5]) (.agg #[.bool b1, .int .i64 b2, .string (bstr b3), .int .i64 b4, .int .i64 b5])).run Tryz.prog W = _
  go_simp
  unfold eqC
  repeat' split
  all_goals simp_all
set_option maxHeartbeats 4000000 in
set_option maxRecDepth 100000 in
theorem rsright_any {w : World} {t : Int} {s : StatS} (hf : statFine s) : Calls Tryz.prog 51 #[.int .i64 t, statA s] w (NewPost (.bool (rightS t s)) w) := by
  obtain ⟨M, hM⟩ : ∃ M, M = rightS t s := ⟨_, rfl⟩
  rw [← hM]
  unfold rightS at hM
  obtain ⟨n, b, p, q⟩ := s
  obtain ⟨⟨hf1, hf2⟩, hf3, hf4⟩ := hf
  dsimp only at hM hf1 hf2 hf3 hf4
  have E1 : ∀ W, (binOp .eql 35 (cellA p) (cellA cell0)).run Tryz.prog W = .ok (.bool (decide (p = cell0))) W := fun W => by
    rw [eqCell_any, eqC_is hf2 (by simp [cell0])]
  have E2 : ∀ W, (binOp .eql 35 (cellA q) (cellA cell0)).run Tryz.prog W = .ok (.bool (decide (q = cell0))) W := fun W => by
    rw [eqCell_any, eqC_is hf4 (by simp [cell0])]
  have HN := fun (h1 : rightB p t false = true) (h2 : rightB q t false = true) (W : World) => rcompareA_any (w := W) (t := t) (a := p) (b := q) (right_near h1) (right_near h2)
  have R1 := fun (W : World) => rcright_any (w := W) (b := p.1) (n := p.2.1) (s := p.2.2.1) (x := p.2.2.2.1) (y := p.2.2.2.2) (cn := []) (t := t) (nu := false) hf1
  have R2 := fun (W : World) => rcright_any (w := W) (b := q.1) (n := q.2.1) (s := q.2.2.1) (x := q.2.2.2.1) (y := q.2.2.2.2) (cn := []) (t := t) (nu := false) hf3
  generalize decide (p = cell0) = e1 at *
  generalize decide (q = cell0) = e2 at *
  generalize cmpD t p q = o at *
  obtain ⟨p1, p2, p3, p4, p5⟩ := p
  obtain ⟨q1, q2, q3, q4, q5⟩ := q
  dsimp only at R1 R2 hM
  generalize rightB (p1, p2, p3, p4, p5) t false = m1 at *
  generalize rightB (q1, q2, q3, q4, q5) t false = m2 at *
  have E1 : ∀ W, (binOp .eql 35 (.agg #[.bool p1, .int .i64 p2, .string (bstr p3), .int .i64 p4, .int .i64 p5]) (.agg #[.bool false, .int .i64 0, .string ⟨#[]⟩, .int .i64 0, .int .i64 0])).run Tryz.prog W = .ok (.bool e1) W := E1
  have E2 : ∀ W, (binOp .eql 35 (.agg #[.bool q1, .int .i64 q2, .string (bstr q3), .int .i64 q4, .int .i64 q5]) (.agg #[.bool false, .int .i64 0, .string ⟨#[]⟩, .int .i64 0, .int .i64 0])).run Tryz.prog W = .ok (.bool e2) W := E2
  have R1 : Hid (∀ W, Calls Tryz.prog 62 #[.agg #[.bool p1, .int .i64 p2, .string (bstr p3), .int .i64 p4, .int .i64 p5], .agg #[.string ⟨#[]⟩, .int .i64 t, .bool false]] W (NewPost (.bool m1) W)) := Lib.hid R1
  have R2 : Hid (∀ W, Calls Tryz.prog 62 #[.agg #[.bool q1, .int .i64 q2, .string (bstr q3), .int .i64 q4, .int .i64 q5], .agg #[.string ⟨#[]⟩, .int .i64 t, .bool false]] W (NewPost (.bool m2) W)) := Lib.hid R2
  unfold cellA cellV at HN
  dsimp only at HN
  have HN := Lib.hid HN
  show Calls Tryz.prog 51 #[.int .i64 t, .agg #[.int .i64 n, .bool b, .bool p1, .int .i64 p2, .string (bstr p3), .int .i64 p4, .int .i64 p5, .bool q1, .int .i64 q2, .string (bstr q3), .int .i64 q4, .int .i64 q5]] w (NewPost (.bool M) w)
  have B0 := Blk.new w 37 #[.int .i64 n, .bool b, .bool p1, .int .i64 p2, .string (bstr p3), .int .i64 p4, .int .i64 p5, .bool q1, .int .i64 q2, .string (bstr q3), .int .i64 q4, .int .i64 q5]
  have hb : New w (w.alloc (.cells #[.int .i64 n, .bool b, .bool p1, .int .i64 p2, .string (bstr p3), .int .i64 p4, .int .i64 p5, .bool q1, .int .i64 q2, .string (bstr q3), .int .i64 q4, .int .i64 q5] 37)) := (Below.refl _ _).alloc (Nat.le_refl _) _
  have HB0 := Lib.hid B0
  have Hb := Lib.hid hb
  obtain ⟨x0, x1, x2, x3, x4, x5, x6, x7, x8, x9, x10, x11⟩ := cells12 B0
  clear B0 hb hf1 hf2 hf3 hf4
  by_cases hr : t < 0 ∨ 3 < t ∨ n < 0 ∨ 65536 < n
  · rw [if_pos hr] at hM
    have HM := Lib.hid hM
    clear hM E1 E2
    by_cases h1 : t < 0
    all_goals try by_cases h2 : 3 < t
    all_goals try by_cases h3 : n < 0
    all_goals try (have h4 : 65536 < n := by omega)
    all_goals
      clear hr
      go_enter Tryz.func51, Tryz.ntmps51
      go_wp2
      go_ret
      exact ⟨by rw [HM.out]; rfl, Hb.out⟩
  rw [if_neg hr] at hM
  have h1 : ¬ t < 0 := by omega
  have h2 : ¬ 3 < t := by omega
  have h3 : ¬ n < 0 := by omega
  have h4 : ¬ 65536 < n := by omega
  clear hr
  cases b with
  | false =>
    rw [if_neg (by simp)] at hM
    have HM := Lib.hid hM
    clear hM
    cases e1
    all_goals
      go_enter Tryz.func51, Tryz.ntmps51
      go_wp2
      go_ret
      exact ⟨by rw [HM.out]; rfl, Hb.out⟩
  | true =>
    rw [if_pos rfl] at hM
    have HM := Lib.hid hM
    clear hM E1 E2
    go_enter Tryz.func51, Tryz.ntmps51
    go_wp2_with fail
    refine (R1.out _).mono ?_
    rintro e w1 ⟨rfl, b1⟩
    have B0 := HB0.out.below b1 HB0.out.lt
    have hl := New.trans Hb.out b1
    clear x0 x1 x2 x3 x4 x5 x6 x7 x8 x9 x10 x11 HB0 Hb b1
    obtain ⟨x0, x1, x2, x3, x4, x5, x6, x7, x8, x9, x10, x11⟩ := cells12 B0
    go_wp2_with fail
    refine (R2.out _).mono ?_
    rintro e w2 ⟨rfl, b2⟩
    replace B0 := B0.below b2 B0.lt
    replace hl := New.trans hl b2
    clear x0 x1 x2 x3 x4 x5 x6 x7 x8 x9 x10 x11 b2
    obtain ⟨x0, x1, x2, x3, x4, x5, x6, x7, x8, x9, x10, x11⟩ := cells12 B0
    cases m1 with
    | false =>
      go_wp2_with fail
      go_ret
      exact ⟨by rw [HM.out]; rfl, hl⟩
    | true =>
      cases m2 with
      | false =>
        go_wp2_with fail
        go_ret
        exact ⟨by rw [HM.out]; rfl, hl⟩
      | true =>
        have C := Lib.hid (HN.out (by trivial) (by trivial))
        go_wp2_with fail
        refine (C.out _).mono ?_
        rintro e w3 ⟨rfl, b3⟩
        go_wp2
        go_ret
        exact ⟨by rw [HM.out]; rfl, New.trans hl b3⟩

end Go.Proofs.YtflaaahcoglflaaGreat
/- The contract of the answer's pageRight (layer 19). -/

namespace Go.Proofs.YtflaaahcoglflaaGreat
open Go Go.RowKit Go.Hm
set_option maxHeartbeats 12000000 in
set_option maxRecDepth 100000 in
theorem rpageRight_any {w : World} {c : ColS} {p : PageS} (hp : statFine p.2.2) :
    Calls Tryz.prog 52 #[colA c, pageA p] w (NewPost (.bool (pageB c.2.1 c.2.2 p 65536)) w) := by
  obtain ⟨nm, t, nu⟩ := c
  have SR := fun (W : World) => rsright_any (w := W) (t := t) hp
  clear hp
  obtain ⟨M, hM⟩ : ∃ M, M = pageB t nu p 65536 := ⟨_, rfl⟩
  dsimp only
  rw [← hM]
  unfold pageB at hM
  generalize rightS t p.2.2 = R at *
  obtain ⟨sz, rw, nn, bb, ⟨p1, p2, p3, p4, p5⟩, ⟨q1, q2, q3, q4, q5⟩⟩ := p
  dsimp only at hM SR
  have SR : Hid (∀ W, Calls Tryz.prog 51 #[.int .i64 t, .agg #[.int .i64 nn, .bool bb, .bool p1, .int .i64 p2, .string (bstr p3), .int .i64 p4, .int .i64 p5, .bool q1, .int .i64 q2, .string (bstr q3), .int .i64 q4, .int .i64 q5]] W (NewPost (.bool R) W)) := Lib.hid SR
  show Calls Tryz.prog 52 #[.agg #[.string (bstr nm), .int .i64 t, .bool nu], .agg #[.int .i64 sz, .int .i64 rw, .int .i64 nn, .bool bb, .bool p1, .int .i64 p2, .string (bstr p3), .int .i64 p4, .int .i64 p5, .bool q1, .int .i64 q2, .string (bstr q3), .int .i64 q4, .int .i64 q5]] w (NewPost (.bool M) w)
  have B0 := (Blk.new w 39 #[.string (bstr nm), .int .i64 t, .bool nu]).alloc (.cells #[.int .i64 sz, .int .i64 rw, .int .i64 nn, .bool bb, .bool p1, .int .i64 p2, .string (bstr p3), .int .i64 p4, .int .i64 p5, .bool q1, .int .i64 q2, .string (bstr q3), .int .i64 q4, .int .i64 q5] 41)
  have B1 := Blk.new (w.alloc (.cells #[.string (bstr nm), .int .i64 t, .bool nu] 39)) 41 #[.int .i64 sz, .int .i64 rw, .int .i64 nn, .bool bb, .bool p1, .int .i64 p2, .string (bstr p3), .int .i64 p4, .int .i64 p5, .bool q1, .int .i64 q2, .string (bstr q3), .int .i64 q4, .int .i64 q5]
  have b0 := new2 w (.cells #[.string (bstr nm), .int .i64 t, .bool nu] 39) (.cells #[.int .i64 sz, .int .i64 rw, .int .i64 nn, .bool bb, .bool p1, .int .i64 p2, .string (bstr p3), .int .i64 p4, .int .i64 p5, .bool q1, .int .i64 q2, .string (bstr q3), .int .i64 q4, .int .i64 q5] 41)
  simp only [World.size_alloc] at B1
  obtain ⟨x0, x1, x2, x3, x4, x5, x6, x7, x8, x9, x10, x11, x12, x13⟩ := cells14 B1
  obtain ⟨y0, y1, y2⟩ := ccells B0
  have HM := Lib.hid hM
  clear hM
  go_enter Tryz.func52, Tryz.ntmps52
  go_wp2_with fail
  refine (SR.out _).mono ?_
  rintro e w1 ⟨rfl, b1⟩
  have B0 := B0.below b1 B0.lt
  have B1 := B1.below b1 B1.lt
  have b01 := New.trans b0 b1
  clear x0 x1 x2 x3 x4 x5 x6 x7 x8 x9 x10 x11 x12 x13 y0 y1 y2 b0 b1 SR
  obtain ⟨x0, x1, x2, x3, x4, x5, x6, x7, x8, x9, x10, x11, x12, x13⟩ := cells14 B1
  obtain ⟨y0, y1, y2⟩ := ccells B0
  have hM := HM.out
  cases R with
  | false =>
    have e : M = false := by rw [hM]; split <;> simp
    subst e
    clear hM HM
    go_wp2
    go_ret
    exact ⟨rfl, b01⟩
  | true =>
    by_cases h1 : 1 ≤ rw
    all_goals try by_cases h2 : rw ≤ 65536
    all_goals try by_cases h3 : 1 ≤ sz
    all_goals try by_cases h4 : sz ≤ 268435456
    all_goals
      first
        | (have e : M = false := by rw [hM, if_pos (by omega)]
           subst e
           clear hM HM
           go_wp2
           go_ret
           exact ⟨rfl, b01⟩)
        | (rw [if_neg (by omega)] at hM
           clear HM
           have HM := Lib.hid hM
           clear hM
           generalize k1 : decide (nn ≤ rw) = d1 at *
           generalize k2 : decide (nn < rw) = d2 at *
           generalize k3 : decide (nn = 0) = d3 at *
           have k4 : (nn == 0) = d3 := by rw [← k3]; rfl
           cases d1 <;> cases d2 <;> cases d3 <;> cases bb <;> cases nu
           all_goals go_wp2
           all_goals
             first
               | (go_ret
                  exact ⟨by rw [HM.out]; rfl, b01⟩)
               | (exfalso; simp only [decide_eq_true_eq, decide_eq_false_iff_not, beq_iff_eq, beq_eq_false_iff_ne, ne_eq] at k1 k2 k3 k4; omega)
               | (exfalso; simp_all; done))

end Go.Proofs.YtflaaahcoglflaaGreat
/- The contract of the answer's chunk (layer 19). -/

namespace Go.Hm
open Go Go.RowKit
theorem Reads.page14s {w : World} {B n i : Nat} {ad : Addr} {l : List PageS} (h : Reads w B 14 (some ad) n (recs pageV l)) (hi : i < n) :
    w.cell? (ad.add (i * 14)) = some (.int .i64 (l.getD i pageZ).1) ∧ w.cell? ⟨(ad.add (i * 14)).block, (ad.add (i * 14)).off + 1, none⟩ = some (.int .i64 (l.getD i pageZ).2.1) ∧ w.cell? ⟨(ad.add (i * 14)).block, (ad.add (i * 14)).off + 2, none⟩ = some (.int .i64 (l.getD i pageZ).2.2.1) ∧ w.cell? ⟨(ad.add (i * 14)).block, (ad.add (i * 14)).off + 3, none⟩ = some (.bool (l.getD i pageZ).2.2.2.1) ∧ w.cell? ⟨(ad.add (i * 14)).block, (ad.add (i * 14)).off + 4, none⟩ = some (.bool (l.getD i pageZ).2.2.2.2.1.1) ∧ w.cell? ⟨(ad.add (i * 14)).block, (ad.add (i * 14)).off + 5, none⟩ = some (.int .i64 (l.getD i pageZ).2.2.2.2.1.2.1) ∧ w.cell? ⟨(ad.add (i * 14)).block, (ad.add (i * 14)).off + 6, none⟩ = some (.string (bstr (l.getD i pageZ).2.2.2.2.1.2.2.1)) ∧ w.cell? ⟨(ad.add (i * 14)).block, (ad.add (i * 14)).off + 7, none⟩ = some (.int .i64 (l.getD i pageZ).2.2.2.2.1.2.2.2.1) ∧ w.cell? ⟨(ad.add (i * 14)).block, (ad.add (i * 14)).off + 8, none⟩ = some (.int .i64 (l.getD i pageZ).2.2.2.2.1.2.2.2.2) ∧ w.cell? ⟨(ad.add (i * 14)).block, (ad.add (i * 14)).off + 9, none⟩ = some (.bool (l.getD i pageZ).2.2.2.2.2.1) ∧ w.cell? ⟨(ad.add (i * 14)).block, (ad.add (i * 14)).off + 10, none⟩ = some (.int .i64 (l.getD i pageZ).2.2.2.2.2.2.1) ∧ w.cell? ⟨(ad.add (i * 14)).block, (ad.add (i * 14)).off + 11, none⟩ = some (.string (bstr (l.getD i pageZ).2.2.2.2.2.2.2.1)) ∧ w.cell? ⟨(ad.add (i * 14)).block, (ad.add (i * 14)).off + 12, none⟩ = some (.int .i64 (l.getD i pageZ).2.2.2.2.2.2.2.2.1) ∧ w.cell? ⟨(ad.add (i * 14)).block, (ad.add (i * 14)).off + 13, none⟩ = some (.int .i64 (l.getD i pageZ).2.2.2.2.2.2.2.2.2) := by
  obtain ⟨ad', e, _, f⟩ := h.page14 hi
  injection e with e
  subst e
  exact f
/-- How many rows and bytes pages have together, as the answer reckons. -/
def rchunkS (t : Int) (nu : Bool) : List PageS → Int → Int → Int × Int
  | [], rows, size => (rows, size)
  | p :: l, rows, size => if pageB t nu p 65536 = true ∧ rows ≤ 65536 ∧ size ≤ 1073741824 then rchunkS t nu l (rows + p.2.1) (size + p.1) else (-1, -1)
theorem rchunkS_yes {t : Int} {nu : Bool} : ∀ (l : List PageS) (rows size : Int), (∀ p ∈ l, pageB t nu p 65536 = true) → rows + rowsL l ≤ 65536 → size + sizesL l ≤ 1073741824 → rchunkS t nu l rows size = (rows + rowsL l, size + sizesL l)
  | [], rows, size, _, _, _ => by simp [rchunkS, rowsL, sizesL]
  | p :: l, rows, size, h, h1, h2 => by
    have hp := h p (by simp)
    have hb := (pageB_most.1 hp).1
    have hl := rowsL_pos (l := l) fun q hq => h q (by simp [hq])
    rw [rowsL_cons] at h1 ⊢
    rw [sizesL_cons] at h2 ⊢
    unfold rchunkS
    rw [if_pos ⟨hp, by omega, by omega⟩, rchunkS_yes l _ _ (fun q hq => h q (by simp [hq])) (by omega) (by omega)]
    congr 1 <;> omega
theorem rchunkS_or {t : Int} {nu : Bool} : ∀ (l : List PageS) (rows size : Int), rchunkS t nu l rows size = (-1, -1) ∨ ((∀ p ∈ l, pageB t nu p 65536 = true) ∧ rchunkS t nu l rows size = (rows + rowsL l, size + sizesL l))
  | [], rows, size => .inr (by simp [rchunkS, rowsL, sizesL])
  | p :: l, rows, size => by
    unfold rchunkS
    split
    · rename_i hp
      rcases rchunkS_or (t := t) (nu := nu) l (rows + p.2.1) (size + p.1) with e | ⟨e1, e2⟩
      · exact .inl e
      · refine .inr ⟨fun q hq => ?_, ?_⟩
        · rcases List.mem_cons.1 hq with rfl | hq
          · exact hp.1
          · exact e1 q hq
        · rw [e2, rowsL_cons, sizesL_cons]
          congr 1 <;> omega
    · exact .inl rfl
theorem rchunkS_bound {t : Int} {nu : Bool} : ∀ (l : List PageS) (rows size : Int), 0 ≤ rows → rows ≤ 131072 → 0 ≤ size → size ≤ 1342177280 → -1 ≤ (rchunkS t nu l rows size).1 ∧ (rchunkS t nu l rows size).1 ≤ 131072 ∧ -1 ≤ (rchunkS t nu l rows size).2 ∧ (rchunkS t nu l rows size).2 ≤ 1342177280
  | [], rows, size, _, _, _, _ => by simp only [rchunkS]; omega
  | p :: l, rows, size, h1, h2, h3, h4 => by
    unfold rchunkS
    split
    · rename_i hp
      have h5 := (pageB_most.1 hp.1).1
      exact rchunkS_bound l _ _ (by omega) (by omega) (by omega) (by omega)
    · dsimp only; omega

end Go.Hm

namespace Go.Proofs.YtflaaahcoglflaaGreat
open Go.RowKit Go.Hm
def RSizePost (r : Int × Int) (w : World) (e : Ending) (w' : World) : Prop := e = .returned (.tuple #[.int .i64 r.1, .int .i64 r.2]) ∧ New w w'
set_option maxHeartbeats 4000000 in
set_option maxRecDepth 100000 in
theorem rchunk_any {w : World} {c : ColS} {A : Option Addr} {n cap : Nat} {l : List PageS} (h : Reads w w.heap.size 14 A n (recs pageV l)) (hl : ∀ p ∈ l, statFine p.2.2) (hn : n ≤ 4611686018427387903) :
    Calls Tryz.prog 41 #[colA c, .slice A n cap] w (RSizePost (rchunkS c.2.1 c.2.2 l 0 0) w) := by
  obtain rfl := h.lenPage
  obtain ⟨nm, t, nu⟩ := c
  have HR := Lib.hid h
  have HL := Lib.hid hl
  have HC := Lib.hid (show rchunkS t nu l 0 0 = rchunkS t nu (l.drop 0) 0 0 from rfl)
  clear h hl
  show Calls Tryz.prog 41 #[.agg #[.string (bstr nm), .int .i64 t, .bool nu], .slice A l.length cap] w (RSizePost (rchunkS t nu l 0 0) w)
  generalize hX : rchunkS t nu l 0 0 = X at *
  clear hX
  have B0 := Blk.new w 39 #[.string (bstr nm), .int .i64 t, .bool nu]
  have b0 : New w (w.alloc (.cells #[.string (bstr nm), .int .i64 t, .bool nu] 39)) := (Below.refl _ _).alloc (Nat.le_refl _) _
  go_enter Tryz.func41, Tryz.ntmps41
  go_wp2_with fail
  go_loopw [6, 7, 8] (fun r s i wr => ∃ (k : Nat) (rr ss : Int), k ≤ l.length ∧ i = .int .i64 (k : Int) ∧ r = .int .i64 rr ∧ s = .int .i64 ss ∧ Hid (X = rchunkS t nu (l.drop k) rr ss) ∧ (0 ≤ rr ∧ rr ≤ 131072) ∧ (0 ≤ ss ∧ ss ≤ 1342177280)
    ∧ Blk wr w.heap.size 39 #[.string (bstr nm), .int .i64 t, .bool nu] ∧ New w wr) (fun _ _ i _ => l.length - (intOf i).toNat)
  case atStart => exact ⟨0, 0, 0, Nat.zero_le _, rfl, rfl, rfl, HC, by omega, by omega, B0, b0⟩
  case round =>
    obtain ⟨k, rr, ss, hk, rfl, rfl, rfl, H, hrr, hss, B, b⟩ := hrel
    clear HC B0 b0
    by_cases hlt : k < l.length
    · have hd := drop_getD l k pageZ hlt
      have RP := fun (W : World) => rpageRight_any (w := W) (c := (nm, t, nu)) (p := l.getD k pageZ) (HL.out _ (mem_getDF pageZ hlt))
      have hst : rchunkS t nu (l.drop k) rr ss = if pageB t nu (l.getD k pageZ) 65536 = true ∧ rr ≤ 65536 ∧ ss ≤ 1073741824 then rchunkS t nu (l.drop (k + 1)) (rr + (l.getD k pageZ).2.1) (ss + (l.getD k pageZ).1) else (-1, -1) := by rw [hd]; rfl
      rw [← H.out] at hst
      have hok := fun (e : pageB t nu (l.getD k pageZ) 65536 = true) => (pageB_most.1 e).1
      have FP := fun (W : World) (hW : New w W) => (Reads.later HR.out hW).page14 hlt
      obtain ⟨ad, rfl, -⟩ := FP _ b
      have FP := fun (W : World) (hW : New w W) => (Reads.later HR.out hW).page14s hlt
      clear hd H
      dsimp only at RP
      generalize pageB t nu (l.getD k pageZ) 65536 = R at *
      generalize l.getD k pageZ = p at *
      obtain ⟨sz, rw, nn, bb, ⟨p1, p2, p3, p4, p5⟩, ⟨q1, q2, q3, q4, q5⟩⟩ := p
      dsimp only at hst hok FP
      have RP : Hid (∀ W, Calls Tryz.prog 52 #[.agg #[.string (bstr nm), .int .i64 t, .bool nu], .agg #[.int .i64 sz, .int .i64 rw, .int .i64 nn, .bool bb, .bool p1, .int .i64 p2, .string (bstr p3), .int .i64 p4, .int .i64 p5, .bool q1, .int .i64 q2, .string (bstr q3), .int .i64 q4, .int .i64 q5]] W (NewPost (.bool R) W)) := Lib.hid RP
      have HST := Lib.hid hst
      have FP := Lib.hid FP
      clear hst
      go_wp2_with fail
      refine wp_region_up New [(true, 0), (true, 1), (true, 2), (true, 3), (true, 4), (false, 5), (true, 6)]
        New.refl New.trans (by kernel_rfl) (by kernel_rfl) (by kernel_rfl) (by kernel_rfl) ?_
      have F := Lib.hid (fun (W : World) (hW : New wr W) => B.below hW B.lt)
      have hU := New.drew wr
      repeat (first
        | (refine up_quiet rfl rfl (v := ?_) (fun W hQ => ?_) ?_; rotate_left; (obtain ⟨d0, d1, d2, d3, d4, d5, d6, d7, d8, d9, d10, d11, d12, d13⟩ := FP.out W (New.trans b (New.trans hU hQ)); obtain ⟨y0, y1, y2⟩ := ccells (F.out W (New.trans hU hQ)); go_simp <;> with_reducible rfl); simp only [Act.put, List.setIfInBounds_toArray, List.set_cons_zero, List.set_cons_succ]))
      refine up_call rfl rfl (fun K0 hK0 => ?_)
      go_simp
      (with_reducible refine (RP.out _).mono ?_)
      rintro e u ⟨rfl, bu⟩
      refine hK0 _ _ bu ?_
      replace hU := New.trans hU bu
      clear hK0 bu
      repeat (first
        | (refine up_quiet rfl rfl (v := ?_) (fun W hQ => ?_) ?_; rotate_left; (go_simp <;> with_reducible rfl); simp only [Act.put, List.setIfInBounds_toArray, List.set_cons_zero, List.set_cons_succ]))
      refine up_nil ?_
      have B3 := F.out _ hU
      have b3 := New.trans b hU
      obtain ⟨d0, d1, d2, d3, d4, d5, d6, d7, d8, d9, d10, d11, d12, d13⟩ := FP.out _ b3
      clear F hU B RP FP
      by_cases hgo : R = true ∧ rr ≤ 65536 ∧ ss ≤ 1073741824
      · have hX := HST.out
        rw [if_pos hgo] at hX
        have HX := Lib.hid hX
        obtain ⟨rfl, hg1, hg2⟩ := hgo
        have hok := hok rfl
        clear hX HST
        go_wp2_with fail
        go_roundw
        case rel => exact ⟨k + 1, rr + rw, ss + sz, by omega, by go_num, rfl, rfl, HX, by omega, by omega, B3, b3⟩
        case measure => simp [intOf]; omega
      · have hX := HST.out
        rw [if_neg hgo] at hX
        have HX := Lib.hid hX
        clear hX HST hok
        have hex : R = false ∨ (R = true ∧ 65536 < rr) ∨ (R = true ∧ rr ≤ 65536 ∧ 1073741824 < ss) := by
          cases R with
          | false => exact .inl rfl
          | true =>
            by_cases e : rr ≤ 65536
            · exact .inr (.inr ⟨rfl, e, by have : ¬ ss ≤ 1073741824 := fun h => hgo ⟨rfl, e, h⟩; omega⟩)
            · exact .inr (.inl ⟨rfl, by omega⟩)
        clear hgo
        rcases hex with rfl | ⟨rfl, h1⟩ | ⟨rfl, h1, h2⟩
        all_goals
          go_wp2_with fail
          go_ret2
          rw [HX.out]
          exact ⟨rfl, b3⟩
    · obtain rfl : k = l.length := by omega
      have hX := H.out
      rw [List.drop_length] at hX
      have HX := Lib.hid hX
      clear hX H
      go_wp2_with fail
      go_ret2
      rw [HX.out]
      exact ⟨rfl, b⟩

end Go.Proofs.YtflaaahcoglflaaGreat
/- Contracts on columns: the answer's Cols and Schema. -/

namespace Go.Proofs.YtflaaahcoglflaaGreat
open Go.RowKit Go.Hm

set_option maxHeartbeats 1000000 in
theorem schemaEq_any {w : World} {A A2 : Option Addr} {n c n2 c2 : Nat} {l : List ColS} (h : Reads w w.heap.size 3 A n (recs colV l)) (h2 : Reads w w.heap.size 3 A2 n2 (recs colV l)) (hn : n ≤ 4611686018427387903) :
    Calls Tryz.prog 23 #[.slice A n c, .slice A2 n2 c2] w (NewPost (.bool true) w) := by
  obtain rfl := h.lenC
  obtain rfl := h2.lenC
  go_enter Tryz.func23, Tryz.ntmps23
  go_wp2
  go_loopw [5] (fun z wr => ∃ (k q : Nat), z = .int .i64 (k : Int) ∧ k ≤ l.length ∧ wr = w.drewN q) (fun z _ => l.length - (intOf z).toNat)
  case atStart => exact ⟨0, 0, rfl, by omega, rfl⟩
  case round =>
    obtain ⟨k, q, rfl, hk, rfl⟩ := hrel
    by_cases hlt : k < l.length
    · obtain ⟨ad, rfl, hb, h3, h4, h5⟩ := (h.drewN q).colT hlt
      obtain ⟨ad2, rfl, hb2, h6, h7, h8⟩ := (h2.drewN q).colT hlt
      generalize (l.getD k ([], 0, false)).1 = y1 at *
      generalize (l.getD k ([], 0, false)).2.1 = y2 at *
      generalize (l.getD k ([], 0, false)).2.2 = y3 at *
      have hiz : (k : Int) < (l.length : Int) := by omega
      have hbb : (ad.add (k * 3)).block < (w.drewN q).drew.heap.size := by rw [block_of_add]; exact hb
      have hbb2 : (ad2.add (k * 3)).block < (w.drewN q).drew.heap.size := by rw [block_of_add]; exact hb2
      have C1 := Lib.hid (cell_new h3 hbb)
      have C2 := Lib.hid (cell_new h4 hbb)
      have C3 := Lib.hid (cell_new h5 hbb)
      have C4 := Lib.hid (cell_new h6 hbb2)
      have C5 := Lib.hid (cell_new h7 hbb2)
      have C6 := Lib.hid (cell_new h8 hbb2)
      go_wp2_with fail
      refine wp_region_up New [(true, 0), (true, 1), (true, 2), (true, 3), (true, 4), (true, 5), (true, 6), (true, 7), (true, 8)]
        New.refl New.trans (by kernel_rfl) (by kernel_rfl) (by kernel_rfl) (by kernel_rfl) ?_
      repeat (first
        | (refine up_quiet rfl rfl (v := ?_) (fun W hW => ?_) ?_; rotate_left; (have g1 := C1.out W hW; have g2 := C2.out W hW; have g3 := C3.out W hW; have g4 := C4.out W hW; have g5 := C5.out W hW; have g6 := C6.out W hW; go_simp <;> with_reducible rfl); simp only [Act.put, List.setIfInBounds_toArray, List.set_cons_zero, List.set_cons_succ]))
      refine up_nil ?_
      go_wp2
      go_roundw
      case rel => exact ⟨k + 1, q + 1, by go_num, by omega, rfl⟩
      case measure => simp [intOf]; omega
    · go_wp2
      go_ret
      exact ⟨rfl, new_drewN _ _⟩

set_option maxHeartbeats 4000000 in
set_option maxRecDepth 100000 in
theorem rcols_any {w : World} {A : Option Addr} {n c : Nat} {L : List ColS} (h : Reads w w.heap.size 3 A n (recs colV L)) (hL : ∀ x ∈ L, (∀ z ∈ x.1, z < 256) ∧ x.1.length ≤ 140737488351232) (hn : n ≤ 4611686018427387903) :
    Calls Tryz.prog 38 #[.slice A n c] w (NewPost (.int .i64 (colsCk L)) w) := by
  obtain rfl := h.lenC
  by_cases hm : 64 < L.length
  · rw [colsCk_many hm]
    go_enter Tryz.func38, Tryz.ntmps38
    go_wp2
    go_ret
    exact ⟨rfl, New.refl _⟩
  · have HO := Lib.hid (colsCk_few hm)
    generalize colsCk L = O at *
    go_enter Tryz.func38, Tryz.ntmps38
    go_wp2
    go_loopw [3] (fun i wr => ∃ k q : Nat, i = .int .i64 (k : Int) ∧ k ≤ L.length ∧ wr = w.drewN q ∧ Hid (O = colsGo (L.take k) (L.drop k))) (fun i _ => L.length - (intOf i).toNat)
    case atStart => exact ⟨0, 0, rfl, by omega, rfl, HO⟩
    case round =>
      obtain ⟨k, q, rfl, hk, rfl, H⟩ := hrel
      by_cases hlt : k < L.length
      · obtain ⟨ad, rfl, hbk, c0, c1, c2⟩ := (h.drewN q).colT hlt
        have hx : (L.getD k ([], 0, false)) ∈ L := by rw [List.getD_eq_getElem?_getD, List.getElem?_eq_getElem hlt]; exact List.getElem_mem hlt
        obtain ⟨y1, y2⟩ := hL _ hx
        have S := H.out
        rw [colsGo_step L k hlt] at S
        have HS := Lib.hid S
        have ck1 := Lib.hid (fun (hh : nameBad (L.take k) (nm L k)) => show colCk (L.take k) (nm L k) (L.getD k ([], 0, false)).2.1 = 1 by rw [colCk, if_pos hh])
        have ck2 := Lib.hid (fun (hh : ¬ nameBad (L.take k) (nm L k)) => show colCk (L.take k) (nm L k) (L.getD k ([], 0, false)).2.1 = if 0 ≤ (L.getD k ([], 0, false)).2.1 ∧ (L.getD k ([], 0, false)).2.1 ≤ 3 then 0 else 3 by rw [colCk, if_neg hh])
        generalize colCk (L.take k) (nm L k) (L.getD k ([], 0, false)).2.1 = ck at *
        unfold nm at *
        have LL := Lib.hid (show ∀ j, j < L.length → ∀ z ∈ (L.getD j ([], 0, false)).1, z < 256 from fun j hj => (hL _ (by rw [List.getD_eq_getElem?_getD, List.getElem?_eq_getElem hj]; exact List.getElem_mem hj)).1)
        have Y1 := Lib.hid y1
        generalize hs2 : (L.getD k ([], 0, false)).1 = s2 at *
        generalize ht2 : (L.getD k ([], 0, false)).2.1 = t2 at *
        have HT2 := Lib.hid ht2
        generalize (L.getD k ([], 0, false)).2.2 = n2 at *
        clear ht2
        have HSS := Lib.hid hs2
        have z1 := bstr_size s2
        clear S H hx hs2 y1 hL
        have hiz : (k : Int) < (L.length : Int) := by omega
        have g0 : (bstr s2).toList.isEmpty = decide (s2.length = 0) := by
          rw [bstr_toList]
          cases s2 <;> simp
        have hcb : s2.length = 0 ∨ (¬ s2.length = 0 ∧ 100 < s2.length) ∨ (¬ s2.length = 0 ∧ ¬ 100 < s2.length) := by omega
        rcases hcb with hb | ⟨hb, hb2⟩ | ⟨hb, hb2⟩
        case' inl => have HI := Lib.hid (show true = decide (nameBad (L.take 0) s2) from (decide_eq_true (Or.inl hb)).symm)
        case' inr.inl => have HI := Lib.hid (show true = decide (nameBad (L.take 0) s2) from (decide_eq_true (Or.inr (Or.inl hb2))).symm)
        case' inr.inr => have HI := Lib.hid (show false = decide (nameBad (L.take 0) s2) from (decide_eq_false (by
          rintro (h' | h' | h')
          · exact hb h'
          · exact hb2 h'
          · simp at h')).symm)
        all_goals
          first
            | (rw [decide_eq_true hb] at g0; have g1 : (bstr s2).toList = [] := by simpa using g0)
            | (rw [decide_eq_false hb] at g0; have g1 : ¬ (bstr s2).toList = [] := by simpa using g0)
          try (have g2 : decide (100 < (s2.length : Int)) = true := by simp; omega)
          try (have g2 : decide (100 < (s2.length : Int)) = false := by simp; omega)
          clear hb
          go_wp2
          clear g0 g1
          go_loopw [4, 5] (fun v i wr => ∃ (j q' : Nat) (bb : Bool), i = .int .i64 (j : Int) ∧ j ≤ k ∧ v = .bool bb ∧ wr = w.drewN q' ∧ Hid (bb = decide (nameBad (L.take j) s2))) (fun _ i _ => k - (intOf i).toNat)
          case atStart => exact ⟨0, q, _, rfl, by omega, rfl, rfl, HI⟩
          case round =>
            obtain ⟨j, q', bb, rfl, hj, rfl, rfl, HJ⟩ := hrel
            by_cases hlj : j < k
            · have NS := Lib.hid (nameBad_succ (s := s2) (show j < L.length by omega))
              obtain ⟨ad1, e1, hbk1, c01, _, _⟩ := (h.drewN q').colT (show j < L.length by omega)
              injection e1 with e1
              subst e1
              obtain ⟨ad2, e2, hbk2, c02, _, _⟩ := (h.drewN q').colT hlt
              injection e2 with e2
              subst e2
              rw [HSS.out] at c02
              have hq := strB (L.getD j ([], 0, false)).1 s2 (LL.out j (by omega)) Y1.out
              unfold nm at NS
              generalize (L.getD j ([], 0, false)).1 = s3 at *
              have hiz1 : (j : Int) < (L.length : Int) := by omega
              have hbx : (ad.add (j * 3)).block < (w.drewN q').drew.heap.size := by rw [block_of_add]; exact hbk
              have hbx2 : (ad.add (k * 3)).block < (w.drewN q').drew.heap.size := by rw [block_of_add]; exact hbk
              have C1 := Lib.hid (cell_new c01 hbx)
              have C2 := Lib.hid (cell_new c02 hbx2)
              have hcc : bb = true ∨ (bb = false ∧ s3 = s2) ∨ (bb = false ∧ ¬ s3 = s2) := by
                cases bb
                · by_cases he : s3 = s2
                  · exact .inr (.inl ⟨rfl, he⟩)
                  · exact .inr (.inr ⟨rfl, he⟩)
                · exact .inl rfl
              rcases hcc with rfl | ⟨rfl, he⟩ | ⟨rfl, he⟩
              · have HN := Lib.hid (show true = decide (nameBad (L.take (j + 1)) s2) by
                  rw [eq_comm, decide_eq_true_eq, NS.out]
                  exact .inl (of_decide_eq_true HJ.out.symm))
                go_wp2_with fail
                refine wp_region_up New [(true, 0), (true, 1), (true, 2), (true, 3), (true, 4), (true, 5), (true, 6), (true, 7), (true, 8), (true, 9), (true, 10), (true, 11), (true, 12), (true, 13), (true, 14)]
                  New.refl New.trans (by kernel_rfl) (by kernel_rfl) (by kernel_rfl) (by kernel_rfl) ?_
                repeat (first
                  | (refine up_skip rfl rfl ?_; simp only [Act.put, List.setIfInBounds_toArray, List.set_cons_zero, List.set_cons_succ])
                  | (refine up_quiet rfl rfl (v := ?_) (fun W hW => ?_) ?_; rotate_left; (go_simp <;> with_reducible rfl); simp only [Act.put, List.setIfInBounds_toArray, List.set_cons_zero, List.set_cons_succ]))
                refine up_nil ?_
                go_wp2
                go_roundw
                case rel => exact ⟨j + 1, q' + 1, true, by go_num, by omega, rfl, rfl, HN⟩
                case measure => simp [intOf]; omega
              · have HN := Lib.hid (show true = decide (nameBad (L.take (j + 1)) s2) by
                  rw [eq_comm, decide_eq_true_eq, NS.out]
                  exact .inr he)
                rw [decide_eq_true he] at hq
                clear he
                go_wp2_with fail
                refine wp_region_up New [(true, 0), (true, 1), (true, 2), (true, 3), (true, 4), (true, 5), (true, 6), (true, 7), (true, 8), (true, 9), (true, 10), (true, 11), (true, 12), (true, 13), (true, 14)]
                  New.refl New.trans (by kernel_rfl) (by kernel_rfl) (by kernel_rfl) (by kernel_rfl) ?_
                repeat (first
                  | (refine up_quiet rfl rfl (v := ?_) (fun W hW => ?_) ?_; rotate_left; (have g1 := C1.out W hW; have g2 := C2.out W hW; go_simp <;> with_reducible rfl); simp only [Act.put, List.setIfInBounds_toArray, List.set_cons_zero, List.set_cons_succ]))
                refine up_nil ?_
                go_wp2
                go_roundw
                case rel => exact ⟨j + 1, q' + 1, true, by go_num, by omega, rfl, rfl, HN⟩
                case measure => simp [intOf]; omega
              · have HN := Lib.hid (show false = decide (nameBad (L.take (j + 1)) s2) by
                  rw [eq_comm, decide_eq_false_iff_not, NS.out]
                  rintro (hh | hh)
                  · exact of_decide_eq_false HJ.out.symm hh
                  · exact he hh)
                rw [decide_eq_false he] at hq
                clear he
                go_wp2_with fail
                refine wp_region_up New [(true, 0), (true, 1), (true, 2), (true, 3), (true, 4), (true, 5), (true, 6), (true, 7), (true, 8), (true, 9), (true, 10), (true, 11), (true, 12), (true, 13), (true, 14)]
                  New.refl New.trans (by kernel_rfl) (by kernel_rfl) (by kernel_rfl) (by kernel_rfl) ?_
                repeat (first
                  | (refine up_quiet rfl rfl (v := ?_) (fun W hW => ?_) ?_; rotate_left; (have g1 := C1.out W hW; have g2 := C2.out W hW; go_simp <;> with_reducible rfl); simp only [Act.put, List.setIfInBounds_toArray, List.set_cons_zero, List.set_cons_succ]))
                refine up_nil ?_
                go_wp2
                go_roundw
                case rel => exact ⟨j + 1, q' + 1, false, by go_num, by omega, rfl, rfl, HN⟩
                case measure => simp [intOf]; omega
            · obtain rfl : j = k := by omega
              obtain ⟨ad1, e1, hbk1, c01, c02, _⟩ := (h.drewN q').colT hlt
              injection e1 with e1
              subst e1
              rw [HT2.out] at c02
              have HJ := HJ.out
              cases bb
              · have hnb := of_decide_eq_false HJ.symm
                have hck := ck2.out hnb
                clear HJ hnb
                by_cases ht : 0 ≤ t2 ∧ t2 ≤ 3
                · rw [if_pos ht] at hck
                  have HN := Lib.hid (show O = colsGo (L.take (j + 1)) (L.drop (j + 1)) by rw [HS.out, if_pos hck])
                  have g3 : decide (t2 < 0) = false := by simp; omega
                  have g4 : decide (3 < t2) = false := by simp; omega
                  clear hck HS ck1 ck2 ht
                  go_wp2
                  go_roundw
                  case rel => exact ⟨j + 1, q', by go_num, by omega, rfl, HN⟩
                  case measure => simp [intOf]; omega
                · rw [if_neg ht] at hck
                  have HN := Lib.hid (show O = 3 by rw [HS.out, hck, if_neg (by omega)])
                  have ht2 : t2 < 0 ∨ (¬ t2 < 0 ∧ 3 < t2) := by omega
                  clear hck HS ck1 ck2 ht
                  rcases ht2 with ht2 | ⟨ht2, ht3⟩
                  · go_wp2
                    go_ret
                    exact ⟨by rw [HN.out]; rfl, new_drewN _ _⟩
                  · have g3 : decide (t2 < 0) = false := decide_eq_false ht2
                    go_wp2
                    go_ret
                    exact ⟨by rw [HN.out]; rfl, new_drewN _ _⟩
              · have hnb := of_decide_eq_true HJ.symm
                have hck := ck1.out hnb
                have HN := Lib.hid (show O = 1 by rw [HS.out, hck, if_neg (by omega)])
                clear HJ hnb hck HS ck1 ck2
                go_wp2
                go_ret
                exact ⟨by rw [HN.out]; rfl, new_drewN _ _⟩
      · obtain rfl : k = L.length := by omega
        have HS2 := Lib.hid (show O = 0 by rw [H.out, colsGo_end])
        go_wp2
        go_ret
        exact ⟨by rw [HS2.out]; rfl, new_drewN _ _⟩

end Go.Proofs.YtflaaahcoglflaaGreat
