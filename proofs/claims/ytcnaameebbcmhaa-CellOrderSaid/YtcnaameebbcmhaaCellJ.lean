/- Contract on cell.Project. -/
import Derived.Test.YtcnaameebbcmhaaCellN
import Derived.Test.YtcnaameebbcmhaaCellP
import Derived.Deep.DeepCutAuto
import Derived.RegionTactic
import Derived.BigRegion
import Derived.StillTailTactics

namespace Go.Proofs.Ytcnaameebbcmhaa
open Go.RowKit Go.Hm
theorem elCol7 : ElT Try.prog 32 27 (.agg #[.string ⟨#[]⟩, .int .i64 0, .bool false]) 3 32 := ⟨by kernel_rfl, by kernel_rfl, rfl, by omega⟩
theorem elData : ElT Try.prog 33 44 (.slice none 0 0) 1 24 := ⟨by kernel_rfl, by kernel_rfl, rfl, by omega⟩
theorem store3n {w w' : World} {g : Nat} {ty : TypeId} {x y z a b c : Value} (h : Blk w' g ty #[x, y, z]) (hb : New w w') (hg : w.heap.size ≤ g) :
    ∃ W3, W3 = (((w'.setCell ⟨g, 0, none⟩ a).setCell ⟨g, 1, none⟩ b).setCell ⟨g, 2, none⟩ c) ∧ Blk W3 g ty #[a, b, c] ∧ New w W3 :=
  ⟨_, rfl, by simpa using ((h.set_ 0 a).set_ 1 b).set_ 2 c, ((hb.setCell hg _).setCell hg _).setCell hg _⟩

section
variable {w : World} {ca cb cc : Array Value} {ea eb ec : TypeId}
theorem a3a : Blk (((w.alloc (.cells ca ea)).alloc (.cells cb eb)).alloc (.cells cc ec)).drew w.heap.size ea ca := (((Blk.new w ea ca).alloc _).alloc _).drewN 1
theorem a3b : Blk (((w.alloc (.cells ca ea)).alloc (.cells cb eb)).alloc (.cells cc ec)).drew (w.heap.size + 1) eb cb := by
  have h := ((Blk.new (w.alloc (.cells ca ea)) eb cb).alloc (.cells cc ec)).drewN 1
  have e : (w.alloc (.cells ca ea)).heap.size = w.heap.size + 1 := by simp
  rw [e] at h
  exact h
theorem a3c : Blk (((w.alloc (.cells ca ea)).alloc (.cells cb eb)).alloc (.cells cc ec)).drew (w.heap.size + 1 + 1) ec cc := by
  have h := (Blk.new ((w.alloc (.cells ca ea)).alloc (.cells cb eb)) ec cc).drewN 1
  have e : ((w.alloc (.cells ca ea)).alloc (.cells cb eb)).heap.size = w.heap.size + 1 + 1 := by simp
  rw [e] at h
  exact h
theorem mem_getDJ {α : Type} {l : List α} {k : Nat} (d : α) (h : k < l.length) : l.getD k d ∈ l := by
  rw [List.getD_eq_getElem?_getD, List.getElem?_eq_getElem h]
  exact List.getElem_mem h
theorem recs_set1 {D R : List ColD} {d x : ColD} {k : Nat} (h : D.length = k) : (recs dataV (D ++ d :: R)).set k (.slice x.1 x.2.2.length x.2.1) = recs dataV ((D ++ [x]) ++ R) := by
  rw [recs_append, recs_cons, recs_append, recs_append, recs_cons, recs_nil, List.append_nil, List.append_assoc]
  have hl : (recs dataV D).length = k := by rw [recs_length (sz := 1) (fun _ => rfl), h, Nat.mul_one]
  rw [List.set_append_right _ _ (by omega), hl, Nat.sub_self]
  rfl
theorem store3b {w w' : World} {g : Nat} {ty : TypeId} {x y z a b c : Value} (h : Blk w' g ty #[x, y, z]) (hb : New w w') (hg : w.heap.size ≤ g) :
    ∃ W3, W3 = (((w'.setCell ⟨g, 0, none⟩ a).setCell ⟨g, 1, none⟩ b).setCell ⟨g, 2, none⟩ c) ∧ Blk W3 g ty #[a, b, c] ∧ New w W3 ∧ w'.grownBy W3 (some g) :=
  ⟨_, rfl, by simpa using ((h.set_ 0 a).set_ 1 b).set_ 2 c, ((hb.setCell hg _).setCell hg _).setCell hg _, rfl, rfl, rfl, by simp [World.setCell], fun k _ hk => by
    have hk' : k ≠ g := by simpa using hk
    rw [Below.heap_setCell _ _ _ _ hk', Below.heap_setCell _ _ _ _ hk', Below.heap_setCell _ _ _ _ hk']⟩
theorem le0 (n : Nat) : n ≤ n := Nat.le_refl n
theorem le1 (n : Nat) : n ≤ n + 1 := Nat.le_succ n
theorem le2 (n : Nat) : n ≤ n + 1 + 1 := by omega
theorem a3n : New w (((w.alloc (.cells ca ea)).alloc (.cells cb eb)).alloc (.cells cc ec)).drew :=
  New.trans (New.trans (New.trans ((Below.refl _ _).alloc (Nat.le_refl _) _) ((Below.refl _ _).alloc (Nat.le_refl _) _)) ((Below.refl _ _).alloc (Nat.le_refl _) _)) (New.drew _)
end
/-- Rows of cells of the call's own. -/
def RowsIn (w : World) (B : Nat) (D : List ColD) : Prop := ∀ d ∈ D, w.ownsRow B 25 5 (.slice d.1 d.2.2.length d.2.1) d.2.2.length (recs cellV d.2.2)
theorem RowsIn.later {w w' : World} {B : Nat} {D : List ColD} (h : RowsIn w B D) (hb : New w w') : RowsIn w' B D := fun d hd => row_later (h d hd) hb
theorem RowsIn.base {w : World} {B B' : Nat} {D : List ColD} (h : RowsIn w B D) (hb : B' ≤ B) : RowsIn w B' D := fun d hd => row_base (h d hd) hb
theorem RowsIn.keepT {w w' : World} {B g : Nat} {t : TypeId} {cs : Array Value} {D : List ColD} (h : RowsIn w B D) (hT : Blk w g t cs) (hne : 25 ≠ t) (hg : w.grownBy w' (some g)) : RowsIn w' B D := fun d hd => World.ownsRow.kept (h d hd) hg (.inr (row_blk_ne (h d hd) hT hne))
theorem RowsIn.snoc {w : World} {B : Nat} {D : List ColD} {d : ColD} (h : RowsIn w B D) (hd : w.ownsRow B 25 5 (.slice d.1 d.2.2.length d.2.1) d.2.2.length (recs cellV d.2.2)) : RowsIn w B (D ++ [d]) := by
  intro x hx
  rcases List.mem_append.1 hx with hx | hx
  · exact h x hx
  · obtain rfl := List.mem_singleton.1 hx
    exact hd
/-- A table of the call's own. -/
def TabPost (er : Int) (L : List ColS) (r : Int) (C : List (List CellS)) (w : World) (e : Ending) (w' : World) : Prop :=
  ∃ (Ac Ad : Option Addr) (cc cd : Nat) (D : List ColD), e = .returned (.tuple #[.agg #[.slice Ac L.length cc, .int .i64 r, .slice Ad D.length cd], .int .i64 er]) ∧
    w'.ownsRow w.heap.size 27 3 (.slice Ac L.length cc) L.length (recs colV L) ∧ w'.ownsRow w.heap.size 44 1 (.slice Ad D.length cd) D.length (recs dataV D) ∧ RowsIn w' w.heap.size D ∧ D.map (·.2.2) = C ∧ New w w'
def projL (er : Int) (L : List ColS) (l : List Int) : List ColS := if er = 0 then l.map (fun c => L.getD c.toNat ([], 0, false)) else []
def projR (er fr to_ : Int) : Int := if er = 0 then to_ - fr else 0
def cutC (D : List ColD) (fr to_ c : Int) : List CellS := ((D.getD c.toNat (none, 0, [])).2.2.drop fr.toNat).take (to_ - fr).toNat
def projC (er : Int) (D : List ColD) (l : List Int) (fr to_ : Int) : List (List CellS) := if er = 0 then l.map (cutC D fr to_) else []
/-- What cell.Project answers: nothing, or a table of its own. -/
def ProjPost (er : Int) (L : List ColS) (D : List ColD) (l : List Int) (fr to_ : Int) (w : World) (e : Ending) (w' : World) : Prop :=
  (er ≠ 0 ∧ e = .returned (.tuple #[.agg #[.slice none 0 0, .int .i64 0, .slice none 0 0], .int .i64 er]) ∧ New w w') ∨ (er = 0 ∧ TabPost 0 (l.map (fun c => L.getD c.toNat ([], 0, false))) (to_ - fr) (l.map (cutC D fr to_)) w e w')
theorem ProjPost.u {er : Int} {L : List ColS} {D : List ColD} {l : List Int} {fr to_ : Int} {w w' : World} {e : Ending} (h : ProjPost er L D l fr to_ w e w') : TabPost er (projL er L l) (projR er fr to_) (projC er D l fr to_) w e w' := by
  rcases h with ⟨h1, rfl, h2⟩ | ⟨rfl, h⟩
  · rw [projL, projR, projC, if_neg h1, if_neg h1, if_neg h1]
    exact ⟨none, none, 0, 0, [], rfl, row_nil, row_nil, fun _ hd => absurd hd (by simp), rfl, h2⟩
  · exact h
theorem tab_shape {L : List ColS} {r : Int} {D : List ColD} (h : tabCk L r D = 0) : D.length = L.length ∧ 0 ≤ r ∧ r ≤ 65536 ∧ L.length ≤ 64 ∧ ∀ d ∈ D, ((d.2.2.length : Nat) : Int) = r := by
  unfold tabCk at h
  split at h
  · rename_i h1; exact absurd h h1
  · rename_i h1
    split at h
    · rename_i h2; exact absurd h h2
    · rename_i h2
      obtain ⟨a, b, c, d⟩ := shape_len (Classical.not_not.1 h2)
      refine ⟨a, b, c, ?_, d⟩
      have h3 := Classical.not_not.1 h1
      unfold colsCk at h3
      split at h3
      · cases h3
      · omega
def projEr (L : List ColS) (r : Int) (D : List ColD) (l : List Int) (from_ to_ : Int) : Int :=
  if tabCk L r D ≠ 0 then tabCk L r D else if ¬ (placesB l L.length = true) ∨ from_ < 0 ∨ from_ > to_ ∨ to_ > r then 7 else 0
set_option maxHeartbeats 4000000 in
set_option maxRecDepth 100000 in
theorem project_any {w : World} {Ac : Option Addr} {nc cc : Nat} {L : List ColS} {r : Int} {Ad : Option Addr} {nd cd : Nat} {D : List ColD} {Al : Option Addr} {nl cl : Nat} {l : List Int} {fr to_ : Int}
    (h1 : Reads w w.heap.size 3 Ac nc (recs colV L)) (hL : ∀ x ∈ L, (∀ z ∈ x.1, z < 256) ∧ x.1.length ≤ 140737488351232) (hc : nc ≤ cc) (hn : nc ≤ 4611686018427387903)
    (h : Reads w w.heap.size 1 Ad nd (recs dataV D)) (hnd : nd ≤ 4611686018427387903) (hD : DataIn w w.heap.size D)
    (hl : Reads w w.heap.size 1 Al nl (ints .i64 l)) (hcl : nl ≤ cl) (hnl : nl ≤ 100000) (hb : fr ≤ 9223372036854775807 ∧ -9223372036854775808 ≤ fr ∧ to_ ≤ 9223372036854775807 ∧ -9223372036854775808 ≤ to_) :
    Calls Try.prog 19 #[.agg #[.slice Ac nc cc, .int .i64 r, .slice Ad nd cd], .slice Al nl cl, .int .i64 fr, .int .i64 to_] w (ProjPost (projEr L r D l fr to_) L D l fr to_ w) := by
  obtain rfl := h1.lenC
  obtain rfl := h.lenD
  obtain rfl := hl.lenI
  have K1 := Lib.hid (fun (hh : tabCk L r D ≠ 0) => show projEr L r D l fr to_ = tabCk L r D by rw [projEr, if_pos hh])
  have K2 := Lib.hid (fun (hh : tabCk L r D = 0) (h2 : ¬ (placesB l L.length = true) ∨ fr < 0 ∨ fr > to_ ∨ to_ > r) => show projEr L r D l fr to_ = 7 by rw [projEr, if_neg (by simpa using hh), if_pos h2])
  have K3 := Lib.hid (fun (hh : tabCk L r D = 0) (h2 : ¬ (¬ (placesB l L.length = true) ∨ fr < 0 ∨ fr > to_ ∨ to_ > r)) => show projEr L r D l fr to_ = 0 by rw [projEr, if_neg (by simpa using hh), if_neg h2])
  generalize projEr L r D l fr to_ = O at *
  obtain ⟨W0, hW0⟩ : ∃ W, W = w.alloc (.cells #[.slice Ac L.length cc, .int .i64 r, .slice Ad D.length cd] 35) := ⟨_, rfl⟩
  have b0 : New w W0 := by rw [hW0]; exact (Below.refl _ _).alloc (Nat.le_refl _) _
  have B0 : Blk W0 w.heap.size 35 #[.slice Ac L.length cc, .int .i64 r, .slice Ad D.length cd] := by rw [hW0]; exact Blk.new _ _ _
  obtain ⟨W1, hW1⟩ : ∃ W, W = W0.alloc (.cells #[.slice none 0 0, .int .i64 0, .slice none 0 0] 35) := ⟨_, rfl⟩
  have b1 : New W0 W1 := by rw [hW1]; exact (Below.refl _ _).alloc (Nat.le_refl _) _
  have B1 : Blk W1 W0.heap.size 35 #[.slice none 0 0, .int .i64 0, .slice none 0 0] := by rw [hW1]; exact Blk.new _ _ _
  have b01 := New.trans b0 b1
  have P1 := Lib.hid (check_any (cd := cd) (r := r) (Reads.later h1 b01) hL hc hn (Reads.later h b01) hnd (hD.later b01))
  have P2 := Lib.hid (fun (W : World) (hW : New W1 W) => places_any (m := L.length) (Reads.later hl (New.trans b01 hW)) hcl (by omega))
  obtain ⟨x0, x1, x2⟩ := ccells (B0.below b1 B0.lt)
  rw [hW1] at x0 x1 x2
  rw [hW0] at x0 x1 x2
  have r1 := Lib.hid (fun (W : World) (hW : New W1 W) => Reads.later h1 (New.trans b01 hW))
  have r0 := Lib.hid (fun (W : World) (hW : New W1 W) => Reads.later h (New.trans b01 hW))
  have rD := Lib.hid (fun (W : World) (hW : New W1 W) => hD.later (New.trans b01 hW))
  have rl := Lib.hid (fun (W : World) (hW : New W1 W) => Reads.later hl (New.trans b01 hW))
  clear h h1 hD hl
  have TS := Lib.hid (fun (hh : tabCk L r D = 0) => tab_shape hh)
  have TP := Lib.hid (fun (hh : placesB l L.length = true) (k : Nat) (hk : k < l.length) => places_at hh hk)
  generalize tabCk L r D = q1 at *
  generalize placesB l L.length = pb at *
  go_enter Try.func19, Try.ntmps19
  go_wp2_with fail
  rw [← hW0, ← hW1]
  refine (P1.out).mono ?_
  rintro e W2 ⟨rfl, b2⟩
  clear x0 x1 x2 P1
  have b12 := New.trans b1 b2
  have hsz : W0.heap.size = w.heap.size + 1 := by rw [hW0]; simp
  rw [hsz] at B1
  clear hW0 hW1
  by_cases hq : q1 = 0
  · have J2 := Lib.hid (K2.out hq)
    have J3 := Lib.hid (K3.out hq)
    have TS := TS.out hq
    have TSh := Lib.hid TS
    clear K1 K2 K3 TS
    subst hq
    obtain ⟨x0, x1, x2⟩ := ccells (B0.below b12 B0.lt)
    by_cases hp : ¬ (pb = true) ∨ fr < 0 ∨ fr > to_ ∨ to_ > r
    · have O1 := Lib.hid (J2.out hp)
      clear J2 J3
      have B2 := B1.below b2 B1.lt
      obtain ⟨v0, v1, v2⟩ := ccells B2
      have z0 := B2.frozen 0
      have z1 := B2.frozen 1
      have z2 := B2.frozen 2
      have b02 := New.trans b01 b2
      have P3 := Lib.hid (P2.out _ b2)
      clear P2
      cases pb with
      | false =>
        clear hp
        go_wp2_with (first
          | (go_at_call 32; refine (P3.out).mono ?_; rintro e w' ⟨rfl, rfl⟩))
        obtain ⟨W3, hW3, R3, b3⟩ := store3n B2 (a := .slice none 0 0) (b := .int .i64 0) (c := .slice none 0 0) b02 (Nat.le_succ _)
        rw [← hW3]
        have s0 := R3.cell 0
        have s1 := R3.cell 1
        have s2 := R3.cell 2
        simp at s0 s1 s2
        exact bodyPost_ret (v := .tuple #[.agg #[.slice none 0 0, .int .i64 0, .slice none 0 0], .int .i64 7]) (by simp [results, Try.results19, go_sem, s0, s1, s2]) rfl (.inl ⟨by rw [O1.out]; decide, by rw [O1.out], b3⟩)
      | true =>
        have hp2 : fr < 0 ∨ fr > to_ ∨ to_ > r := by
          rcases hp with hp | hp
          · exact absurd rfl hp
          · exact hp
        clear hp
        by_cases h1 : fr < 0
        all_goals
          try (by_cases h2 : to_ < fr)
        all_goals
          try (have h3 : r < to_ := by omega)
        all_goals
          clear hp2
          go_wp2_with (first
            | (go_at_call 32; refine (P3.out).mono ?_; rintro e w' ⟨rfl, rfl⟩))
        all_goals
          obtain ⟨W3, hW3, R3, b3⟩ := store3n B2 (a := .slice none 0 0) (b := .int .i64 0) (c := .slice none 0 0) b02 (Nat.le_succ _)
          rw [← hW3]
          have s0 := R3.cell 0
          have s1 := R3.cell 1
          have s2 := R3.cell 2
          simp at s0 s1 s2
          exact bodyPost_ret (v := .tuple #[.agg #[.slice none 0 0, .int .i64 0, .slice none 0 0], .int .i64 7]) (by simp [results, Try.results19, go_sem, s0, s1, s2]) rfl (.inl ⟨by rw [O1.out]; decide, by rw [O1.out], b3⟩)
    · have O1 := Lib.hid (J3.out hp)
      have hpb : pb = true := by
        cases pb
        · exact absurd (.inl (by simp)) hp
        · rfl
      subst hpb
      have TP2 := Lib.hid (TP.out rfl)
      clear TP
      have hf0 : ¬ fr < 0 := by omega
      have hf1 : ¬ fr > to_ := by omega
      have hf2 : ¬ to_ > r := by omega
      clear hp J2 J3
      have P3 := Lib.hid (P2.out _ b2)
      clear P2
      obtain ⟨i1, hi1, hz1, hs1, hb1⟩ := info_parts elCol7.hi
      obtain ⟨i2, hi2, hz2, hs2, hb2⟩ := info_parts elData.hi
      have mk1 := fun W => run_make (P := Try.prog) W 32 27 i1 _ elCol7.ht hi1 hz1 .i64 .i64 (l.length : Int) (l.length : Int) (by omega) (by omega) (by rw [hb1]; omega) (by omega)
      have mk2 := fun W => run_make (P := Try.prog) W 33 44 i2 _ elData.ht hi2 hz2 .i64 .i64 (l.length : Int) (l.length : Int) (by omega) (by omega) (by rw [hb2]; omega) (by omega)
      simp only [Int.toNat_natCast, hs1, hs2] at mk1 mk2
      have hw : IntKind.i64.wrap (to_ - fr) = to_ - fr := by rw [IntKind.wrap_i64]; omega
      generalize hC1 : madeCells _ (l.length * 3) = C1 at mk1
      generalize hC2 : madeCells _ (l.length * 1) = C2 at mk2
      have HC1 := Lib.hid hC1
      have HC2 := Lib.hid hC2
      clear hC1 hC2 hi1 hi2 hz1 hz2 hs1 hs2 hb1 hb2
      go_upto_region 6 with (first
        | (go_at_call 32; refine (P3.out).mono ?_; rintro e w' ⟨rfl, rfl⟩))
      go_cut [11] (fun s11 wx => ∃ gc gd gt : Nat, s11 = .pointer (some ⟨gt, 0, none⟩) ∧ Blk wx gt 35 #[.slice (some ⟨gc, 0, none⟩) l.length l.length, .int .i64 (to_ - fr), .slice (some ⟨gd, 0, none⟩) l.length l.length] ∧ Blk wx gc 27 C1 ∧ Blk wx gd 44 C2 ∧ W2.heap.size ≤ gt ∧ W2.heap.size ≤ gc ∧ W2.heap.size ≤ gd ∧ New W2 wx)
      case first =>
        go_region
        all_goals
          go_wp2_with fail
          go_meet
          first
            | exact ⟨W2.heap.size, (W2.heap.size + 1), (W2.heap.size + 1 + 1), rfl, a3c, a3a, a3b, le2 _, le0 _, le1 _, a3n⟩
            | exact ⟨W2.heap.size, (W2.heap.size + 1 + 1), (W2.heap.size + 1), rfl, a3b, a3a, a3c, le1 _, le0 _, le2 _, a3n⟩
            | exact ⟨(W2.heap.size + 1), W2.heap.size, (W2.heap.size + 1 + 1), rfl, a3c, a3b, a3a, le2 _, le1 _, le0 _, a3n⟩
            | exact ⟨(W2.heap.size + 1), (W2.heap.size + 1 + 1), W2.heap.size, rfl, a3a, a3b, a3c, le0 _, le1 _, le2 _, a3n⟩
            | exact ⟨(W2.heap.size + 1 + 1), W2.heap.size, (W2.heap.size + 1), rfl, a3b, a3c, a3a, le1 _, le2 _, le0 _, a3n⟩
            | exact ⟨(W2.heap.size + 1 + 1), (W2.heap.size + 1), W2.heap.size, rfl, a3a, a3c, a3b, le0 _, le2 _, le1 _, a3n⟩
      case rest =>
        obtain ⟨gc, gd, gt, rfl, T1, T2, T3, q1, q2, q3, b3⟩ := hcut
        clear mk1 mk2 x0 x1 x2 P3
        have b13 := New.trans b2 b3
        have b03 := New.trans b1 b13
        have U1 : wc.ownsRow W2.heap.size 27 3 (.slice (some ⟨gc, 0, none⟩) l.length l.length) l.length (recs colV (List.replicate l.length ([], 0, false))) := by
          refine ⟨by rw [recs_length (sz := 3) (fun _ => rfl), List.length_replicate], .inr ⟨gc, l.length, C1, rfl, q2, T2, Nat.le_refl _, by simp only [maxLen]; omega, by rw [← HC1.out]; simp [size_madeCells], ?_⟩⟩
          rw [← HC1.out, List.take_of_length_le (by simp [size_madeCells])]
          have := madeCells3 (.string ⟨#[]⟩) (.int .i64 0) (.bool false) l.length
          simp only [recs, List.flatMap_replicate, colV]
          exact this
        have U2 : wc.ownsRow W2.heap.size 44 1 (.slice (some ⟨gd, 0, none⟩) l.length l.length) l.length (recs dataV (List.replicate l.length (none, 0, []))) := by
          refine ⟨by rw [recs_length (sz := 1) (fun _ => rfl), List.length_replicate], .inr ⟨gd, l.length, C2, rfl, q3, T3, Nat.le_refl _, by simp only [maxLen]; omega, by rw [← HC2.out]; simp [size_madeCells], ?_⟩⟩
          rw [← HC2.out, List.take_of_length_le (by simp [size_madeCells])]
          have := toList_madeCells_one (.slice none 0 0) (l.length * 1)
          simp only [recs, List.flatMap_replicate, dataV]
          rw [List.flatten_replicate_singleton]
          rw [Nat.mul_one] at this ⊢
          exact this
        clear T2 T3 HC1 HC2
        go_wp2
        go_loopw [54] (fun i wr => ∃ (k : Nat) (D' : List ColD), i = .int .i64 (k : Int) ∧ k ≤ l.length ∧ D'.length = k ∧
          Blk wr gt 35 #[.slice (some ⟨gc, 0, none⟩) l.length l.length, .int .i64 (to_ - fr), .slice (some ⟨gd, 0, none⟩) l.length l.length] ∧
          wr.ownsRow W2.heap.size 27 3 (.slice (some ⟨gc, 0, none⟩) l.length l.length) l.length (recs colV ((l.take k).map (fun c => L.getD c.toNat ([], 0, false)) ++ List.replicate (l.length - k) ([], 0, false))) ∧
          wr.ownsRow W2.heap.size 44 1 (.slice (some ⟨gd, 0, none⟩) l.length l.length) l.length (recs dataV (D' ++ List.replicate (l.length - k) (none, 0, []))) ∧
          RowsIn wr W2.heap.size D' ∧ Hid (D'.map (·.2.2) = (l.take k).map (cutC D fr to_)) ∧ New W2 wr) (fun i _ => l.length - (intOf i).toNat)
        case atStart => exact ⟨0, [], rfl, by omega, rfl, T1, by simpa using U1, by simpa using U2, fun _ hd => absurd hd (by simp), Lib.hid (by simp), b3⟩
        case round =>
          clear T1 U1 U2 b3 b13 b03
          obtain ⟨k, D', rfl, hk, hD', T1, U1, U2, RI, HC, b3⟩ := hrel
          have b13 := New.trans b2 b3
          have b03 := New.trans b1 b13
          by_cases hlt : k < l.length
          · obtain ⟨adl, rfl, hbl, cl0⟩ := (rl.out _ b13).int hlt
            obtain ⟨p1, p2, _⟩ := TP2.out k hlt
            have hcl2' := fun (c : Nat) (h : (c : Int) < (L.length : Int)) => show c < D.length by have := TSh.out; omega
            obtain ⟨c, hcc⟩ := Int.eq_ofNat_of_zero_le p1
            have hcl2 : c < L.length := by omega
            have hcd := hcl2' c (by omega)
            clear hcl2'
            obtain ⟨x0, x1, x2⟩ := ccells (B0.below b03 B0.lt)
            obtain ⟨v0, v1, v2⟩ := ccells T1
            have HLC := Lib.hid hcc
            rw [hcc] at cl0
            clear hcc p1 p2
            obtain ⟨adc, rfl, hbc, d0, d1, d2⟩ := (r1.out _ b13).colT hcl2
            have hrep : List.replicate (l.length - k) (([], 0, false) : ColS) = ([], 0, false) :: List.replicate (l.length - (k + 1)) ([], 0, false) := by rw [show l.length - k = (l.length - (k + 1)) + 1 by omega]; rfl
            have hpl : (recs colV ((l.take k).map (fun c => L.getD c.toNat ([], 0, false)))).length = k * 3 := by rw [recs_length (sz := 3) (fun _ => rfl), List.length_map, List.length_take, Nat.min_eq_left hk]
            rw [hrep, recs_append, recs_cons] at U1
            have f0 := U1.frozenAt (k * 3)
            have f1 := U1.frozenAt (k * 3 + 1)
            have f2 := U1.frozenAt (k * 3 + 2)
            have e0 := U1.cellAt (k * 3) (by omega)
            have e1 := U1.cellAt (k * 3 + 1) (by omega)
            have e2 := U1.cellAt (k * 3 + 2) (by omega)
            rw [List.getElem?_append_right (by omega), hpl] at e0 e1 e2
            simp [colV] at e0 e1 e2
            have HU1 := Lib.hid U1
            have i1 : (k : Int) < (l.length : Int) := by omega
            have i2 : (c : Int) < (L.length : Int) := by omega
            have HCX := Lib.hid (show L.getD c ([], 0, false) = ((L.getD c ([], 0, false)).1, (L.getD c ([], 0, false)).2.1, (L.getD c ([], 0, false)).2.2) from rfl)
            generalize hcn : (L.getD c ([], 0, false)).1 = cn at *
            generalize hct : (L.getD c ([], 0, false)).2.1 = ct at *
            generalize hcu : (L.getD c ([], 0, false)).2.2 = cu at *
            obtain ⟨cs1, G1⟩ := row_blk HU1.out
            have ne1 : gt ≠ gc := Blk.ne_ T1 G1 (by decide)
            have HNE := Lib.hid (row_blk_ne U2 G1 (by decide))
            clear U1 hrep hcn hct hcu
            go_wp2
            go_still_tail 9, (by kernel_rfl)
            go_wp2
            obtain ⟨W5, hW5, U5, g5⟩ := row_set3 (a := .string (bstr cn)) (b := .int .i64 ct) (d := .bool cu) HU1.out hpl
            rw [← hW5]
            clear hW5 HU1 d0 d1 d2 e0 e1 e2 f0 f1 f2 x0 x1 x2 v0 v1 v2 cl0
            have b35 : New W2 W5 := b3.grown g5 b3.size (fun k hk => by injection hk with hk; omega)
            have T5 := T1.grown g5 (by simpa using ne1)
            have U25 := World.ownsRow.kept U2 g5 (.inr HNE.out)
            have R5 := RI.keepT G1 (by decide) g5
            clear U2 RI T1 G1 HNE g5 b3 b13 b03
            have b15 := New.trans b2 b35
            have b05 := New.trans b1 b15
            obtain ⟨add, rfl, hbd, dd0⟩ := (r0.out W1 (New.refl _)).colD hcd
            have B5 := B0.below b05 B0.lt
            have hgw : w.heap.size < W2.heap.size := by have := B0.lt; have := b12.size; omega
            have hz12 := b2.size
            have hz25 := b35.size
            obtain ⟨gcs, G2⟩ := row_blk U25
            have ne2 : gt ≠ gd := Blk.ne_ T5 G2 (by decide)
            have HR5 := Lib.hid (fun (W : World) (hW : W5.grownBy W (some gd)) => R5.keepT G2 (by decide) hW)
            obtain ⟨E1, E2, E3, E4, E5⟩ := rD.out _ (New.trans b15 (New.trans (New.drew W5) (New.drew _))) _ (mem_getDJ (none, 0, []) hcd)
            have hlr : (((D.getD c (none, 0, [])).2.2.length : Nat) : Int) = r := TSh.out.2.2.2.2 _ (mem_getDJ (none, 0, []) hcd)
            have hr6 : r ≤ 65536 := TSh.out.2.2.1
            obtain ⟨f, rfl⟩ := Int.eq_ofNat_of_zero_le hf0
            obtain ⟨t, rfl⟩ := Int.eq_ofNat_of_zero_le (Int.le_trans hf0 hf1)
            have E6 := (E1.cut (k := f) (cap := (D.getD c (none, 0, [])).2.1) (by omega) E3).take (k := t - f) (by omega)
            have HCT := Lib.hid (show ((D.getD c (none, 0, [])).2.2.drop f).take (t - f) = cutC D (f : Int) (t : Int) (c : Int) by rw [cutC, Int.toNat_natCast, Int.toNat_natCast, show ((t : Int) - (f : Int)).toNat = t - f by omega])
            rw [recs_drop (f := cellV) (sz := 5) (fun _ => rfl) _ _ (by omega), recs_take (f := cellV) (sz := 5) (fun _ => rfl) _ _ (by rw [List.length_drop]; omega), HCT.out] at E6
            have HD0 := Lib.hid dd0
            generalize (D.getD c (none, 0, [])).1 = aA at *
            generalize (D.getD c (none, 0, [])).2.2.length = lA at *
            generalize (D.getD c (none, 0, [])).2.1 = cA at *
            have F := Lib.hid (fun (W : World) (hW : Far gd W5.drew.drew W) => show Blk W gt 35 #[.slice (some ⟨gc, 0, none⟩) l.length l.length, .int .i64 ((t : Int) - (f : Int)), .slice (some ⟨gd, 0, none⟩) l.length l.length] ∧ Blk W w.heap.size 35 #[.slice (some adc) L.length cc, .int .i64 r, .slice (some add) D.length cd] ∧ W.cell? (add.add c) = some (.slice aA lA cA) by
              have h5 : Far gd W5 W := Far.trans (Far.trans (Far.drew gd W5) (Far.drew gd _)) hW
              refine ⟨T5.grown h5 (by simpa using ne2), B5.grown h5 (by simp; omega), ?_⟩
              rw [World.cell?_of_block (h5.block _ (by rw [block_of_add]; omega) (by rw [block_of_add]; simp; omega)), Below.cell b15 (by rw [block_of_add]; exact hbd)]
              exact dd0)
            have i3 : (c : Int) < (D.length : Int) := by omega
            have i4 : (f : Int) ≤ (t : Int) := by omega
            have i5 : (t : Int) ≤ (cA : Int) := by omega
            clear dd0 E1 E2 B5 T5 R5
            refine wp_region_up (Far gd) [(true, 0), (true, 1), (true, 2), (true, 3), (true, 4), (true, 5), (true, 6), (true, 7), (true, 8), (true, 9), (true, 10), (false, 11), (true, 12), (false, 13)]
              (Far.refl gd) Far.trans (by kernel_rfl) (by kernel_rfl) (by kernel_rfl) (by kernel_rfl) ?_
            iterate 11 (
              refine up_quiet rfl rfl (v := ?_) (fun W hW => ?_) ?_
              rotate_left
              · obtain ⟨y1, y2, y3⟩ := F.out W hW
                obtain ⟨v0, v1, v2⟩ := ccells y1
                obtain ⟨x0, x1, x2⟩ := ccells y2
                go_simp <;> with_reducible rfl
              simp only [Act.put, List.setIfInBounds_toArray, List.set_cons_zero, List.set_cons_succ])
            refine up_call rfl rfl (fun K hK => ?_)
            go_simp
            refine (cclone_any E6 ?_ (by omega)).mono ?_
            · intro hh
              split at hh
              · omega
              · have := E5 (by simpa using hh)
                omega
            have hln := E6.lenCell
            rintro e w6 ⟨v6, rfl, o6, b6⟩
            obtain ⟨A6, c6, rfl, hc6, hm6⟩ := row_slice o6
            refine hK _ _ (Far.of_new b6) ?_
            clear hK E6
            have b56 : New W5 w6 := New.trans (New.trans (New.drew W5) (New.drew _)) b6
            have U26 := row_later U25 b56
            have hrep : List.replicate (l.length - k) ((none, 0, []) : ColD) = (none, 0, []) :: List.replicate (l.length - (k + 1)) (none, 0, []) := by rw [show l.length - k = (l.length - (k + 1)) + 1 by omega]; rfl
            rw [hrep] at U26
            have z0 := U26.frozenAt k
            have z1 := U26.cellAt k (by omega)
            obtain ⟨gcs6, G6⟩ := row_blk U26
            have T6 := (F.out w6 (Far.of_new b6)).1
            obtain ⟨U27, g67⟩ := U26.stored k (.slice A6 (cutC D (f : Int) (t : Int) (c : Int)).length c6)
            rw [recs_set1 (x := (A6, c6, cutC D (f : Int) (t : Int) (c : Int))) hD'] at U27
            have HU27 := Lib.hid U27
            have O6 := Lib.hid o6
            have HU26 := Lib.hid U26
            have hz1 : (recs dataV (D' ++ (none, 0, []) :: List.replicate (l.length - (k + 1)) (none, 0, [])))[k]? = some (.slice none 0 0) := by
              rw [recs_append, recs_cons, List.getElem?_append_right (by rw [recs_length (sz := 1) (fun _ => rfl)]; omega), recs_length (sz := 1) (fun _ => rfl), hD', Nat.mul_one, Nat.sub_self]
              rfl
            rw [hz1] at z1
            clear hz1 U26 U27 o6 hrep
            refine up_quiet rfl rfl (v := ?_) (fun W hW => ?_) ?_
            rotate_left
            · go_simp <;> with_reducible rfl
            simp only [Act.put, List.setIfInBounds_toArray, List.set_cons_zero, List.set_cons_succ]
            refine up_call rfl rfl (fun K hK => ?_)
            go_simp
            refine hK _ _ g67 ?_
            clear hK z0 z1
            refine up_nil ?_
            obtain ⟨W7, hW7⟩ : ∃ W, W = w6.setCell ⟨gd, k, none⟩ (.slice A6 (cutC D (f : Int) (t : Int) (c : Int)).length c6) := ⟨_, rfl⟩
            rw [← hW7] at g67
            have HU7 := HU27.out
            rw [← hW7] at HU7 ⊢
            have T7 := T6.grown g67 (by simpa using ne2)
            have g57 : W5.grownBy W7 (some gd) := Far.trans (Far.of_new b56) g67
            have U57 := World.ownsRow.kept (row_later U5 b56) g67 (.inr (row_blk_ne (row_later U5 b56) G6 (by decide)))
            have R7 := (HR5.out W7 g57).snoc (d := (A6, c6, cutC D (f : Int) (t : Int) (c : Int))) (row_base (World.ownsRow.kept O6.out g67 (.inr (row_blk_ne O6.out G6 (by decide)))) (by simp; omega))
            have b27 : New W2 W7 := (New.trans b35 b56).grown g67 (New.trans b35 b56).size (fun k hk => by injection hk with hk; omega)
            have HC7 := Lib.hid (show (D' ++ [((A6, c6, cutC D (f : Int) (t : Int) (c : Int)) : ColD)]).map (·.2.2) = (l.take (k + 1)).map (cutC D (f : Int) (t : Int)) by
              rw [take_snoc l k 0 hlt, List.map_append, List.map_append, HC.out, HLC.out]; rfl)
            have hL7 : (l.take (k + 1)).map (fun c => L.getD c.toNat ([], 0, false)) = (l.take k).map (fun c => L.getD c.toNat ([], 0, false)) ++ [(cn, ct, cu)] := by
              rw [take_snoc l k 0 hlt, List.map_append, HLC.out, ← HCX.out]; simp
            have HL7 := Lib.hid hL7
            clear hW7 HU27 T6 g67 g57 U5 U25 O6 HU26 G2 G6 HR5 b35 b56 b15 b05 F hL7 HC HLC HCX HCT HD0
            go_wp2
            go_roundw
            case rel => exact ⟨k + 1, _, by go_num, by omega, by simp [hD'], T7, by rw [HL7.out, List.append_assoc, recs_append]; exact U57, HU7, R7, HC7, b27⟩
            case measure => simp [intOf]; omega
          · obtain rfl : k = l.length := by omega
            have hr0 : ∀ {α : Type} (x : α), List.replicate (l.length - l.length) x = [] := by intro α x; rw [Nat.sub_self]; rfl
            rw [hr0, List.append_nil, List.take_length] at U1
            rw [hr0, List.append_nil] at U2
            have HC2 := HC.out
            rw [List.take_length] at HC2
            have B2 := B1.below b13 B1.lt
            obtain ⟨v0, v1, v2⟩ := ccells B2
            obtain ⟨x0, x1, x2⟩ := ccells T1
            have z0 := B2.frozen 0
            have z1 := B2.frozen 1
            have z2 := B2.frozen 2
            have b02 := New.trans b01 b13
            have H2 := Lib.hid HC2
            have HU1 := Lib.hid U1
            have HU2 := Lib.hid U2
            clear hr0 HC HC2 U1 U2
            have hge : w.heap.size ≤ w.heap.size + 1 := Nat.le_succ _
            go_wp2
            obtain ⟨W3, hW3, R3, b3w, g3⟩ := store3b B2 (a := .slice (some ⟨gc, 0, none⟩) l.length l.length) (b := .int .i64 (to_ - fr)) (c := .slice (some ⟨gd, 0, none⟩) l.length l.length) b02 hge
            rw [← hW3]
            have s0 := R3.cell 0
            have s1 := R3.cell 1
            have s2 := R3.cell 2
            simp at s0 s1 s2
            have hwz : w.heap.size ≤ W2.heap.size := by have := b01.size; have := b2.size; omega
            have U13 := row_base (World.ownsRow.kept HU1.out g3 (.inr (row_blk_ne HU1.out B2 (by decide)))) hwz
            have U23 := row_base (World.ownsRow.kept HU2.out g3 (.inr (row_blk_ne HU2.out B2 (by decide)))) hwz
            have R13 := (RI.keepT B2 (by decide) g3).base hwz
            refine bodyPost_ret (v := .tuple #[.agg #[.slice (some ⟨gc, 0, none⟩) l.length l.length, .int .i64 (to_ - fr), .slice (some ⟨gd, 0, none⟩) l.length l.length], .int .i64 0]) (by simp [results, Try.results19, go_sem, s0, s1, s2]) rfl (.inr ⟨O1.out, some ⟨gc, 0, none⟩, some ⟨gd, 0, none⟩, l.length, l.length, D', ?_, ?_, ?_, R13, H2.out, b3w⟩)
            · rw [List.length_map, hD']
            · rw [List.length_map]; exact U13
            · rw [hD']; exact U23
  · have O1 := Lib.hid (K1.out hq)
    clear K1 K2 K3 P2
    have B2 := B1.below b2 B1.lt
    obtain ⟨v0, v1, v2⟩ := ccells B2
    have z0 := B2.frozen 0
    have z1 := B2.frozen 1
    have z2 := B2.frozen 2
    have b02 := New.trans b01 b2
    have e1 : (q1 != 0) = true := by simpa using hq
    go_wp2
    obtain ⟨W3, hW3, R3, b3⟩ := store3n B2 (a := .slice none 0 0) (b := .int .i64 0) (c := .slice none 0 0) b02 (Nat.le_succ _)
    rw [← hW3]
    have s0 := R3.cell 0
    have s1 := R3.cell 1
    have s2 := R3.cell 2
    simp at s0 s1 s2
    exact bodyPost_ret (v := .tuple #[.agg #[.slice none 0 0, .int .i64 0, .slice none 0 0], .int .i64 q1]) (by simp [results, Try.results19, go_sem, s0, s1, s2]) rfl (.inl ⟨by rw [O1.out]; exact hq, by rw [O1.out], b3⟩)

end Go.Proofs.Ytcnaameebbcmhaa
