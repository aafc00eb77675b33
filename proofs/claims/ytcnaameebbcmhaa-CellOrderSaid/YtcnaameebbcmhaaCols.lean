/- Contracts on columns: cell.Cols, and its answer. -/
import Derived.Test.YtcnaameebbcmhaaColV
import Derived.Test.YtcnaameebbcmhaaOpt
import Derived.Test.YtcnaameebbcmhaaUp
import Derived.Outline
import Derived.Deep.QuietTactic
import Derived.BigQuiet

namespace Go.Hm
open Go Go.RowKit
abbrev nm (l : List ColS) (i : Nat) : List Nat := (l.getD i ([], 0, false)).1
def nameBad (a : List ColS) (s : List Nat) : Prop := s.length = 0 ∨ 100 < s.length ∨ s ∈ a.map (·.1)
instance (a : List ColS) (s : List Nat) : Decidable (nameBad a s) := by unfold nameBad; exact inferInstance
/-- What is wrong with a column, behind others. -/
def colCk (a : List ColS) (s : List Nat) (t : Int) : Int := if nameBad a s then 1 else if 0 ≤ t ∧ t ≤ 3 then 0 else 3
def colsGo (a : List ColS) : List ColS → Int
  | [] => 0
  | c :: l => if colCk a c.1 c.2.1 = 0 then colsGo (a ++ [c]) l else colCk a c.1 c.2.1
/-- What is wrong with columns. -/
def colsCk (l : List ColS) : Int := if 64 < l.length then 4 else colsGo [] l
theorem colsCk_many {l : List ColS} (h : 64 < l.length) : colsCk l = 4 := by rw [colsCk, if_pos h]
theorem colsCk_few {l : List ColS} (h : ¬ 64 < l.length) : colsCk l = colsGo (l.take 0) (l.drop 0) := by rw [colsCk, if_neg h]; rfl
theorem colsGo_step (l : List ColS) (k : Nat) (h : k < l.length) : colsGo (l.take k) (l.drop k) = if colCk (l.take k) (nm l k) (l.getD k ([], 0, false)).2.1 = 0 then colsGo (l.take (k + 1)) (l.drop (k + 1)) else colCk (l.take k) (nm l k) (l.getD k ([], 0, false)).2.1 := by
  rw [drop_cons_getD l k ([], 0, false) h, colsGo, take_snoc l k ([], 0, false) h]
theorem colsGo_end (l : List ColS) : colsGo (l.take l.length) (l.drop l.length) = 0 := by rw [List.drop_length]; rfl
theorem mem_names {l : List ColS} {s : List Nat} {k : Nat} (hk : k < l.length) : s ∈ (l.take (k + 1)).map (·.1) ↔ s ∈ (l.take k).map (·.1) ∨ nm l k = s := by
  rw [take_snoc l k ([], 0, false) hk, List.map_append, List.mem_append]
  simp [eq_comm, nm]
theorem nameBad_succ {l : List ColS} {s : List Nat} {k : Nat} (hk : k < l.length) : nameBad (l.take (k + 1)) s ↔ nameBad (l.take k) s ∨ nm l k = s := by
  unfold nameBad
  rw [mem_names hk]
  constructor
  · rintro (h | h | h | h)
    · exact .inl (.inl h)
    · exact .inl (.inr (.inl h))
    · exact .inl (.inr (.inr h))
    · exact .inr h
  · rintro ((h | h | h) | h)
    · exact .inl h
    · exact .inr (.inl h)
    · exact .inr (.inr (.inl h))
    · exact .inr (.inr (.inr h))

end Go.Hm

namespace Go.Proofs.Ytcnaameebbcmhaa
open Go.RowKit Go.Hm
theorem strB (a b : List Nat) (ha : ∀ x ∈ a, x < 256) (hb : ∀ x ∈ b, x < 256) : ((bstr a).toList == (bstr b).toList) = decide (a = b) := bstr_beq ha hb

set_option maxHeartbeats 2000000 in
set_option maxRecDepth 100000 in
theorem checkCol_any {w : World} {A : Option Addr} {n c : Nat} {L : List ColS} {s : List Nat} {t : Int} {nu : Bool} (h : Reads w w.heap.size 3 A n (recs colV L)) (hL : ∀ x ∈ L, ∀ z ∈ x.1, z < 256) (hs : ∀ z ∈ s, z < 256) (hsl : s.length ≤ 140737488351232) (hn : n ≤ 4611686018427387903) :
    Calls Try.prog 31 #[.slice A n c, .agg #[.string (bstr s), .int .i64 t, .bool nu]] w (NewPost (.int .i64 (colCk L s t)) w) := by
  obtain rfl := h.lenC
  have z1 := bstr_size s
  have K1 := Lib.hid (fun (hh : nameBad L s) => show colCk L s t = 1 by rw [colCk, if_pos hh])
  have K2 := Lib.hid (fun (hh : ¬ nameBad L s) => show colCk L s t = if 0 ≤ t ∧ t ≤ 3 then 0 else 3 by rw [colCk, if_neg hh])
  generalize colCk L s t = O at *
  obtain ⟨W0, hW0⟩ : ∃ W, W = w.alloc (.cells #[.string (bstr s), .int .i64 t, .bool nu] 27) := ⟨_, rfl⟩
  have b0 : New w W0 := by rw [hW0]; exact (Below.refl _ _).alloc (Nat.le_refl _) _
  have B0 : Blk W0 w.heap.size 27 #[.string (bstr s), .int .i64 t, .bool nu] := by rw [hW0]; exact Blk.new _ _ _
  obtain ⟨x0, x1, x2⟩ := ccells B0
  rw [hW0] at x0 x1 x2
  by_cases h0 : s.length = 0
  · have O1 := Lib.hid (K1.out (.inl h0))
    have e1 : ((s.length : Int) == 0) = true := by simp [h0]
    clear h0 K1 K2 B0 h
    go_enter Try.func31, Try.ntmps31
    go_wp2
    go_ret
    exact ⟨by rw [O1.out]; rfl, by rw [← hW0]; exact b0⟩
  · have e1 : ((s.length : Int) == 0) = false := beq_eq_false_iff_ne.2 (by omega)
    by_cases h1 : 100 < s.length
    · have O1 := Lib.hid (K1.out (.inr (.inl h1)))
      have e2 : decide (100 < (s.length : Int)) = true := by simp; omega
      clear h0 K1 K2 B0 h
      go_enter Try.func31, Try.ntmps31
      go_wp2
      go_ret
      exact ⟨by rw [O1.out]; rfl, by rw [← hW0]; exact b0⟩
    · have e2 : decide (100 < (s.length : Int)) = false := by simp; omega
      have K1 := Lib.hid (fun (hh : s ∈ L.map (·.1)) => K1.out (.inr (.inr hh)))
      have K2 := Lib.hid (fun (hh : s ∉ L.map (·.1)) => K2.out (fun h' => by rcases h' with h' | h' | h'; exact h0 h'; exact h1 h'; exact hh h'))
      have r0 := Reads.later h b0
      clear h0 h1 h
      go_enter Try.func31, Try.ntmps31
      go_wp2
      rw [← hW0]
      clear x0 x1 x2 hW0
      go_loopw [19] (fun i wr => ∃ k : Nat, i = .int .i64 (k : Int) ∧ k ≤ L.length ∧ New W0 wr ∧ Hid (s ∉ (L.take k).map (·.1))) (fun i _ => L.length - (intOf i).toNat)
      case atStart => exact ⟨0, rfl, by omega, New.refl _, Lib.hid (by simp)⟩
      case round =>
        obtain ⟨k, rfl, hk, hb, H⟩ := hrel
        have B1 := B0.below hb B0.lt
        obtain ⟨x0, x1, x2⟩ := ccells B1
        by_cases hlt : k < L.length
        · obtain ⟨ad, rfl, hbk, c0, c1, c2⟩ := (Reads.later r0 hb).colT hlt
          have M := Lib.hid (mem_names (s := s) hlt)
          have hq := strB (nm L k) s (by rw [nm, List.getD_eq_getElem?_getD, List.getElem?_eq_getElem hlt]; exact hL _ (List.getElem_mem hlt)) hs
          have MM := Lib.hid (show nm L k = s → s ∈ L.map (·.1) from fun e => by
            have := (mem_names (s := s) hlt).2 (.inr e)
            exact List.mem_of_mem_take (by rwa [List.map_take] at this))
          unfold nm at *
          generalize (L.getD k ([], 0, false)).1 = s2 at *
          generalize (L.getD k ([], 0, false)).2.1 = t2 at *
          generalize (L.getD k ([], 0, false)).2.2 = n2 at *
          have X := Lib.hid (ccells (B1.alloc (.cells #[.string (bstr s2), .int .i64 t2, .bool n2] 27)))
          have Y := Lib.hid (ccells (Blk.new wr 27 #[.string (bstr s2), .int .i64 t2, .bool n2]))
          have hiz : (k : Int) < (L.length : Int) := by omega
          have b1 : New W0 (wr.alloc (.cells #[.string (bstr s2), .int .i64 t2, .bool n2] 27)) := Below.alloc hb hb.size _
          obtain ⟨q0, q1, q2⟩ := X.out
          obtain ⟨p0, p1, p2⟩ := Y.out
          by_cases he : s2 = s
          · rw [decide_eq_true he] at hq
            have O1 := Lib.hid (K1.out (MM.out he))
            clear he x0 x1 x2
            go_wp2
            go_ret
            exact ⟨by rw [O1.out]; rfl, New.trans b0 b1⟩
          · rw [decide_eq_false he] at hq
            have H2 := Lib.hid (show s ∉ (L.take (k + 1)).map (·.1) from fun hh => by
              rcases M.out.1 hh with hh | hh
              · exact H.out hh
              · exact he hh)
            clear he x0 x1 x2
            go_wp2
            go_roundw
            case rel => exact ⟨k + 1, by go_num, by omega, b1, H2⟩
            case measure => simp [intOf]; omega
        · obtain rfl : k = L.length := by omega
          have H2 := H.out
          rw [List.take_length] at H2
          have O1 := Lib.hid (K2.out H2)
          clear H H2 K1 K2
          go_wp2
          all_goals go_ret
          all_goals
            simp only [beq_iff_eq, beq_eq_false_iff_ne, ne_eq] at *
            refine ⟨?_, New.trans b0 hb⟩
            rw [O1.out]
            first
              | (rw [if_pos (by omega)]; rfl)
              | (rw [if_neg (by omega)]; rfl)

set_option maxHeartbeats 2000000 in
set_option maxRecDepth 100000 in
theorem cols_any {w : World} {A : Option Addr} {n c : Nat} {L : List ColS} (h : Reads w w.heap.size 3 A n (recs colV L)) (hL : ∀ x ∈ L, (∀ z ∈ x.1, z < 256) ∧ x.1.length ≤ 140737488351232) (hc : n ≤ c) (hn : n ≤ 4611686018427387903) :
    Calls Try.prog 17 #[.slice A n c] w (NewPost (.int .i64 (colsCk L)) w) := by
  obtain rfl := h.lenC
  by_cases hm : 64 < L.length
  · rw [colsCk_many hm]
    go_enter Try.func17, Try.ntmps17
    go_wp2
    go_ret
    exact ⟨rfl, New.refl _⟩
  · have HO := Lib.hid (colsCk_few hm)
    generalize colsCk L = O at *
    go_enter Try.func17, Try.ntmps17
    go_wp2
    go_loopw [11] (fun i wr => ∃ k : Nat, i = .int .i64 (k : Int) ∧ k ≤ L.length ∧ New w wr ∧ Hid (O = colsGo (L.take k) (L.drop k))) (fun i _ => L.length - (intOf i).toNat)
    case atStart => exact ⟨0, rfl, by omega, New.refl _, HO⟩
    case round =>
      obtain ⟨k, rfl, hk, hb, H⟩ := hrel
      by_cases hlt : k < L.length
      · have r1 := Reads.later h hb
        obtain ⟨ad, rfl, hbk, c0, c1, c2⟩ := r1.colT hlt
        have hx : (L.getD k ([], 0, false)) ∈ L := by rw [List.getD_eq_getElem?_getD, List.getElem?_eq_getElem hlt]; exact List.getElem_mem hlt
        obtain ⟨y1, y2⟩ := hL _ hx
        have r2 := r1.take (k := k) (by omega)
        rw [recs_take (f := colV) (sz := 3) (fun _ => rfl) L k (by omega)] at r2
        have S := H.out
        rw [colsGo_step L k hlt] at S
        have P := fun (W : World) (hW : New wr W) => checkCol_any (c := c) (t := (L.getD k ([], 0, false)).2.1) (nu := (L.getD k ([], 0, false)).2.2) (Reads.later r2 hW) (fun x hx => (hL x (List.mem_of_mem_take hx)).1) y1 y2 (by omega)
        have P := Lib.hid P
        generalize hck : colCk (L.take k) (L.getD k ([], 0, false)).1 (L.getD k ([], 0, false)).2.1 = ck at *
        have HS := Lib.hid S
        generalize (L.getD k ([], 0, false)).1 = s2 at *
        generalize (L.getD k ([], 0, false)).2.1 = t2 at *
        generalize (L.getD k ([], 0, false)).2.2 = n2 at *
        clear S hck H hx y1 y2 r1 r2
        have hiz : (k : Int) < (L.length : Int) := by omega
        have hiz2 : (k : Int) ≤ (c : Int) := by omega
        obtain ⟨W1, hW1⟩ : ∃ W, W = wr.alloc (.cells #[.string (bstr s2), .int .i64 t2, .bool n2] 27) := ⟨_, rfl⟩
        have b1 : New wr W1 := by rw [hW1]; exact (Below.refl _ _).alloc (Nat.le_refl _) _
        have Y : Blk W1 wr.heap.size 27 #[.string (bstr s2), .int .i64 t2, .bool n2] := by rw [hW1]; exact Blk.new _ _ _
        go_wp2_with fail
        rw [← hW1]
        clear hW1
        refine wp_region_up New [(true, 0), (true, 1), (true, 2), (true, 3), (false, 4), (true, 5)]
          New.refl New.trans (by kernel_rfl) (by kernel_rfl) (by kernel_rfl) (by kernel_rfl) ?_
        have hU := New.trans b1 (New.drew W1)
        have hV := New.refl W1.drew
        repeat (first
          | (refine up_call rfl rfl (fun K hK => ?_); go_simp
             (with_reducible refine (P.out _ hU).mono ?_)
             rintro e w9 ⟨rfl, b9⟩
             refine hK _ _ b9 ?_
             clear hK
             replace hU := New.trans hU b9
             replace hV := New.trans hV b9)
          | (refine up_quiet rfl rfl (v := ?_) (fun W hW => ?_) ?_; rotate_left; (obtain ⟨x0, x1, x2⟩ := ccells (Y.below (New.trans (New.drew W1) (New.trans hV hW)) Y.lt); go_simp <;> with_reducible rfl); simp only [Act.put, List.setIfInBounds_toArray, List.set_cons_zero, List.set_cons_succ]))
        refine up_nil ?_
        clear Y b1 P
        by_cases hz : ck = 0
        · have HS2 := Lib.hid (show O = colsGo (L.take (k + 1)) (L.drop (k + 1)) by rw [HS.out, if_pos hz])
          subst hz
          go_wp2
          go_roundw
          case rel => exact ⟨k + 1, by go_num, by omega, New.trans hb hU, HS2⟩
          case measure => simp [intOf]; omega
        · have HS2 := Lib.hid (show O = ck by rw [HS.out, if_neg hz])
          have e1 : (ck != 0) = true := by simpa using hz
          clear hz
          go_wp2
          go_ret
          exact ⟨by rw [HS2.out]; rfl, New.trans hb hU⟩
      · obtain rfl : k = L.length := by omega
        have HS2 := Lib.hid (show O = 0 by rw [H.out, colsGo_end])
        go_wp2
        go_ret
        exact ⟨by rw [HS2.out]; rfl, hb⟩

end Go.Proofs.Ytcnaameebbcmhaa
