/- Texts merged, for a claim has at most 60 files: PlnB, Apart, StaP, Cols, ColsOk, UpT, Sch, FooM, VarG, CurM, RefC. -/
import Derived.BigQuiet
import Derived.Deep.QuietTactic
import Derived.Outline
import Derived.ScopeJumps
import Derived.Test.YtflaaahcoglflaaGreatBun1
import Derived.Test.YtflaaahcoglflaaGreatBun2
import Derived.Test.YtflaaahcoglflaaGreatBun3
import Derived.WalkMore
/- The contracts of plain.lay and plain.Encode. -/

namespace Go.Hm
open Go Go.RowKit
theorem right20 {c : CellS} (h : rightB c 3 false = true) : c.2.2.1 = [] := by
  have h0 := right0 h
  unfold rightB at h
  rw [h0] at h
  simp at h
  exact h.1.2
theorem rightB_t {c : CellS} {t : Int} (h : rightB c t false = true) : t = 0 ∨ t = 1 ∨ t = 2 ∨ t = 3 := by
  have h0 := right0 h
  unfold rightB at h
  rw [h0] at h
  by_cases h1 : t = 0
  · exact .inl h1
  · by_cases h2 : t = 1
    · exact .inr (.inl h2)
    · by_cases h3 : t = 2
      · exact .inr (.inr (.inl h3))
      · by_cases h4 : t = 3
        · exact .inr (.inr (.inr h4))
        · simp [h1, h2, h3, h4] at h

end Go.Hm

namespace Go.Proofs.YtflaaahcoglflaaGreat
open Go.RowKit Go.Hm
def LayP (W0 : World) (B base : Nat) (l : List Nat) (e : Ending) (w' : World) : Prop := ∃ A n c, e = .returned (.slice A n c) ∧ Own w' base 5 (.slice A n c) (nums .u8 l) ∧ Below B W0 w'
set_option maxHeartbeats 4000000 in
set_option maxRecDepth 100000 in
theorem lay_any {w W0 : World} {B base : Nat} {A : Option Addr} {n cap : Nat} {l : List Nat} {t : Int} {c : CellS} (o : Own w base 5 (.slice A n cap) (nums .u8 l)) (hb : Below B W0 w) (hbB : B ≤ base) (hbase : base ≤ w.heap.size) (hn : n ≤ 100000000000)
    (hr : rightB c t false = true) (ht : t ≠ 1) (h8 : ∀ z ∈ c.2.2.1, z < 256) (hi : -9223372036854775808 ≤ c.2.1 ∧ c.2.1 ≤ 9223372036854775807) :
    Calls Tryz.prog 71 #[.slice A n cap, .int .i64 t, cellA c] w (LayP W0 B base (l ++ plE t c)) := by
  have h2 := fun (e : t = 2) => right2 (by rw [← e]; exact hr)
  have h3 := fun (e : t = 3) => right3 (by rw [← e]; exact hr)
  have h4 := fun (e : t = 3) => right20 (by rw [← e]; exact hr)
  have h1 := rightB_t hr
  clear hr
  obtain ⟨y0, y1, y2, y3, y4⟩ := c
  dsimp only at h2 h3 h4 h8 hi
  unfold plE
  dsimp only
  show Calls Tryz.prog 71 #[.slice A n cap, .int .i64 t, .agg #[.bool y0, .int .i64 y1, .string (bstr y2), .int .i64 y3, .int .i64 y4]] w _
  have B0 := Blk.new w 35 #[.bool y0, .int .i64 y1, .string (bstr y2), .int .i64 y3, .int .i64 y4]
  obtain ⟨x0, x1, x2, x3, x4⟩ := cells5 B0
  have ha : New w (w.alloc (.cells #[.bool y0, .int .i64 y1, .string (bstr y2), .int .i64 y3, .int .i64 y4] 35)) := (Below.refl _ _).alloc (Nat.le_refl _) _
  have o1 := o.later ha
  have b1 : Below B W0 (w.alloc (.cells #[.bool y0, .int .i64 y1, .string (bstr y2), .int .i64 y3, .int .i64 y4] 35)) := hb.trans (Below.mono ha (by omega))
  have zs := bstr_size y2
  have hz1 := ha.size
  clear o hb
  rcases h1 with rfl | rfl | rfl | rfl
  · rw [if_pos rfl]
    have HL := Lib.hid (low_len (u64N y1) 8)
    have U := Lib.hid (fun (W : World) => lay_u64 (w := W) (A := none) (n := 0) (c := 0) (l := []) (u64N y1) Reads.none_ (by omega))
    have hw := u64_wrapN y1
    generalize u64N y1 = z at *
    go_enter Tryz.func71, Tryz.ntmps71
    go_wp2_with fail
    refine (U.out _).mono ?_
    rintro e w2 ⟨A2, n2, c2, rfl, k2, b2⟩
    rw [List.nil_append] at k2
    have o2 := o1.later b2
    have b02 : Below B W0 w2 := b1.trans (Below.mono b2 (by omega))
    have q2 : n2 ≤ 8 := by have := k2.len; rw [nums_length, HL.out] at this; omega
    have hz2 := b2.size
    have r2 := k2.reads
    clear k2 b2
    go_wp2_with (refine wpList_pushesN elB rfl (.tmp 19) (.tmp 23) rfl (W := W0) (B := B) o2 r2 rfl rfl b02 hbB (by omega) (by omega) (by simp only [maxLen]; omega) ?_
                 intro A3 c3 w3 _ _ o3 _ b3 _)
    go_ret
    exact ⟨_, _, _, rfl, o3, b3⟩
  · exact absurd rfl ht
  · rw [if_neg (by decide), if_pos rfl]
    have hl2 := h2 rfl
    have V := Lib.hid (vp_len10 (n := y2.length) (by omega))
    have P := Lib.hid (fun (W : World) => put_any none 0 0 [] y2.length W Reads.none_ (by omega) (by omega))
    have hw : IntKind.u64.wrap (y2.length : Int) = (y2.length : Int) := by rw [IntKind.wrap_u64]; omega
    clear h2 h3 h4
    go_enter Tryz.func71, Tryz.ntmps71
    go_wp2_with fail
    refine (P.out _).mono ?_
    rintro e w2 ⟨A2, n2, c2, rfl, k2, b2⟩
    rw [List.nil_append] at k2
    have o2 := o1.later b2
    have b02 : Below B W0 w2 := b1.trans (Below.mono b2 (by omega))
    have q2 : n2 ≤ 10 := by have := k2.len; rw [nums_length] at this; have := V.out; omega
    have hz2 := b2.size
    have r2 := k2.reads
    have B2 := B0.below b2 B0.lt
    clear k2 b2 x0 x1 x2 x3 x4
    go_wp2_with (first
      | (refine wpList_pushesN elB rfl (.tmp 36) (.tmp 38) rfl (W := W0) (B := B) o2 r2 rfl rfl b02 hbB (by omega) (by omega) (by simp only [maxLen]; omega) ?_
         intro A3 c3 w3 _ _ o3 g3 b3 _
         obtain ⟨x0, x1, x2, x3, x4⟩ := cells5 (B2.push o2 g3 (by decide))
         have hz3 := g3.size)
      | (refine wpList_pushStr elB strT rfl (.tmp 40) (.tmp 42) rfl (W := W0) (B := B) o3 h8 rfl rfl b3 hbB (by omega) (by omega) ?_
         intro A4 c4 w4 _ _ o4 _ b4))
    go_ret
    exact ⟨_, _, _, rfl, by rw [← List.append_assoc]; exact o4, b4⟩
  · rw [if_neg (by decide), if_neg (by decide), if_pos rfl]
    obtain ⟨⟨p1, p2⟩, p3, p4⟩ := h3 rfl
    have he := h4 rfl
    subst he
    have V1 := Lib.hid (vp_len10 (n := zig y3) (by unfold zig; split <;> omega))
    have V2 := Lib.hid (vp_len10 (n := zig y4) (by unfold zig; split <;> omega))
    have Z1 := Lib.hid (fun (W : World) => zig_any y3 W (by omega) (by omega))
    have Z2 := Lib.hid (fun (W : World) => zig_any y4 W (by omega) (by omega))
    have P1 := Lib.hid (fun (W : World) => put_any none 0 0 [] (zig y3) W Reads.none_ (by omega) (by unfold zig; split <;> omega))
    have P2 := Lib.hid (fun (W : World) => put_any none 0 0 [] (zig y4) W Reads.none_ (by omega) (by unfold zig; split <;> omega))
    clear h2 h3 h4
    generalize zig y3 = z3 at *
    generalize zig y4 = z4 at *
    go_enter Tryz.func71, Tryz.ntmps71
    go_wp2_with fail
    refine (Z1.out _).mono ?_
    rintro e w2 ⟨rfl, rfl⟩
    go_wp2_with fail
    refine (P1.out _).mono ?_
    rintro e w2 ⟨A2, n2, c2, rfl, k2, b2⟩
    rw [List.nil_append] at k2
    have o2 := o1.later b2
    have b02 : Below B W0 w2 := b1.trans (Below.mono b2 (by omega))
    have q2 : n2 ≤ 10 := by have := k2.len; rw [nums_length] at this; have := V1.out; omega
    have hz2 := b2.size
    have r2 := k2.reads
    have B2 := B0.below b2 B0.lt
    clear k2 b2 x0 x1 x2 x3 x4
    go_wp2_with (refine wpList_pushesN elB rfl (.tmp 25) (.tmp 30) rfl (W := W0) (B := B) o2 r2 rfl rfl b02 hbB (by omega) (by omega) (by simp only [maxLen]; omega) ?_
                 intro A3 c3 w3 _ _ o3 g3 b3 _
                 have B3 := B2.push o2 g3 (by decide)
                 obtain ⟨x0, x1, x2, x3, x4⟩ := cells5 B3
                 have hz3 := g3.size)
    refine (Z2.out _).mono ?_
    rintro e w4 ⟨rfl, rfl⟩
    go_wp2_with fail
    refine (P2.out _).mono ?_
    rintro e w4 ⟨A4, n4, c4, rfl, k4, b4⟩
    rw [List.nil_append] at k4
    have o4 := o3.later b4
    have b04 : Below B W0 w4 := b3.trans (Below.mono b4 (by omega))
    have q4 : n4 ≤ 10 := by have := k4.len; rw [nums_length] at this; have := V2.out; omega
    have hz4 := b4.size
    have r4 := k4.reads
    have B4 := B3.below b4 B3.lt
    clear k4 b4 x0 x1 x2 x3 x4
    go_wp2_with (first
      | (refine wpList_pushesN elB rfl (.tmp 36) (.tmp 38) rfl (W := W0) (B := B) o4 r4 rfl rfl b04 hbB (by omega) (by omega) (by simp only [maxLen]; omega) ?_
         intro A5 c5 w5 _ _ o5 g5 b5 _
         obtain ⟨x0, x1, x2, x3, x4⟩ := cells5 (B4.push o4 g5 (by decide))
         have hz5 := g5.size)
      | (refine wpList_pushStr elB strT rfl (.tmp 40) (.tmp 42) rfl (W := W0) (B := B) o5 (l2 := []) (by simp) rfl rfl b5 hbB (by omega) (by simp; omega) ?_
         intro A6 c6 w6 _ _ o6 _ b6))
    go_ret
    exact ⟨_, _, _, rfl, by rw [List.append_nil] at o6; rw [← List.append_assoc]; exact o6, b6⟩
theorem flat_snoc {t : Int} {L : List CellS} {k : Nat} (h : k < L.length) : (L.take (k + 1)).flatMap (plE t) = (L.take k).flatMap (plE t) ++ plE t (L.getD k (false, 0, [], 0, 0)) := by
  rw [take_snoc L k (false, 0, [], 0, 0) h, List.flatMap_append]
  simp
theorem flat_len {t : Int} : ∀ l : List CellS, (∀ c ∈ l, rightB c t false = true) → (∀ c ∈ l, c.2.2.1.length ≤ 65536) → (l.flatMap (plE t)).length ≤ l.length * 65556
  | [], _, _ => by simp
  | c :: l, h, k => by
    have a := flat_len l (fun d hd => h d (by simp [hd])) (fun d hd => k d (by simp [hd]))
    have b := plE_len (h c (by simp))
    have d := k c (by simp)
    rw [List.flatMap_cons, List.length_append, List.length_cons]
    omega
theorem right_text {c : CellS} {t : Int} (h : rightB c t false = true) : c.2.2.1.length ≤ 65536 := by
  have h0 := right0 h
  rcases rightB_t h with rfl | rfl | rfl | rfl
  · unfold rightB at h
    rw [h0] at h
    simp at h
    rw [h.1]
    simp
  · unfold rightB at h
    rw [h0] at h
    simp at h
    rw [h.1.1]
    simp
  · exact right2 h
  · rw [right20 h]
    simp
/-- Cells that are plain data. -/
def cellData (c : CellS) : Prop := (c.2.2.1.length ≤ 140737488351232 ∧ ∀ z ∈ c.2.2.1, z < 256) ∧ -9223372036854775808 ≤ c.2.1 ∧ c.2.1 ≤ 9223372036854775807
set_option maxHeartbeats 2000000 in
set_option maxRecDepth 100000 in
theorem plain_any {w : World} {t : Int} {A : Option Addr} {n c : Nat} {L : List CellS} (h : Reads w w.heap.size 5 A n (recs cellV L)) (hL : ∀ y ∈ L, cellData y) (hn : n ≤ 4611686018427387903) :
    Calls Tryz.prog 55 #[.int .i64 t, .slice A n c] w (OptB (plO t L) w) := by
  obtain rfl := h.lenCell
  have HR := Lib.hid h
  have AR := Lib.hid (allright_any (t := t) (c := c) h (fun y hy => (hL y hy).1.1) hn)
  have KN := Lib.hid (known_any (w := w) (t := t) (n := (L.length : Int)))
  have ek : plOk t L = (decide (0 ≤ t ∧ t ≤ 3 ∧ 0 ≤ (L.length : Int) ∧ (L.length : Int) ≤ 65536) && L.all fun c => rightB c t false) := by
    unfold plOk
    congr 1
    rw [decide_eq_decide]
    omega
  obtain ⟨M, hM⟩ : ∃ M, M = plO t L := ⟨_, rfl⟩
  rw [← hM]
  unfold plO at hM
  by_cases hk : (0 ≤ t ∧ t ≤ 3 ∧ 0 ≤ (L.length : Int) ∧ (L.length : Int) ≤ 65536)
  · rw [decide_eq_true hk] at KN ek
    cases ha : L.all fun c => rightB c t false with
    | false =>
      rw [ha] at AR
      rw [ek, ha] at hM
      simp at hM
      have HM := Lib.hid hM
      clear hM ek ha hL h
      go_enter Tryz.func55, Tryz.ntmps55
      go_wp2_with fail
      refine KN.out.mono ?_
      rintro e w1 ⟨rfl, rfl⟩
      go_wp2_with fail
      refine AR.out.mono ?_
      rintro e w1 ⟨rfl, b1⟩
      go_wp2_with fail
      go_ret2
      rw [HM.out]
      exact ⟨rfl, b1⟩
    | true =>
      rw [ha] at AR
      rw [ek, ha] at hM
      simp at hM
      have hR := List.all_eq_true.1 ha
      have hn2 : L.length ≤ 65536 := by omega
      by_cases h1 : t = 1
      · subst h1
        have hP := packO_some (bitsP L) 1 (by omega) (by unfold bitsP; rw [List.length_map]; omega) (bitsP_wid hR)
        have hM2 : M = packO (bitsP L) 1 := by
          rw [hM]
          unfold plB
          rw [if_pos rfl]
          refine Eq.trans ?_ hP.symm
          unfold bitsP
          rw [List.length_map]
        have HM := Lib.hid hM2
        have PB := Lib.hid (fun (W : World) (hW : New w W) => packBools_any (c := c) (Reads.later HR.out hW) hn2)
        clear hM hM2 hP ek ha hR hL h
        go_enter Tryz.func55, Tryz.ntmps55
        go_wp2_with fail
        refine KN.out.mono ?_
        rintro e w1 ⟨rfl, rfl⟩
        go_wp2_with fail
        refine AR.out.mono ?_
        rintro e w1 ⟨rfl, b1⟩
        go_wp2_with fail
        refine (PB.out _ b1).mono ?_
        intro e w2 h2
        rw [← HM.out] at h2
        cases M with
        | none =>
          obtain ⟨rfl, b2⟩ := h2
          go_wp2_with fail
          go_ret2
          exact ⟨rfl, New.trans b1 b2⟩
        | some l =>
          obtain ⟨A2, n2, c2, rfl, o2, b2⟩ := h2
          go_wp2_with fail
          go_ret2
          exact ⟨_, _, _, rfl, o2.base_le b1.size, New.trans b1 b2⟩
      · have hM2 : M = some (L.flatMap (plE t)) := by rw [hM]; unfold plB; rw [if_neg h1]
        have HM := Lib.hid hM2
        have HR2 := Lib.hid hR
        have hx : ∀ c ∈ L, c.2.2.1.length ≤ 65536 := fun c hc => right_text (hR c hc)
        have HX := Lib.hid hx
        have HD := Lib.hid hL
        have RM := Lib.hid (fun (W : World) (hW : New w W) => room_any (c := c) (Reads.later HR.out hW) hn2 hx)
        clear hM hM2 ek ha hR hL h hx
        go_enter Tryz.func55, Tryz.ntmps55
        go_wp2_with fail
        refine KN.out.mono ?_
        rintro e w1 ⟨rfl, rfl⟩
        go_wp2_with fail
        refine AR.out.mono ?_
        rintro e w1 ⟨rfl, b1⟩
        go_wp2_with fail
        refine (RM.out _ b1).mono ?_
        rintro e w2 ⟨r, rfl, hr, b2⟩
        have b02 := New.trans b1 b2
        have hz2 := b02.size
        go_wp2_with (refine wpList_mk elB rfl (.const (.int .i64 0)) (.tmp 27) rfl (W := w) (B := w.heap.size) 0 r rfl rfl rfl rfl (by omega) b02 hz2 rfl (by omega) (by simp only [maxLen]; omega) ?_
                     intro w3 o3 _ b3 hs3)
        go_loopw [6, 31] (fun v i wr => ∃ (k m cc : Nat) (AA : Option Addr), k ≤ L.length ∧ i = .int .i64 (k : Int) ∧ v = .slice AA m cc ∧ Own wr w.heap.size 5 (.slice AA m cc) (nums .u8 ((L.take k).flatMap (plE t))) ∧ Below w.heap.size w wr) (fun _ i _ => L.length - (intOf i).toNat)
        case atStart => exact ⟨0, 0, r, _, Nat.zero_le _, rfl, rfl, by have := o3.base_le hz2; simpa [nums] using this, b3⟩
        case round =>
          obtain ⟨k, m, cc, AA, hk2, rfl, rfl, o, b⟩ := hrel
          clear o3 b3 hs3 b1 b2 b02 hz2
          by_cases hlt : k < L.length
          · obtain ⟨ad, rfl, hb, d0, d1, d2, d3, d4⟩ := (Reads.later HR.out b).cell5 hlt
            have hmem : L.getD k (false, 0, [], 0, 0) ∈ L := by rw [List.getD_eq_getElem?_getD, List.getElem?_eq_getElem hlt]; exact List.getElem_mem hlt
            have hfs := flat_snoc (t := t) hlt
            have hfl := flat_len (L.take k) (fun c hc => HR2.out c (List.mem_of_mem_take hc)) (fun c hc => HX.out c (List.mem_of_mem_take hc))
            rw [List.length_take] at hfl
            have hm : m ≤ 100000000000 := by have := o.len; rw [nums_length] at this; have := Nat.min_le_left k L.length; omega
            have h8 := HD.out _ hmem
            have hry := HR2.out _ hmem
            clear hmem hfl
            generalize L.getD k (false, 0, [], 0, 0) = y at *
            have hz := b.size
            have ha : New wr (wr.alloc (.cells (cellV y).toArray 35)) := (Below.refl _ _).alloc (Nat.le_refl _) _
            have LY := lay_any (W0 := w) (B := w.heap.size) (o.later ha) (b.trans (Below.mono ha hz)) (Nat.le_refl _) (by have := ha.size; omega) hm hry h1 h8.1.2 h8.2
            rw [← hfs] at LY
            obtain ⟨y0, y1, y2, y3, y4⟩ := y
            have LY : Hid (Calls Tryz.prog 71 #[.slice AA m cc, .int .i64 t, .agg #[.bool y0, .int .i64 y1, .string (bstr y2), .int .i64 y3, .int .i64 y4]] (wr.alloc (.cells #[.bool y0, .int .i64 y1, .string (bstr y2), .int .i64 y3, .int .i64 y4] 35)) (LayP w w.heap.size w.heap.size ((L.take (k + 1)).flatMap (plE t)))) := Lib.hid LY
            dsimp only at d0 d1 d2 d3 d4
            clear hfs o b h8 hry
            go_wp2_with fail
            refine LY.out.mono ?_
            rintro e w5 ⟨A5, n5, c5, rfl, o5, b5⟩
            go_wp2_with fail
            go_roundw
            case rel => exact ⟨k + 1, n5, c5, A5, by omega, by go_num, rfl, o5, b5⟩
            case measure => simp [intOf]; omega
          · obtain rfl : k = L.length := by omega
            rw [List.take_length] at o
            go_wp2_with fail
            go_ret2
            rw [HM.out]
            exact ⟨_, _, _, rfl, o, b⟩
  · rw [decide_eq_false hk] at KN ek
    rw [ek] at hM
    simp at hM
    have HM := Lib.hid hM
    clear hM ek AR hL h
    go_enter Tryz.func55, Tryz.ntmps55
    go_wp2_with fail
    refine KN.out.mono ?_
    rintro e w1 ⟨rfl, rfl⟩
    go_wp2_with fail
    go_ret2
    rw [HM.out]
    exact ⟨rfl, Below.refl _ _⟩

end Go.Proofs.YtflaaahcoglflaaGreat
/- Rows of the call's own that lie apart. No program is named here. -/

namespace Go.Hm
open Go Go.RowKit
theorem ownApart {W1 W2 : World} {base : Nat} {e e' : TypeId} {u v : Value} {xs ys : List Value} (h2 : Own W2 W1.heap.size e u xs) (h1 : Own W1 base e' v ys) : u.ownBlock = none ∨ u.ownBlock ≠ v.ownBlock := by
  rcases hu : u.ownBlock with _ | k
  · exact .inl rfl
  · refine .inr fun e => ?_
    have a := (h2.lt k hu).1
    have b := (h1.lt k e.symm).2
    omega
theorem apartNext {W : World} {base : Nat} {e : TypeId} {u v v' : Value} {xs : List Value} (h : u.ownBlock = none ∨ u.ownBlock ≠ v.ownBlock) (d : v'.ownBlock = v.ownBlock ∨ ∃ g, v'.ownBlock = some g ∧ W.heap.size ≤ g) (k : Own W base e u xs) : u.ownBlock = none ∨ u.ownBlock ≠ v'.ownBlock := by
  rcases hu : u.ownBlock with _ | g
  · exact .inl rfl
  · right
    rcases d with d | ⟨g', d, hg⟩
    · rw [d, ← hu]
      rcases h with h | h
      · rw [hu] at h; cases h
      · exact h
    · rw [d]
      intro e
      injection e with e
      have := (k.lt g hu).2
      omega
theorem apart_sym {u v : Value} (h : u.ownBlock = none ∨ u.ownBlock ≠ v.ownBlock) : v.ownBlock = none ∨ v.ownBlock ≠ u.ownBlock := by
  rcases hv : v.ownBlock with _ | k
  · exact .inl rfl
  · refine .inr fun e => ?_
    rcases h with h | h
    · rw [h] at e; cases e
    · exact h (by rw [hv, e])

end Go.Hm
/- The contract of stat.Put. -/

namespace Go.Hm
open Go Go.RowKit
def endsL (t : Int) (s : StatS) : List Nat := plB t [s.2.2.1, s.2.2.2]
/-- Bytes, and behind them those of a stat. -/
def putS (l : List Nat) (t : Int) (s : StatS) : List Nat :=
  if rightS t s then (if s.2.1 then l ++ vp s.1.toNat ++ [1] ++ vp (endsL t s).length ++ endsL t s else l ++ vp s.1.toNat ++ [0]) else l
theorem rightS_n {t : Int} {s : StatS} (h : rightS t s = true) : (0 ≤ t ∧ t ≤ 3) ∧ 0 ≤ s.1 ∧ s.1 ≤ 65536 := by
  unfold rightS at h
  split at h
  · simp at h
  · omega
theorem rightS_has {t : Int} {s : StatS} (h : rightS t s = true) (hh : s.2.1 = true) : rightB s.2.2.1 t false = true ∧ rightB s.2.2.2 t false = true ∧ cmpD t s.2.2.1 s.2.2.2 ≤ 0 := by
  unfold rightS at h
  split at h
  · simp at h
  · simpa [hh] using h
theorem ends_ok {t : Int} {s : StatS} (h : rightS t s = true) (hh : s.2.1 = true) : plOk t [s.2.2.1, s.2.2.2] = true := by
  obtain ⟨h1, h2, -⟩ := rightS_has h hh
  have h3 := (rightS_n h).1
  rw [plOk_iff]
  refine ⟨⟨h3.1, h3.2, by simp⟩, fun c hc => ?_⟩
  simp at hc
  rcases hc with rfl | rfl
  · exact h1
  · exact h2

end Go.Hm

namespace Go.Proofs.YtflaaahcoglflaaGreat
open Go.RowKit Go.Hm
theorem ends_len {t : Int} {s : StatS} (h : rightS t s = true) (hh : s.2.1 = true) : (endsL t s).length ≤ 131112 := by
  obtain ⟨h1, h2, -⟩ := rightS_has h hh
  have a := plE_len h1
  have b := plE_len h2
  have ta : s.2.2.1.2.2.1.length ≤ 65536 := right_text h1
  have tb : s.2.2.2.2.2.1.length ≤ 65536 := right_text h2
  unfold endsL plB
  split
  · rw [low_len]; simp
  · simp only [List.flatMap_cons, List.flatMap_nil, List.append_nil, List.length_append]
    omega
def statData (s : StatS) : Prop := cellData s.2.2.1 ∧ cellData s.2.2.2
theorem statData.fine {s : StatS} (h : statData s) : statFine s := ⟨h.1.1, h.2.1⟩
set_option maxHeartbeats 4000000 in
set_option maxRecDepth 100000 in
theorem stput_any {w : World} {A : Option Addr} {n c : Nat} {l : List Nat} {t : Int} {s : StatS} (h : Reads w w.heap.size 1 A n (nums .u8 l)) (hn : n ≤ 100000000) (hs : statData s) :
    Calls Tryz.prog 44 #[.slice A n c, .int .i64 t, statA s] w (BytesPost (putS l t s) w) := by
  obtain rfl : n = l.length := h.len
  have HR := Lib.hid h
  have SR := fun (W : World) => sright_any (w := W) (t := t) hs.fine
  have hrn := fun (e : rightS t s = true) => rightS_n e
  have PE := fun (e : rightS t s = true) (eh : s.2.1 = true) (W : World) => plain_any (t := t) (c := 2) (Reads.litR W 35 (cellV s.2.2.1 ++ cellV s.2.2.2).toArray 2 5 (recs cellV [s.2.2.1, s.2.2.2]) (by simp [recs]) (by simp [recs, cellV])) (fun y hy => by simp at hy; rcases hy with rfl | rfl; exact hs.1; exact hs.2) (by omega)
  have pe2 := fun (e : rightS t s = true) (eh : s.2.1 = true) => (show plO t [s.2.2.1, s.2.2.2] = some (endsL t s) by unfold plO endsL; rw [if_pos (ends_ok e eh)])
  have hel := fun (e : rightS t s = true) (eh : s.2.1 = true) => ends_len e eh
  obtain ⟨M, hM⟩ : ∃ M, M = putS l t s := ⟨_, rfl⟩
  rw [← hM]
  unfold putS at hM
  clear hs h
  generalize rightS t s = R at *
  generalize endsL t s = E at *
  obtain ⟨nn, b, ⟨p1, p2, p3, p4, p5⟩, ⟨q1, q2, q3, q4, q5⟩⟩ := s
  dsimp only at hrn PE pe2 hel hM
  have SR : Hid (∀ W, Calls Tryz.prog 54 #[.int .i64 t, .agg #[.int .i64 nn, .bool b, .bool p1, .int .i64 p2, .string (bstr p3), .int .i64 p4, .int .i64 p5, .bool q1, .int .i64 q2, .string (bstr q3), .int .i64 q4, .int .i64 q5]] W (NewPost (.bool R) W)) := Lib.hid SR
  show Calls Tryz.prog 44 #[.slice A l.length c, .int .i64 t, .agg #[.int .i64 nn, .bool b, .bool p1, .int .i64 p2, .string (bstr p3), .int .i64 p4, .int .i64 p5, .bool q1, .int .i64 q2, .string (bstr q3), .int .i64 q4, .int .i64 q5]] w (BytesPost M w)
  have B0 := Blk.new w 37 #[.int .i64 nn, .bool b, .bool p1, .int .i64 p2, .string (bstr p3), .int .i64 p4, .int .i64 p5, .bool q1, .int .i64 q2, .string (bstr q3), .int .i64 q4, .int .i64 q5]
  have hb : New w (w.alloc (.cells #[.int .i64 nn, .bool b, .bool p1, .int .i64 p2, .string (bstr p3), .int .i64 p4, .int .i64 p5, .bool q1, .int .i64 q2, .string (bstr q3), .int .i64 q4, .int .i64 q5] 37)) := (Below.refl _ _).alloc (Nat.le_refl _) _
  obtain ⟨x0, x1, x2, x3, x4, x5, x6, x7, x8, x9, x10, x11⟩ := cells12 B0
  have HPE := Lib.hid PE
  have Hpe2 := Lib.hid pe2
  have Hhel := Lib.hid hel
  clear PE pe2 hel
  cases R with
  | false =>
    rw [if_neg (by simp)] at hM
    have HM := Lib.hid hM
    clear hM hrn HPE Hpe2 Hhel
    go_enter Tryz.func44, Tryz.ntmps44
    go_wp2_with fail
    refine (SR.out _).mono ?_
    rintro e w1 ⟨rfl, b1⟩
    have b01 := New.trans hb b1
    have CL := Lib.hid (clone_any (c := c) (Reads.later HR.out b01) (by omega))
    clear b1 hb B0 x0 x1 x2 x3 x4 x5 x6 x7 x8 x9 x10 x11
    go_wp2_with fail
    refine CL.out.mono ?_
    rintro e w2 ⟨A2, n2, c2, rfl, k2, b2⟩
    go_wp2_with fail
    go_ret
    rw [HM.out]
    exact ⟨_, _, _, rfl, k2.base_le b01.size, New.trans b01 b2⟩
  | true =>
    rw [if_pos rfl] at hM
    obtain ⟨-, ⟨n0, n1⟩⟩ := hrn rfl
    clear hrn
    obtain ⟨N, rfl⟩ := Int.eq_ofNat_of_zero_le n0
    rw [Int.toNat_natCast] at hM
    have hw : IntKind.u64.wrap (N : Int) = (N : Int) := by rw [IntKind.wrap_u64]; omega
    have V := vp_len10 (n := N) (by omega)
    cases b with
    | false =>
      rw [if_neg (by simp)] at hM
      have HM := Lib.hid hM
      clear hM HPE Hpe2 Hhel
      go_enter Tryz.func44, Tryz.ntmps44
      go_wp2_with fail
      refine (SR.out _).mono ?_
      rintro e w1 ⟨rfl, b1⟩
      have b01 := New.trans hb b1
      have B1 := B0.below b1 B0.lt
      clear b1 hb B0 x0 x1 x2 x3 x4 x5 x6 x7 x8 x9 x10 x11
      obtain ⟨x0, x1, x2, x3, x4, x5, x6, x7, x8, x9, x10, x11⟩ := cells12 B1
      have P := Lib.hid (put_any A l.length c l N w1 (Reads.later HR.out b01) (by omega) (by omega))
      go_wp2_with fail
      refine P.out.mono ?_
      rintro e w2 ⟨A2, n2, c2, rfl, k2, b2⟩
      have hq2 : n2 ≤ 100000010 := by have := k2.len; rw [nums_length, List.length_append] at this; omega
      have b02 := New.trans b01 b2
      have hz2 := b2.size
      have B2 := B1.below b2 B1.lt
      clear P b2 B1 x0 x1 x2 x3 x4 x5 x6 x7 x8 x9 x10 x11
      obtain ⟨x0, x1, x2, x3, x4, x5, x6, x7, x8, x9, x10, x11⟩ := cells12 B2
      have hz1 := b01.size
      go_wp2_with (refine wpList_pushN elB rfl (.tmp 24) (.tmp 25) rfl (W := w) (B := w.heap.size) (k2.base_le hz1) rfl rfl 0 rfl b02 (Nat.le_refl _) (by omega) (by omega) (by simp only [maxLen]; omega) ?_
                   intro A5 c5 w5 _ _ o5 _ b5 _ _)
      go_ret
      rw [HM.out]
      exact ⟨_, _, _, rfl, o5, b5⟩
    | true =>
      rw [if_pos rfl] at hM
      have PE := HPE.out rfl rfl
      rw [Hpe2.out rfl rfl] at PE
      have hel := Hhel.out rfl rfl
      have PE : Hid (∀ W : World, Calls Tryz.prog 55 #[.int .i64 t, .slice (some ⟨W.heap.size, 0, none⟩) 2 2] (W.alloc (.cells #[.bool p1, .int .i64 p2, .string (bstr p3), .int .i64 p4, .int .i64 p5, .bool q1, .int .i64 q2, .string (bstr q3), .int .i64 q4, .int .i64 q5] 35)) (OptB (some E) (W.alloc (.cells #[.bool p1, .int .i64 p2, .string (bstr p3), .int .i64 p4, .int .i64 p5, .bool q1, .int .i64 q2, .string (bstr q3), .int .i64 q4, .int .i64 q5] 35)))) := Lib.hid PE
      have HM := Lib.hid hM
      clear hM HPE Hpe2 Hhel
      have V2 := vp_len10 (n := E.length) (by omega)
      have P2 := Lib.hid (fun (W : World) => put_any none 0 0 [] E.length W Reads.none_ (by omega) (by omega))
      have hw2 : IntKind.u64.wrap (E.length : Int) = (E.length : Int) := by rw [IntKind.wrap_u64]; omega
      go_enter Tryz.func44, Tryz.ntmps44
      go_wp2_with fail
      refine (SR.out _).mono ?_
      rintro e w1 ⟨rfl, b1⟩
      have b01 := New.trans hb b1
      have B1 := B0.below b1 B0.lt
      clear b1 hb B0 x0 x1 x2 x3 x4 x5 x6 x7 x8 x9 x10 x11
      obtain ⟨x0, x1, x2, x3, x4, x5, x6, x7, x8, x9, x10, x11⟩ := cells12 B1
      have P := Lib.hid (put_any A l.length c l N w1 (Reads.later HR.out b01) (by omega) (by omega))
      go_wp2_with fail
      refine P.out.mono ?_
      rintro e w2 ⟨A2, n2, c2, rfl, k2, b2⟩
      have hq2 : n2 ≤ 100000010 := by have := k2.len; rw [nums_length, List.length_append] at this; omega
      have b02 := New.trans b01 b2
      have hz2 := b2.size
      have hz1 := b01.size
      have B2 := B1.below b2 B1.lt
      have o2 := k2.base_le hz1
      clear P b2 B1 x0 x1 x2 x3 x4 x5 x6 x7 x8 x9 x10 x11 k2
      obtain ⟨x0, x1, x2, x3, x4, x5, x6, x7, x8, x9, x10, x11⟩ := cells12 B2
      go_wp2_with fail
      refine (PE.out _).mono ?_
      rintro e w3 ⟨A3, n3, c3, rfl, k3, b3⟩
      have ha : New w2 (w2.alloc (.cells #[.bool p1, .int .i64 p2, .string (bstr p3), .int .i64 p4, .int .i64 p5, .bool q1, .int .i64 q2, .string (bstr q3), .int .i64 q4, .int .i64 q5] 35)) := (Below.refl _ _).alloc (Nat.le_refl _) _
      have b23 := New.trans ha b3
      have hap := ownApart k3 (o2.later ha)
      have o3 := o2.later b23
      have b03 := New.trans b02 b23
      have hz3 := b23.size
      have hn3 : n3 ≤ 131112 := by have l3 := k3.len; rw [nums_length] at l3; omega
      have HNE : Hid (n3 = E.length) := Lib.hid (by have l3 := k3.len; rwa [nums_length] at l3)
      have P2 : Hid (∀ W, Calls Tryz.prog 42 #[.slice none 0 0, .int .u64 (n3 : Int)] W (BytesPost ([] ++ vp E.length) W)) := Lib.hid (by rw [HNE.out]; exact P2.out)
      have hw2 : IntKind.u64.wrap (n3 : Int) = (n3 : Int) := by rw [IntKind.wrap_u64]; omega
      clear ha b3 b23 o2 b02 B2 x0 x1 x2 x3 x4 x5 x6 x7 x8 x9 x10 x11
      go_wp2_with (refine wpList_pushN elB rfl (.tmp 37) (.tmp 38) rfl (W := w) (B := w.heap.size) o3 rfl rfl 1 rfl b03 (Nat.le_refl _) (by omega) (by omega) (by simp only [maxLen]; omega) ?_
                   intro A5 c5 w5 _ _ o5 g5 b5 _ d5)
      have hap5 := apartNext hap d5 k3
      have k5 := k3.kept g5 hap
      have hz5 := b5.size
      refine (P2.out _).mono ?_
      rintro e w6 ⟨A6, n6, c6, rfl, k6, b6⟩
      rw [List.nil_append] at k6
      have hq6 : n6 ≤ 10 := by have := k6.len; rw [nums_length] at this; omega
      have o6 := o5.later b6
      have k56 := k5.later b6
      have b06 := New.trans b5 b6
      have hz6 := b06.size
      clear k3 k5 o3 b03 o5 b5 b6 hap g5 d5
      go_wp2_with (first
        | (refine wpList_pushesN elB rfl (.tmp 40) (.tmp 44) rfl (W := w) (B := w.heap.size) o6 k6.reads rfl rfl b06 (Nat.le_refl _) (by omega) (by omega) (by simp only [maxLen]; omega) ?_
           intro A7 c7 w7 _ _ o7 g7 b7 _
           have k7 := k56.kept g7 hap5
           have hz7 := b7.size)
        | (refine wpList_pushesN elB rfl (.tmp 46) (.tmp 47) rfl (W := w) (B := w.heap.size) o7 k7.reads rfl rfl b7 (Nat.le_refl _) (by omega) (by omega) (by simp only [maxLen]; omega) ?_
           intro A8 c8 w8 _ _ o8 _ b8 _))
      go_ret
      rw [HM.out]
      exact ⟨_, _, _, rfl, o8, b8⟩

end Go.Proofs.YtflaaahcoglflaaGreat
/- Contracts on columns: cell.Cols, and its answer. -/

namespace Go.Hm
open Go Go.RowKit
abbrev nm (l : List ColS) (i : Nat) : List Nat := (l.getD i ([], 0, false)).1
def nameBad (a : List ColS) (s : List Nat) : Prop := s.length = 0 ∨ 100 < s.length ∨ s ∈ a.map (·.1)
instance (a : List ColS) (s : List Nat) : Decidable (nameBad a s) := by unfold nameBad; exact inferInstance
/-- What is wrong with a column, behind others. -/
def colCk (a : List ColS) (s : List Nat) (t : Int) : Int := if nameBad a s then 1 else if 0 ≤ t ∧ t ≤ 3 then 0 else 3
def colsGo (a : List ColS) : List ColS → Int
  | [] => 0
  | c :: l => if colCk a c.1 c.2.1 = 0 then colsGo (a ++ [c]) l else colCk a c.1 c.2.1
/-- What is wrong with columns. -/
def colsCk (l : List ColS) : Int := if 64 < l.length then 4 else colsGo [] l
theorem colsCk_many {l : List ColS} (h : 64 < l.length) : colsCk l = 4 := by rw [colsCk, if_pos h]
theorem colsCk_few {l : List ColS} (h : ¬ 64 < l.length) : colsCk l = colsGo (l.take 0) (l.drop 0) := by rw [colsCk, if_neg h]; rfl
theorem colsGo_step (l : List ColS) (k : Nat) (h : k < l.length) : colsGo (l.take k) (l.drop k) = if colCk (l.take k) (nm l k) (l.getD k ([], 0, false)).2.1 = 0 then colsGo (l.take (k + 1)) (l.drop (k + 1)) else colCk (l.take k) (nm l k) (l.getD k ([], 0, false)).2.1 := by
  rw [drop_cons_getD l k ([], 0, false) h, colsGo, take_snoc l k ([], 0, false) h]
theorem colsGo_end (l : List ColS) : colsGo (l.take l.length) (l.drop l.length) = 0 := by rw [List.drop_length]; rfl
theorem mem_names {l : List ColS} {s : List Nat} {k : Nat} (hk : k < l.length) : s ∈ (l.take (k + 1)).map (·.1) ↔ s ∈ (l.take k).map (·.1) ∨ nm l k = s := by
  rw [take_snoc l k ([], 0, false) hk, List.map_append, List.mem_append]
  simp [eq_comm, nm]
theorem nameBad_succ {l : List ColS} {s : List Nat} {k : Nat} (hk : k < l.length) : nameBad (l.take (k + 1)) s ↔ nameBad (l.take k) s ∨ nm l k = s := by
  unfold nameBad
  rw [mem_names hk]
  constructor
  · rintro (h | h | h | h)
    · exact .inl (.inl h)
    · exact .inl (.inr (.inl h))
    · exact .inl (.inr (.inr h))
    · exact .inr h
  · rintro ((h | h | h) | h)
    · exact .inl h
    · exact .inr (.inl h)
    · exact .inr (.inr (.inl h))
    · exact .inr (.inr (.inr h))

end Go.Hm

namespace Go.Proofs.YtflaaahcoglflaaGreat
open Go.RowKit Go.Hm
theorem strB (a b : List Nat) (ha : ∀ x ∈ a, x < 256) (hb : ∀ x ∈ b, x < 256) : ((bstr a).toList == (bstr b).toList) = decide (a = b) := bstr_beq ha hb

set_option maxHeartbeats 2000000 in
set_option maxRecDepth 100000 in
theorem checkCol_any {w : World} {A : Option Addr} {n c : Nat} {L : List ColS} {s : List Nat} {t : Int} {nu : Bool} (h : Reads w w.heap.size 3 A n (recs colV L)) (hL : ∀ x ∈ L, ∀ z ∈ x.1, z < 256) (hs : ∀ z ∈ s, z < 256) (hsl : s.length ≤ 140737488351232) (hn : n ≤ 4611686018427387903) :
    Calls Tryz.prog 45 #[.slice A n c, .agg #[.string (bstr s), .int .i64 t, .bool nu]] w (NewPost (.int .i64 (colCk L s t)) w) := by
  obtain rfl := h.lenC
  have z1 := bstr_size s
  have K1 := Lib.hid (fun (hh : nameBad L s) => show colCk L s t = 1 by rw [colCk, if_pos hh])
  have K2 := Lib.hid (fun (hh : ¬ nameBad L s) => show colCk L s t = if 0 ≤ t ∧ t ≤ 3 then 0 else 3 by rw [colCk, if_neg hh])
  generalize colCk L s t = O at *
  obtain ⟨W0, hW0⟩ : ∃ W, W = w.alloc (.cells #[.string (bstr s), .int .i64 t, .bool nu] 39) := ⟨_, rfl⟩
  have b0 : New w W0 := by rw [hW0]; exact (Below.refl _ _).alloc (Nat.le_refl _) _
  have B0 : Blk W0 w.heap.size 39 #[.string (bstr s), .int .i64 t, .bool nu] := by rw [hW0]; exact Blk.new _ _ _
  obtain ⟨x0, x1, x2⟩ := ccells B0
  rw [hW0] at x0 x1 x2
  by_cases h0 : s.length = 0
  · have O1 := Lib.hid (K1.out (.inl h0))
    have e1 : ((s.length : Int) == 0) = true := by simp [h0]
    clear h0 K1 K2 B0 h
    go_enter Tryz.func45, Tryz.ntmps45
    go_wp2
    go_ret
    exact ⟨by rw [O1.out]; rfl, by rw [← hW0]; exact b0⟩
  · have e1 : ((s.length : Int) == 0) = false := beq_eq_false_iff_ne.2 (by omega)
    by_cases h1 : 100 < s.length
    · have O1 := Lib.hid (K1.out (.inr (.inl h1)))
      have e2 : decide (100 < (s.length : Int)) = true := by simp; omega
      clear h0 K1 K2 B0 h
      go_enter Tryz.func45, Tryz.ntmps45
      go_wp2
      go_ret
      exact ⟨by rw [O1.out]; rfl, by rw [← hW0]; exact b0⟩
    · have e2 : decide (100 < (s.length : Int)) = false := by simp; omega
      have K1 := Lib.hid (fun (hh : s ∈ L.map (·.1)) => K1.out (.inr (.inr hh)))
      have K2 := Lib.hid (fun (hh : s ∉ L.map (·.1)) => K2.out (fun h' => by rcases h' with h' | h' | h'; exact h0 h'; exact h1 h'; exact hh h'))
      have r0 := Reads.later h b0
      clear h0 h1 h
      go_enter Tryz.func45, Tryz.ntmps45
      go_wp2
      rw [← hW0]
      clear x0 x1 x2 hW0
      go_loopw [19] (fun i wr => ∃ k : Nat, i = .int .i64 (k : Int) ∧ k ≤ L.length ∧ New W0 wr ∧ Hid (s ∉ (L.take k).map (·.1))) (fun i _ => L.length - (intOf i).toNat)
      case atStart => exact ⟨0, rfl, by omega, New.refl _, Lib.hid (by simp)⟩
      case round =>
        obtain ⟨k, rfl, hk, hb, H⟩ := hrel
        have B1 := B0.below hb B0.lt
        obtain ⟨x0, x1, x2⟩ := ccells B1
        by_cases hlt : k < L.length
        · obtain ⟨ad, rfl, hbk, c0, c1, c2⟩ := (Reads.later r0 hb).colT hlt
          have M := Lib.hid (mem_names (s := s) hlt)
          have hq := strB (nm L k) s (by rw [nm, List.getD_eq_getElem?_getD, List.getElem?_eq_getElem hlt]; exact hL _ (List.getElem_mem hlt)) hs
          have MM := Lib.hid (show nm L k = s → s ∈ L.map (·.1) from fun e => by
            have := (mem_names (s := s) hlt).2 (.inr e)
            exact List.mem_of_mem_take (by rwa [List.map_take] at this))
          unfold nm at *
          generalize (L.getD k ([], 0, false)).1 = s2 at *
          generalize (L.getD k ([], 0, false)).2.1 = t2 at *
          generalize (L.getD k ([], 0, false)).2.2 = n2 at *
          have X := Lib.hid (ccells (B1.alloc (.cells #[.string (bstr s2), .int .i64 t2, .bool n2] 39)))
          have Y := Lib.hid (ccells (Blk.new wr 39 #[.string (bstr s2), .int .i64 t2, .bool n2]))
          have hiz : (k : Int) < (L.length : Int) := by omega
          have b1 : New W0 (wr.alloc (.cells #[.string (bstr s2), .int .i64 t2, .bool n2] 39)) := Below.alloc hb hb.size _
          obtain ⟨q0, q1, q2⟩ := X.out
          obtain ⟨p0, p1, p2⟩ := Y.out
          by_cases he : s2 = s
          · rw [decide_eq_true he] at hq
            have O1 := Lib.hid (K1.out (MM.out he))
            clear he x0 x1 x2
            go_wp2
            go_ret
            exact ⟨by rw [O1.out]; rfl, New.trans b0 b1⟩
          · rw [decide_eq_false he] at hq
            have H2 := Lib.hid (show s ∉ (L.take (k + 1)).map (·.1) from fun hh => by
              rcases M.out.1 hh with hh | hh
              · exact H.out hh
              · exact he hh)
            clear he x0 x1 x2
            go_wp2
            go_roundw
            case rel => exact ⟨k + 1, by go_num, by omega, b1, H2⟩
            case measure => simp [intOf]; omega
        · obtain rfl : k = L.length := by omega
          have H2 := H.out
          rw [List.take_length] at H2
          have O1 := Lib.hid (K2.out H2)
          clear H H2 K1 K2
          go_wp2
          all_goals go_ret
          all_goals
            simp only [beq_iff_eq, beq_eq_false_iff_ne, ne_eq] at *
            refine ⟨?_, New.trans b0 hb⟩
            rw [O1.out]
            first
              | (rw [if_pos (by omega)]; rfl)
              | (rw [if_neg (by omega)]; rfl)

set_option maxHeartbeats 2000000 in
set_option maxRecDepth 100000 in
theorem cols_any {w : World} {A : Option Addr} {n c : Nat} {L : List ColS} (h : Reads w w.heap.size 3 A n (recs colV L)) (hL : ∀ x ∈ L, (∀ z ∈ x.1, z < 256) ∧ x.1.length ≤ 140737488351232) (hc : n ≤ c) (hn : n ≤ 4611686018427387903) :
    Calls Tryz.prog 28 #[.slice A n c] w (NewPost (.int .i64 (colsCk L)) w) := by
  obtain rfl := h.lenC
  by_cases hm : 64 < L.length
  · rw [colsCk_many hm]
    go_enter Tryz.func28, Tryz.ntmps28
    go_wp2
    go_ret
    exact ⟨rfl, New.refl _⟩
  · have HO := Lib.hid (colsCk_few hm)
    generalize colsCk L = O at *
    go_enter Tryz.func28, Tryz.ntmps28
    go_wp2
    go_loopw [11] (fun i wr => ∃ k : Nat, i = .int .i64 (k : Int) ∧ k ≤ L.length ∧ New w wr ∧ Hid (O = colsGo (L.take k) (L.drop k))) (fun i _ => L.length - (intOf i).toNat)
    case atStart => exact ⟨0, rfl, by omega, New.refl _, HO⟩
    case round =>
      obtain ⟨k, rfl, hk, hb, H⟩ := hrel
      by_cases hlt : k < L.length
      · have r1 := Reads.later h hb
        obtain ⟨ad, rfl, hbk, c0, c1, c2⟩ := r1.colT hlt
        have hx : (L.getD k ([], 0, false)) ∈ L := by rw [List.getD_eq_getElem?_getD, List.getElem?_eq_getElem hlt]; exact List.getElem_mem hlt
        obtain ⟨y1, y2⟩ := hL _ hx
        have r2 := r1.take (k := k) (by omega)
        rw [recs_take (f := colV) (sz := 3) (fun _ => rfl) L k (by omega)] at r2
        have S := H.out
        rw [colsGo_step L k hlt] at S
        have P := fun (W : World) (hW : New wr W) => checkCol_any (c := c) (t := (L.getD k ([], 0, false)).2.1) (nu := (L.getD k ([], 0, false)).2.2) (Reads.later r2 hW) (fun x hx => (hL x (List.mem_of_mem_take hx)).1) y1 y2 (by omega)
        have P := Lib.hid P
        generalize hck : colCk (L.take k) (L.getD k ([], 0, false)).1 (L.getD k ([], 0, false)).2.1 = ck at *
        have HS := Lib.hid S
        generalize (L.getD k ([], 0, false)).1 = s2 at *
        generalize (L.getD k ([], 0, false)).2.1 = t2 at *
        generalize (L.getD k ([], 0, false)).2.2 = n2 at *
        clear S hck H hx y1 y2 r1 r2
        have hiz : (k : Int) < (L.length : Int) := by omega
        have hiz2 : (k : Int) ≤ (c : Int) := by omega
        obtain ⟨W1, hW1⟩ : ∃ W, W = wr.alloc (.cells #[.string (bstr s2), .int .i64 t2, .bool n2] 39) := ⟨_, rfl⟩
        have b1 : New wr W1 := by rw [hW1]; exact (Below.refl _ _).alloc (Nat.le_refl _) _
        have Y : Blk W1 wr.heap.size 39 #[.string (bstr s2), .int .i64 t2, .bool n2] := by rw [hW1]; exact Blk.new _ _ _
        go_wp2_with fail
        rw [← hW1]
        clear hW1
        refine wp_region_up New [(true, 0), (true, 1), (true, 2), (true, 3), (false, 4), (true, 5)]
          New.refl New.trans (by kernel_rfl) (by kernel_rfl) (by kernel_rfl) (by kernel_rfl) ?_
        have hU := New.trans b1 (New.drew W1)
        have hV := New.refl W1.drew
        repeat (first
          | (refine up_call rfl rfl (fun K hK => ?_); go_simp
             (with_reducible refine (P.out _ hU).mono ?_)
             rintro e w9 ⟨rfl, b9⟩
             refine hK _ _ b9 ?_
             clear hK
             replace hU := New.trans hU b9
             replace hV := New.trans hV b9)
          | (refine up_quiet rfl rfl (v := ?_) (fun W hW => ?_) ?_; rotate_left; (obtain ⟨x0, x1, x2⟩ := ccells (Y.below (New.trans (New.drew W1) (New.trans hV hW)) Y.lt); go_simp <;> with_reducible rfl); simp only [Act.put, List.setIfInBounds_toArray, List.set_cons_zero, List.set_cons_succ]))
        refine up_nil ?_
        clear Y b1 P
        by_cases hz : ck = 0
        · have HS2 := Lib.hid (show O = colsGo (L.take (k + 1)) (L.drop (k + 1)) by rw [HS.out, if_pos hz])
          subst hz
          go_wp2
          go_roundw
          case rel => exact ⟨k + 1, by go_num, by omega, New.trans hb hU, HS2⟩
          case measure => simp [intOf]; omega
        · have HS2 := Lib.hid (show O = ck by rw [HS.out, if_neg hz])
          have e1 : (ck != 0) = true := by simpa using hz
          clear hz
          go_wp2
          go_ret
          exact ⟨by rw [HS2.out]; rfl, New.trans hb hU⟩
      · obtain rfl : k = L.length := by omega
        have HS2 := Lib.hid (show O = 0 by rw [H.out, colsGo_end])
        go_wp2
        go_ret
        exact ⟨by rw [HS2.out]; rfl, hb⟩

end Go.Proofs.YtflaaahcoglflaaGreat
/- Which columns may be. No program is named here. -/

namespace Go.Hm
open Go Go.RowKit
/-- Which columns may be. -/
def ColsOk (l : List ColS) : Prop := l.length ≤ 64 ∧ (∀ x ∈ l, 0 < x.1.length ∧ x.1.length ≤ 100 ∧ 0 ≤ x.2.1 ∧ x.2.1 ≤ 3) ∧ (l.map (·.1)).Nodup
theorem colsGo_iff : ∀ (l a : List ColS), colsGo a l = 0 ↔ (∀ x ∈ l, 0 < x.1.length ∧ x.1.length ≤ 100 ∧ 0 ≤ x.2.1 ∧ x.2.1 ≤ 3) ∧ (l.map (·.1)).Nodup ∧ ∀ x ∈ l, x.1 ∉ a.map (·.1)
  | [], a => by simp [colsGo]
  | c :: l, a => by
    have key : colCk a c.1 c.2.1 = 0 ↔ (0 < c.1.length ∧ c.1.length ≤ 100 ∧ 0 ≤ c.2.1 ∧ c.2.1 ≤ 3) ∧ c.1 ∉ a.map (·.1) := by
      unfold colCk
      by_cases h : nameBad a c.1
      · rw [if_pos h]
        refine ⟨fun hh => by omega, fun hh => ?_⟩
        rcases h with h | h | h
        · omega
        · omega
        · exact absurd h hh.2
      · rw [if_neg h]
        by_cases h2 : 0 ≤ c.2.1 ∧ c.2.1 ≤ 3
        · rw [if_pos h2]
          refine ⟨fun _ => ⟨⟨?_, ?_, h2.1, h2.2⟩, fun hh => h (.inr (.inr hh))⟩, fun _ => rfl⟩
          · have : ¬ c.1.length = 0 := fun hh => h (.inl hh)
            omega
          · have : ¬ 100 < c.1.length := fun hh => h (.inr (.inl hh))
            omega
        · rw [if_neg h2]
          exact ⟨fun hh => by omega, fun hh => by omega⟩
    have ih := colsGo_iff l (a ++ [c])
    have e : colsGo a (c :: l) = 0 ↔ colCk a c.1 c.2.1 = 0 ∧ colsGo (a ++ [c]) l = 0 := by
      rw [colsGo]
      split
      · rename_i h; exact ⟨fun hh => ⟨h, hh⟩, fun hh => hh.2⟩
      · rename_i h; exact ⟨fun hh => absurd hh h, fun hh => absurd hh.1 h⟩
    rw [e, key, ih]
    simp only [List.forall_mem_cons, List.map_cons, List.nodup_cons, List.map_append, List.map_nil, List.mem_append, List.mem_singleton]
    constructor
    · rintro ⟨⟨h1, h2⟩, h3, h4, h5⟩
      refine ⟨⟨h1, h3⟩, ⟨fun hh => ?_, h4⟩, h2, fun x hx hh => h5 x hx (.inl hh)⟩
      obtain ⟨x, hx, hxe⟩ := List.mem_map.1 hh
      exact h5 x hx (.inr hxe)
    · rintro ⟨⟨h1, h3⟩, ⟨h4, h5⟩, h2, h6⟩
      refine ⟨⟨h1, h2⟩, h3, h5, fun x hx hh => ?_⟩
      rcases hh with hh | hh
      · exact h6 x hx hh
      · exact h4 (List.mem_map.2 ⟨x, hx, hh⟩)
theorem colsCk_iff (l : List ColS) : colsCk l = 0 ↔ ColsOk l := by
  unfold colsCk ColsOk
  split
  · exact ⟨fun hh => by omega, fun hh => by omega⟩
  · rename_i h
    rw [colsGo_iff]
    simp only [List.map_nil, List.not_mem_nil, not_false_eq_true, implies_true, and_true]
    exact ⟨fun hh => ⟨by omega, hh⟩, fun hh => hh.2⟩

end Go.Hm
/- A region that draws its order, whose last part turns what was read: what reads is carried out first, its value holding till the operation t0 comes up, which waits for it. No program is named here. -/

namespace Go.Hm
open Go.RowKit

section
variable {P : Program} {ops : Array Oper} {Q : Exit → Act → World → Prop} {md : Region.Mode} {S : World → Prop} {t0 : Nat}

/-- Whatever order: S holds behind every operation till t0 has come up. -/
def wpAnyT (P : Program) (md : Region.Mode) (ops : Array Oper) (Q : Exit → Act → World → Prop) (t0 : Nat) (S : World → Prop) : Nat → Array Bool → Act → World → Prop
  | 0, listed, a, w => Region.ready md ops listed = [] ∧ Q .normal a w
  | fuel + 1, listed, a, w => (Region.ready md ops listed = [] → Q .normal a w) ∧
    ∀ i ∈ Region.ready md ops listed, wpOp P ops Q i (fun a' w' => ((listed.setIfInBounds i true).getD t0 false = true ∨ S w') ∧ wpAnyT P md ops Q t0 S fuel (listed.setIfInBounds i true) a' w') a w
theorem wpAny_of_T : ∀ (fuel : Nat) (listed : Array Bool) (a : Act) (w : World), wpAnyT P md ops Q t0 S fuel listed a w → wpAny P md ops Q fuel listed a w
  | 0, _, _, _, h => h
  | fuel + 1, _, _, _, h => ⟨h.1, fun i hi => wpOp_mono (fun a' w' h' => wpAny_of_T fuel _ a' w' h'.2) (h.2 i hi)⟩
theorem getD_set_keep {l : Array Bool} {i t : Nat} (h : l.getD t false = true) : (l.setIfInBounds i true).getD t false = true := by
  rw [Array.getD_eq_getD_getElem?] at h ⊢
  rw [Array.getElem?_setIfInBounds]
  split
  · split
    · rfl
    · rename_i e h2; subst e; rw [Array.getElem?_eq_none (by omega)] at h; simp at h
  · exact h
theorem getD_set_other {l : Array Bool} {i t : Nat} (hne : i ≠ t) : (l.setIfInBounds i true).getD t false = l.getD t false := by
  rw [Array.getD_eq_getD_getElem?, Array.getD_eq_getD_getElem?, Array.getElem?_setIfInBounds, if_neg hne]
theorem wpAnyT_weaken {S' : World → Prop} : ∀ (fuel : Nat) (listed : Array Bool) (a : Act) (w : World), (listed.getD t0 false = true ∨ ∀ w, S w → S' w) → wpAnyT P md ops Q t0 S fuel listed a w → wpAnyT P md ops Q t0 S' fuel listed a w
  | 0, _, _, _, _, hh => hh
  | fuel + 1, listed, _, _, h, hh => ⟨hh.1, fun i hi => wpOp_mono (fun a' w' h' => ⟨by
      rcases h with h | h
      · exact .inl (getD_set_keep h)
      · exact h'.1.imp id (h w'), wpAnyT_weaken fuel _ a' w' (h.imp getD_set_keep id) h'.2⟩) (hh.2 i hi)⟩
/-- Taken first. -/
theorem wpAnyT_first {i : Nat} {oi : Oper} {v : Value} (hi : ops[i]? = some oi) (hit : i ≠ t0) (hsel : ∀ (j : Nat) (o : Oper) cs b, ops[j]? = some o → o.op ≠ .select cs b)
    (hQ : ∀ c a w, Q (.panic c) (a.put oi.dst v) w → Q (.panic c) a w) (V : World → Prop)
    (hV : (∀ w, V w) ∨ ((∀ w, S w → V w) ∧ ∃ ot, ops[t0]? = some ot ∧ ∃ e ∈ ot.after, Region.binds md e = true ∧ e.on = i)) :
    ∀ (fuel : Nat) (listed : Array Bool) (a : Act) (w : World),
      (∀ j oj, ops[j]? = some oj → j ≠ i → listed.getD j true = false → (∀ e ∈ oj.after, Region.binds md e = true → e.on ≠ i) → oi.apart ops oj = true) →
      i ∈ Region.ready md ops listed → YieldsIf P ops V oi v a → (listed.getD t0 false = true ∨ S w) → ((∀ w, V w) ∨ listed.getD t0 false = false) →
      wpAnyT P md ops Q t0 S fuel (listed.setIfInBounds i true) (a.put oi.dst v) w → wpAnyT P md ops Q t0 S (fuel + 1) listed a w := by
  have hVw : ∀ (listed : Array Bool) (w : World), (listed.getD t0 false = true ∨ S w) → ((∀ w, V w) ∨ listed.getD t0 false = false) → V w := by
    intro listed w hS ht
    rcases ht with ht | ht
    · exact ht w
    · rcases hS with hS | hS
      · rw [ht] at hS; cases hS
      · rcases hV with hV | hV
        · exact hV w
        · exact hV.1 w hS
  intro fuel
  induction fuel with
  | zero =>
    intro listed a w _ hr hy hS ht H
    refine ⟨fun h => (by rw [h] at hr; cases hr), fun j hj => ?_⟩
    by_cases hji : j = i
    · subst hji
      exact hy.wpOp hi (hVw listed w hS ht) ⟨hS.imp getD_set_keep id, H⟩
    · have := ready_mono hj hji
      rw [H.1] at this
      cases this
  | succ fuel ih =>
    intro listed a w hfree hr hy hS ht H
    refine ⟨fun h => (by rw [h] at hr; cases hr), fun j hj => ?_⟩
    by_cases hji : j = i
    · subst hji
      exact hy.wpOp hi (hVw listed w hS ht) ⟨hS.imp getD_set_keep id, H⟩
    · have h1 := H.2 j (ready_mono hj hji)
      obtain ⟨hjun, oj, hoj, hall⟩ := mem_ready.1 hj
      have hnot : ∀ e ∈ oj.after, Region.binds md e = true → e.on ≠ i := fun e he hb heq => by
        have h1 := hall e he hb
        have h0 := (mem_ready.1 hr).1
        rw [heq] at h1
        rcases Nat.lt_or_ge i listed.size with h' | h'
        · simp [h'] at h0 h1; rw [h0] at h1; cases h1
        · simp [Array.getElem?_eq_none h'] at h1
      have h2 := wpOp_putIf hoj (hfree j oj hoj hji hjun hnot) (fun cs b => hsel i oi cs b hi) (fun cs b => hsel j oj cs b hoj) hQ hy h1
      have hfree' : ∀ k ok, ops[k]? = some ok → k ≠ i → (listed.setIfInBounds j true).getD k true = false →
          (∀ e ∈ ok.after, Region.binds md e = true → e.on ≠ i) → oi.apart ops ok = true := fun k ok hk hki hun hno => by
        refine hfree k ok hk hki ?_ hno
        by_cases hjk : j = k
        · subst hjk; exact hjun
        · rw [getD_set_ne true hjk] at hun; exact hun
      have ht' : (∀ w, V w) ∨ (listed.setIfInBounds j true).getD t0 false = false := by
        rcases hV with hV | ⟨_, ot, hot, e, he, hb, heq⟩
        · exact .inl hV
        · refine ht.imp id fun ht => ?_
          have hjt : j ≠ t0 := by
            rintro rfl
            rw [hoj] at hot
            injection hot with hot
            subst hot
            exact hnot e he hb heq
          rw [getD_set_other hjt]
          exact ht
      refine wpOp_mono (fun a' w' h3 => ?_) h2
      have hS' : (listed.setIfInBounds j true).getD t0 false = true ∨ S w' := by
        refine h3.2.1.imp (fun h4 => ?_) id
        rw [Array.setIfInBounds_comm _ _ (fun e => hji e.symm), getD_set_other hit] at h4
        exact h4
      refine ⟨hS', ih (listed.setIfInBounds j true) a' w' hfree' (ready_mono hr (Ne.symm hji)) h3.1 hS' ht' ?_⟩
      rw [Array.setIfInBounds_comm _ _ hji]
      exact h3.2.2
theorem wpAnyT_take {i : Nat} {oi : Oper} {v : Value} {fuel : Nat} {listed : Array Bool} {a : Act} {w : World} (V : World → Prop) (hi : ops[i]? = some oi) (hit : i ≠ t0)
    (hs : Region.noSelect ops = true) (hf : Region.free md ops listed i = true) (hr : (Region.ready md ops listed).contains i = true)
    (hQ : ∀ c a w, Q (.panic c) (a.put oi.dst v) w → Q (.panic c) a w)
    (hV : (∀ w, V w) ∨ ((∀ w, S w → V w) ∧ ∃ ot, ops[t0]? = some ot ∧ ∃ e ∈ ot.after, Region.binds md e = true ∧ e.on = i))
    (hy : YieldsIf P ops V oi v a) (hS : listed.getD t0 false = true ∨ S w) (ht : (∀ w, V w) ∨ listed.getD t0 false = false)
    (h : wpAnyT P md ops Q t0 S fuel (listed.setIfInBounds i true) (a.put oi.dst v) w) : wpAnyT P md ops Q t0 S (fuel + 1) listed a w :=
  wpAnyT_first hi hit (Region.noSelect_spec hs) hQ V hV fuel listed a w (Region.free_spec hi hf) (by simpa using hr) hy hS ht h

/-- Whether t0 waits for i. -/
def waitsB (md : Region.Mode) (ops : Array Oper) (t0 i : Nat) : Bool := match ops[t0]? with
  | some ot => ot.after.any fun e => Region.binds md e && e.on == i
  | none => false
/-- 0: reads, and t0 waits for it; 1: yields its value in whatever world; 2: comes up alone. -/
def upOkT (ops : Array Oper) (t0 : Nat) : Array Bool → List (Nat × Nat) → Bool
  | listed, [] => (Region.ready .any ops listed).isEmpty
  | listed, (0, i) :: r => (Region.ready .any ops listed).contains i && (Region.free .any ops listed i && (waitsB .any ops t0 i && (decide (i ≠ t0) && (!listed.getD t0 false && upOkT ops t0 (listed.setIfInBounds i true) r))))
  | listed, (1, i) :: r => (Region.ready .any ops listed).contains i && (Region.free .any ops listed i && (decide (i ≠ t0) && upOkT ops t0 (listed.setIfInBounds i true) r))
  | listed, (_, i) :: r => decide (Region.ready .any ops listed = [i]) && upOkT ops t0 (listed.setIfInBounds i true) r

def wpUpT (P : Program) (ops : Array Oper) (R : World → World → Prop) (Q : Exit → Act → World → Prop) (t0 : Nat) : List (Nat × Nat) → Bool → Act → World → Prop
  | [], _, a, w => Q .normal a w
  | (0, i) :: r, d, a, w => ∃ o v, ops[i]? = some o ∧ ((Region.wanted o (yielded ops a.tmps) = true ∧ ∀ w', R w w' → (execOp a.eval o).run P w' = .ok (.value v) w') ∨ (Region.wanted o (yielded ops a.tmps) = false ∧ v = undef)) ∧ wpUpT P ops R Q t0 r d (a.put o.dst v) w
  | (1, i) :: r, d, a, w => ∃ o v, ops[i]? = some o ∧ ((Region.wanted o (yielded ops a.tmps) = true ∧ ∀ w', (execOp a.eval o).run P w' = .ok (.value v) w') ∨ (Region.wanted o (yielded ops a.tmps) = false ∧ v = undef)) ∧ wpUpT P ops R Q t0 r d (a.put o.dst v) w
  | (_, i) :: r, d, a, w => ∃ o, ops[i]? = some o ∧ if Region.wanted o (yielded ops a.tmps) then o.wp P a w (fun a' w' => (d = true ∨ i = t0 ∨ R w w') ∧ wpUpT P ops R Q t0 r (d || i == t0) a' w') (NoPanic Q) else wpUpT P ops R Q t0 r (d || i == t0) (a.put o.dst undef) w

variable {R : World → World → Prop}
theorem waitsB_spec {i : Nat} (h : waitsB md ops t0 i = true) : ∃ ot, ops[t0]? = some ot ∧ ∃ e ∈ ot.after, Region.binds md e = true ∧ e.on = i := by
  unfold waitsB at h
  split at h
  · rename_i ot hot
    rw [Array.any_eq_true] at h
    obtain ⟨j, hj, h⟩ := h
    simp only [Bool.and_eq_true, beq_iff_eq] at h
    exact ⟨ot, hot, ot.after[j], Array.getElem_mem hj, h.1, h.2⟩
  · cases h
theorem wpAnyT_of_up (hrefl : ∀ w, R w w) (htrans : ∀ {x y z}, R x y → R y z → R x z) (hs : Region.noSelect ops = true) :
    ∀ (ord : List (Nat × Nat)) (fuel : Nat) (listed : Array Bool) (d : Bool) (a : Act) (w : World), (d = true → listed.getD t0 false = true) → (∀ i ∈ ord.map (·.2), i < listed.size) → ord.length ≤ fuel → upOkT ops t0 listed ord = true → wpUpT P ops R Q t0 ord d a w → wpAnyT P .any ops (NoPanic Q) t0 (R w) fuel listed a w := by
  intro ord
  induction ord with
  | nil =>
    intro fuel listed d a w _ _ _ hok h
    have hr : Region.ready .any ops listed = [] := by simpa [upOkT] using hok
    cases fuel with
    | zero => exact ⟨hr, NoPanic.normal h⟩
    | succ fuel => exact ⟨fun _ => NoPanic.normal h, by rw [hr]; simp⟩
  | cons x r ih =>
    obtain ⟨b, i⟩ := x
    intro fuel listed d a w hd hsz hl hok h
    obtain ⟨fuel, rfl⟩ : ∃ k, fuel = k + 1 := ⟨fuel - 1, by simp at hl; omega⟩
    have hl' : r.length ≤ fuel := by simp at hl; omega
    have hsz' : ∀ k ∈ r.map (·.2), k < (listed.setIfInBounds i true).size := fun k hk => by rw [Array.size_setIfInBounds]; exact hsz k (by simp at hk ⊢; exact .inr hk)
    have hi0 : i < listed.size := hsz i (by simp)
    match b with
    | 0 =>
      obtain ⟨o, v, ho, hv, hr⟩ := h
      simp only [upOkT, Bool.and_eq_true, decide_eq_true_eq, Bool.not_eq_true'] at hok
      obtain ⟨h1, h2, h3, h4, h5, h6⟩ := hok
      exact wpAnyT_take (R w) ho h4 hs h2 h1 (fun _ _ _ hp => hp) (.inr ⟨fun _ hh => hh, waitsB_spec h3⟩) hv (.inr (hrefl w)) (.inr h5) (ih fuel _ d _ w (fun e => getD_set_keep (hd e)) hsz' hl' h6 hr)
    | 1 =>
      obtain ⟨o, v, ho, hv, hr⟩ := h
      simp only [upOkT, Bool.and_eq_true, decide_eq_true_eq] at hok
      obtain ⟨h1, h2, h3, h4⟩ := hok
      exact wpAnyT_take (fun _ => True) ho h3 hs h2 h1 (fun _ _ _ hp => hp) (.inl fun _ => trivial) (hv.imp (fun hh => ⟨hh.1, fun w' _ => hh.2 w'⟩) id) (.inr (hrefl w)) (.inl fun _ => trivial) (ih fuel _ d _ w (fun e => getD_set_keep (hd e)) hsz' hl' h4 hr)
    | b + 2 =>
      obtain ⟨o, ho, hc⟩ := h
      simp only [upOkT, Bool.and_eq_true, decide_eq_true_eq] at hok
      obtain ⟨h1, h3⟩ := hok
      refine ⟨fun h0 => (by rw [h1] at h0; cases h0), fun j hj => ?_⟩
      rw [h1] at hj
      obtain rfl : j = i := by simpa using hj
      have hd' : (d || j == t0) = true → (listed.setIfInBounds j true).getD t0 false = true := by
        intro e
        rw [Bool.or_eq_true, beq_iff_eq] at e
        rcases e with e | rfl
        · exact getD_set_keep (hd e)
        · rw [Array.getD_eq_getD_getElem?, Array.getElem?_setIfInBounds, if_pos rfl, if_pos hi0]; rfl
      unfold wpOp
      simp only [ho]
      split
      · rename_i hw
        rw [if_pos hw] at hc
        refine .inl (Oper.wp_mono (fun a' w' hh => ?_) hc)
        obtain ⟨hR, hh⟩ := hh
        have hI := ih fuel _ _ a' w' hd' hsz' hl' h3 hh
        by_cases ht : (listed.setIfInBounds j true).getD t0 false = true
        · exact ⟨.inl ht, wpAnyT_weaken fuel _ a' w' (.inl ht) hI⟩
        · have hR' : R w w' := by
            rcases hR with hR | hR | hR
            · exact absurd (getD_set_keep (hd hR)) ht
            · exact absurd (hd' (by simp [hR])) ht
            · exact hR
          exact ⟨.inr hR', wpAnyT_weaken fuel _ a' w' (.inr fun z hz => htrans hR' hz) hI⟩
      · rename_i hw
        rw [if_neg hw] at hc
        exact ⟨.inr (hrefl w), ih fuel _ _ _ w hd' hsz' hl' h3 hc⟩

theorem wp_region_upT {id : Nat} {a : Act} {w : World} (R : World → World → Prop) (t0 : Nat) (ord : List (Nat × Nat)) (hrefl : ∀ w, R w w) (htrans : ∀ {x y z}, R x y → R y z → R x z) (hm : P.follows .mixedOrders = true)
    (hs : Region.noSelect ops = true) (hl : (decide (ord.length ≤ ops.size) && ord.all fun x => decide (x.2 < ops.size)) = true) (hok : upOkT ops t0 (Array.replicate ops.size false) ord = true) (h : wpUpT P ops R Q t0 ord false a w.drew) : (Code.region id ops true).wp P Q a w := by
  simp only [Bool.and_eq_true, decide_eq_true_eq, List.all_eq_true] at hl
  refine wp_region_noPanic (wp_region_any hm (wpAny_of_T _ _ _ _ (wpAnyT_of_up hrefl htrans hs ord ops.size _ false a _ (by simp) ?_ hl.1 hok h)))
  intro i hi
  simp only [List.mem_map] at hi
  obtain ⟨x, hx, rfl⟩ := hi
  rw [Array.size_replicate]
  exact hl.2 x hx

variable {i : Nat} {r : List (Nat × Nat)} {a : Act} {w : World} {d : Bool} {v : Value}
theorem upT_nil (h : Q .normal a w) : wpUpT P ops R Q t0 [] d a w := h

section
variable {dst : Option Tmp} {op : Op} {ty : TypeId} {pos : String} {af : Array Edge} {gd : Option (Nat × Bool)}
theorem upT_quiet (ho : ops[i]? = some ⟨dst, op, ty, pos, af, gd⟩) (hw : Region.wanted ⟨dst, op, ty, pos, af, gd⟩ (yielded ops a.tmps) = true) (hv : ∀ w', R w w' → (execOp a.eval ⟨dst, op, ty, pos, af, gd⟩).run P w' = .ok (.value v) w') (h : wpUpT P ops R Q t0 r d (a.put dst v) w) : wpUpT P ops R Q t0 ((0, i) :: r) d a w :=
  ⟨_, v, ho, .inl ⟨hw, hv⟩, h⟩
theorem upT_pure (ho : ops[i]? = some ⟨dst, op, ty, pos, af, gd⟩) (hw : Region.wanted ⟨dst, op, ty, pos, af, gd⟩ (yielded ops a.tmps) = true) (hv : ∀ w', (execOp a.eval ⟨dst, op, ty, pos, af, gd⟩).run P w' = .ok (.value v) w') (h : wpUpT P ops R Q t0 r d (a.put dst v) w) : wpUpT P ops R Q t0 ((1, i) :: r) d a w :=
  ⟨_, v, ho, .inl ⟨hw, hv⟩, h⟩
theorem upT_call (ho : ops[i]? = some ⟨dst, op, ty, pos, af, gd⟩) (hw : Region.wanted ⟨dst, op, ty, pos, af, gd⟩ (yielded ops a.tmps) = true) (h : ∀ K : Act → World → Prop, (∀ a' w', (d = true ∨ i = t0 ∨ R w w') → wpUpT P ops R Q t0 r (d || i == t0) a' w' → K a' w') → Oper.wp P ⟨dst, op, ty, pos, af, gd⟩ a w K (NoPanic Q)) : wpUpT P ops R Q t0 ((2, i) :: r) d a w :=
  ⟨_, ho, by rw [if_pos hw]; exact h _ fun _ _ h1 h2 => ⟨h1, h2⟩⟩
end
end

section
variable {P : Program} {o : Oper} {a : Act} {Q : Exit → Act → World → Prop} {K : Act → World → Prop}
/-- append(s, x) behind the block that x was laid in, at the operation. -/
theorem wp_push {w : World} {t e : TypeId} {z : Value} {bytes : Nat} (E : ElT P t e z 1 bytes) (s x : Operand)
    (ho : o.op = .call { callee := .builtin .append, args := #[s, x], argTypes := #[t, t] })
    {W : World} {B base : Nat} {v u : Value} {xs : List Value} (hown : Own w base e v xs) (hs : a.eval s = v) (hx : a.eval x = .slice (some ⟨w.heap.size, 0, none⟩) 1 1)
    (hb : Below B W w) (hbB : B ≤ base) (hbase : base ≤ w.heap.size) (h1 : u.oneCell' = true)
    (hn : (xs.length + 1) * bytes ≤ 140737488355328) (hm : xs.length + 1 ≤ maxLen)
    (h : ∀ A' c' w', xs.length + 1 ≤ c' → c' ≤ maxLen → Own w' base e (.slice A' (xs.length + 1) c') (xs ++ [u]) → w.grownBy w' v.ownBlock → Below B W w' → w.heap.size < w'.heap.size → K (a.put o.dst (.slice A' (xs.length + 1) c')) w') :
    Oper.wp P o a (w.alloc (.cells #[u] e)) K Q := by
  obtain ⟨i, hi, hz0, hz1, hz2⟩ := info_parts E.hi
  obtain ⟨v', w', hr, hown', hg, _, _⟩ := run_append_own_at (P := P) (w.alloc (.cells #[u] e)) base t o.type e i z 1 bytes E.ht hi hz0 hz1 hz2 E.hz (by omega) v xs.length xs (World.ownsRow.alloc hown _) ⟨w.heap.size, 0, none⟩ 1 1 [u] rfl (cell_one_new _ _ _) (by simpa using h1) hm hn (by simp; omega)
  have hxl : (xs ++ [u]).length = xs.length + 1 := by simp
  have hown2 : Own w' base e v' (xs ++ [u]) := by unfold Own; rw [hxl]; exact hown'
  obtain ⟨A', c', rfl, hc1, hc2⟩ := hown2.slice
  rw [hxl] at hc1 hown2 hr
  have hg2 : w.grownBy w' v.ownBlock := (World.grownBy_alloc w (.cells #[u] e) v.ownBlock).trans hg
  have hsz := hg.size
  simp at hsz
  unfold Oper.wp execOp
  simp only [ho, resolve, invoke, builtin, Sem.run_bind, Sem.run_pure, Result.andThen_ok, List.map_toArray, List.map_cons, List.map_nil, hs, hx, hr]
  exact h A' c' w' hc1 hc2 hown2 hg2 (hb.grown hg2 (Nat.le_trans hbB hbase) (fun k hk => by have := (hown.lt k hk).1; omega)) (by omega)
/-- append(s, xs...) onto a row of the call's own, at the operation. -/
theorem wp_pushes {w : World} {t e : TypeId} {z : Value} {bytes : Nat} (E : ElT P t e z 1 bytes) (s x : Operand)
    (ho : o.op = .call { callee := .builtin .append, args := #[s, x], argTypes := #[t, t] })
    {W : World} {B base m c : Nat} {v : Value} {xs news : List Value} {ad : Addr} (hown : Own w base e v xs) (hr : Reads w w.heap.size 1 (some ad) m news) (hm0 : 0 < m) (hs : a.eval s = v) (hx : a.eval x = .slice (some ad) m c)
    (hb : Below B W w) (hbB : B ≤ base) (hbase : base ≤ w.heap.size) (h1 : ∀ u ∈ news, u.oneCell' = true)
    (hn : (xs.length + m) * bytes ≤ 140737488355328) (hm : xs.length + m ≤ maxLen)
    (h : ∀ A' c' w', xs.length + m ≤ c' → c' ≤ maxLen → Own w' base e (.slice A' (xs.length + m) c') (xs ++ news) → w.grownBy w' v.ownBlock → Below B W w' → K (a.put o.dst (.slice A' (xs.length + m) c')) w') :
    Oper.wp P o a w K Q := by
  obtain ⟨i, hi, hz0, hz1, hz2⟩ := info_parts E.hi
  have hl : news.length = m := by have := hr.1; omega
  have hcells : ∀ j u, news[j]? = some u → w.cell? (ad.add j) = some u := by
    intro j u hu
    obtain ⟨ad', h', _, hc⟩ := hr.2 hm0
    injection h' with h'
    subst h'
    exact hc j u hu
  obtain ⟨v', w', hr', hown', hg, _, _⟩ := run_append_own_at (P := P) w base t o.type e i z 1 bytes E.ht hi hz0 hz1 hz2 E.hz (by omega) v xs.length xs hown ad m c news (by omega) hcells h1 hm hn hbase
  have hxl : (xs ++ news).length = xs.length + m := by simp [hl]
  have hown2 : Own w' base e v' (xs ++ news) := by unfold Own; rw [hxl]; exact hown'
  obtain ⟨A', c', rfl, hc1, hc2⟩ := hown2.slice
  rw [hxl] at hc1 hown2 hr'
  unfold Oper.wp execOp
  simp only [ho, resolve, invoke, builtin, Sem.run_bind, Sem.run_pure, Result.andThen_ok, List.map_toArray, List.map_cons, List.map_nil, hs, hx, hr']
  exact h A' c' w' hc1 hc2 hown2 hg (hb.grown hg (Nat.le_trans hbB hbase) (fun k hk => by have := (hown.lt k hk).1; omega))
end

end Go.Hm
/- Columns as bytes: plain lists, and the contract of schema.Put. -/

namespace Go.Hm
open Go Go.RowKit
def boolN (b : Bool) : Nat := if b then 1 else 0
def colB (c : ColS) : List Nat := vp c.1.length ++ c.1 ++ [c.2.1.toNat, boolN c.2.2]
def catC (l : List ColS) : List Nat := l.flatMap colB
theorem catC_nil : catC [] = [] := rfl
theorem catC_snoc (l : List ColS) (c : ColS) : catC (l ++ [c]) = catC l ++ (vp c.1.length ++ c.1 ++ [c.2.1.toNat, boolN c.2.2]) := by simp [catC, colB]
theorem catC_cons (l : List ColS) (c : ColS) : catC (c :: l) = (vp c.1.length ++ c.1 ++ [c.2.1.toNat, boolN c.2.2]) ++ catC l := by simp [catC, colB]
theorem catC_len (l : List ColS) (h : ∀ x ∈ l, x.1.length ≤ 100) : (catC l).length ≤ 112 * l.length := by
  induction l with
  | nil => simp [catC]
  | cons c l ih =>
    have h1 := ih fun x hx => h x (by simp [hx])
    have h2 := h c (by simp)
    have h3 := vp_len10 (n := c.1.length) (by omega)
    rw [catC_cons]
    simp only [List.length_append, List.length_cons, List.length_nil] at *
    omega
/-- Columns' bytes behind others; none, if they may not be. -/
def putC (b : List Nat) (l : List ColS) : List Nat := if colsCk l = 0 then b ++ vp l.length ++ catC l else b

end Go.Hm

namespace Go.Proofs.YtflaaahcoglflaaGreat
open Go.RowKit Go.Hm

theorem mark_any (b : Bool) (w : World) : Calls Tryz.prog 43 #[.bool b] w (ValPost (.int .u8 ((boolN b : Nat) : Int)) w) := by
  cases b
  all_goals
    go_enter Tryz.func43, Tryz.ntmps43
    go_wp2
    go_ret
    exact ⟨rfl, rfl⟩

set_option maxHeartbeats 2000000 in
set_option maxRecDepth 100000 in
theorem sput_any {w : World} {A A2 : Option Addr} {n c n2 c2 : Nat} {b : List Nat} {L : List ColS} (h : Reads w w.heap.size 1 A n (nums .u8 b)) (hn : n ≤ 140737488300000) (h2 : Reads w w.heap.size 3 A2 n2 (recs colV L)) (hL : ∀ x ∈ L, (∀ z ∈ x.1, z < 256) ∧ x.1.length ≤ 140737488351232) (hc : n2 ≤ c2) (hn2 : n2 ≤ 4611686018427387903) :
    Calls Tryz.prog 24 #[.slice A n c, .slice A2 n2 c2] w (BytesPost (putC b L) w) := by
  have P0 := Lib.hid (cols_any (c := c2) h2 hL hc hn2)
  obtain rfl := h2.lenC
  by_cases hk : colsCk L = 0
  · rw [hk] at P0
    have HO := Lib.hid (show putC b L = b ++ vp L.length ++ catC L by rw [putC, if_pos hk])
    obtain ⟨m1, m2, _⟩ := (colsCk_iff L).1 hk
    generalize putC b L = O at *
    have M2 := Lib.hid m2
    have HLL := Lib.hid hL
    have vl := vp_len10 (n := L.length) (by omega)
    have VL := Lib.hid vl
    have hln := h.len
    have LN := Lib.hid hln
    clear hk m2 hL hln
    go_enter Tryz.func24, Tryz.ntmps24
    go_wp2_with fail
    refine P0.out.mono ?_
    rintro e w1 ⟨rfl, b1⟩
    have P1 := Lib.hid (put_any A n c b L.length w1 (Reads.later h b1) (by omega) (by omega))
    go_wp2_with fail
    refine P1.out.mono ?_
    rintro e w2 ⟨A3, n3, c3, rfl, k3, b2⟩
    have b02 := New.trans b1 b2
    have Z1 := b1.size
    clear P0 P1 b1 vl
    go_wp2
    go_loopw [5, 20] (fun v i wr => ∃ (k : Nat) (A : Option Addr) (m c5 : Nat), i = .int .i64 (k : Int) ∧ k ≤ L.length ∧ v = .slice A m c5 ∧ Own wr w.heap.size 5 (.slice A m c5) (nums .u8 (b ++ vp L.length ++ catC (L.take k))) ∧ New w wr) (fun _ i _ => L.length - (intOf i).toNat)
    case atStart => exact ⟨0, _, _, _, rfl, by omega, rfl, by rw [List.take_zero, catC_nil, List.append_nil]; exact k3.base_le Z1, b02⟩
    case round =>
      obtain ⟨k, A5, m5, c5, rfl, hk, rfl, o5, b5⟩ := hrel
      have z5 := b5.size
      by_cases hlt : k < L.length
      · obtain ⟨ad, rfl, hbk, d0, d1, d2⟩ := (Reads.later h2 b5).colT hlt
        have hx : (L.getD k ([], 0, false)) ∈ L := by rw [List.getD_eq_getElem?_getD, List.getElem?_eq_getElem hlt]; exact List.getElem_mem hlt
        obtain ⟨x1, x2, x3, x4⟩ := M2.out _ hx
        have y1 := (HLL.out _ hx).1
        have T := take_snoc L k ([], 0, false) hlt
        have q5 : m5 ≤ n + 7200 := by
          have l := o5.len
          have l2 := catC_len (L.take k) (fun x hx => (M2.out x (List.mem_of_mem_take hx)).2.1)
          rw [nums_length, List.length_append, List.length_append] at l
          rw [List.length_take] at l2
          have := VL.out
          have := LN.out
          omega
        have HT := Lib.hid (show b ++ vp L.length ++ catC (L.take (k + 1)) = b ++ vp L.length ++ catC (L.take k) ++ vp (L.getD k ([], 0, false)).1.length ++ (L.getD k ([], 0, false)).1 ++ [(L.getD k ([], 0, false)).2.1.toNat, boolN (L.getD k ([], 0, false)).2.2] by rw [T, catC_snoc]; simp)
        clear T hx
        generalize (L.getD k ([], 0, false)).1 = s2 at *
        generalize (L.getD k ([], 0, false)).2.1 = t2 at *
        generalize (L.getD k ([], 0, false)).2.2 = n2 at *
        obtain ⟨t2, rfl⟩ := Int.eq_ofNat_of_zero_le x3
        rw [Int.toNat_natCast] at HT
        have zs := bstr_size s2
        have vs := vp_len10 (n := s2.length) (by omega)
        have VS := Lib.hid vs
        have Y1 := Lib.hid y1
        have hiz : (k : Int) < (L.length : Int) := by omega
        obtain ⟨W1, hW1⟩ : ∃ W, W = wr.alloc (.cells #[.string (bstr s2), .int .i64 (t2 : Int), .bool n2] 39) := ⟨_, rfl⟩
        have b51 : New w W1 := by rw [hW1]; exact Below.alloc b5 b5.size _
        have Y : Blk W1 wr.heap.size 39 #[.string (bstr s2), .int .i64 (t2 : Int), .bool n2] := by rw [hW1]; exact Blk.new _ _ _
        have o51 : Own W1 w.heap.size 5 (.slice A5 m5 c5) (nums .u8 (b ++ vp L.length ++ catC (L.take k))) := by rw [hW1]; exact o5.alloc _
        have hg7 : wr.heap.size < W1.heap.size := Y.lt
        obtain ⟨p0, p1, p2⟩ := ccells Y
        have P6 := Lib.hid (put_any none 0 0 [] s2.length W1 Reads.none_ (by omega) (by omega))
        rw [hW1] at p0 p1 p2
        rw [hW1] at P6
        clear y1 o5
        have HY := Lib.hid Y
        have HW1 := Lib.hid hW1
        clear Y vs hW1
        go_wp2_with fail
        refine P6.out.mono ?_
        rintro e w7 ⟨A7, n7, c7, rfl, k7, b7⟩
        rw [← HW1.out] at b7 k7
        rw [List.nil_append] at k7
        have b07 := New.trans b51 b7
        have o7 := o51.later b7
        have Y7 := HY.out.below b7 HY.out.lt
        have q7 : n7 ≤ 10 := by have := k7.len; rw [nums_length] at this; have := VS.out; omega
        have r7 := k7.reads
        have z7 := b07.size
        clear b7 k7 P6 p0 p1 p2 o51
        go_wp2_with (first
          | (refine wpList_pushesN elB rfl (.tmp 24) (.tmp 29) rfl (W := w) (B := w.heap.size) o7 r7 rfl rfl b07 (Nat.le_refl _) z7 (by omega) (by simp only [maxLen]; omega) ?_
             intro A8 c8 w8 _ _ o8 g8 b08 _
             have Y8 := Y7.push o7 g8 (by decide)
             obtain ⟨p0, p1, p2⟩ := ccells Y8
             have HY8 := Lib.hid Y8
             have z8 := b08.size
             clear Y8)
          | (refine wpList_pushStr elB strT rfl (.tmp 31) (.tmp 33) rfl (W := w) (B := w.heap.size) o8 Y1.out rfl rfl b08 (Nat.le_refl _) z8 (by omega) ?_
             intro A9 c9 w9 _ _ o9 g9 b09
             have HY9 := Lib.hid (HY8.out.push o8 g9 (by decide))
             have z9 := b09.size
             clear p0 p1 p2))
        have HC := Lib.hid (fun (W : World) (hW : w9.grownBy W (Value.ownBlock (.slice A9 (m5 + n7 + s2.length) c9))) => ccells (HY9.out.grown hW (fun e => o9.blk_ne HY9.out (by decide) e.symm)))
        refine wp_region_up (fun x y => x.grownBy y (Value.ownBlock (.slice A9 (m5 + n7 + s2.length) c9))) [(true, 0), (true, 1), (true, 2), (true, 3), (true, 4), (true, 5), (false, 6), (false, 7), (false, 8), (true, 9)]
          (fun x => World.grownBy.refl x _) World.grownBy.trans (by kernel_rfl) (by kernel_rfl) (by kernel_rfl) (by kernel_rfl) ?_
        have e8 : IntKind.u8.wrap (t2 : Int) = (t2 : Int) := by rw [IntKind.wrap_u8]; omega
        have MK := Lib.hid (fun W => mark_any n2 W)
        generalize hmk : boolN n2 = mk at *
        have o10 : Own (w9.alloc (.cells #[.int .u8 (t2 : Int), .int .u8 (mk : Int)] 5)).drew w.heap.size 5 (.slice A9 (m5 + n7 + s2.length) c9) (nums .u8 (b ++ vp L.length ++ catC (L.take k) ++ vp s2.length ++ s2)) := o9.alloc _
        have r10 : Reads (w9.alloc (.cells #[.int .u8 (t2 : Int), .int .u8 (mk : Int)] 5)).drew (w9.alloc (.cells #[.int .u8 (t2 : Int), .int .u8 (mk : Int)] 5)).drew.heap.size 1 (some ⟨w9.heap.size, 0, none⟩) 2 (nums .u8 [t2, mk]) := Reads.litV w9 5 #[.int .u8 (t2 : Int), .int .u8 (mk : Int)] 2 (nums .u8 [t2, mk]) rfl rfl
        repeat (first
          | (refine up_call rfl rfl (fun K hK => ?_); go_simp
             (with_reducible refine (MK.out _).mono ?_)
             rintro e w11 ⟨rfl, rfl⟩
             refine hK _ _ (World.grownBy.refl _ _) ?_
             clear hK)
          | (refine up_quiet rfl rfl (v := ?_) (fun W hW => ?_) ?_; rotate_left; (obtain ⟨p0, p1, p2⟩ := HC.out W (World.grownBy.trans grown_drew hW); go_simp <;> with_reducible rfl); simp only [Act.put, List.setIfInBounds_toArray, List.set_cons_zero, List.set_cons_succ]))
        refine up_call rfl rfl (fun K hK => ?_)
        go_simp
        refine hK _ _ (World.grownBy_alloc w9.drew _ _) ?_
        clear hK
        refine up_call rfl rfl (fun K hK => ?_)
        have b10 : Below w.heap.size w (w9.alloc (.cells #[.int .u8 (t2 : Int), .int .u8 (mk : Int)] 5)).drew := (b09.alloc z9 _).drew
        refine wp_pushes elB (.tmp 35) (.tmp 42) rfl (W := w) (B := w.heap.size) o10 r10 (by omega) rfl rfl b10 (Nat.le_refl _) b10.size (nums_oneCell _ _) (by rw [← o10.len]; omega) (by rw [← o10.len]; simp only [maxLen]; omega) ?_
        intro A11 c11 w11 _ _ o11 g11 b11
        refine hK _ _ g11 ?_
        clear hK
        rw [← nums_append, ← o10.len] at o11
        rw [← o10.len]
        refine up_quiet rfl rfl (v := ?_) (fun W hW => ?_) ?_
        rotate_left
        · go_simp <;> with_reducible rfl
        simp only [Act.put, List.setIfInBounds_toArray, List.set_cons_zero, List.set_cons_succ]
        refine up_nil ?_
        go_wp2
        go_roundw
        case rel => exact ⟨k + 1, _, _, _, by go_num, by omega, rfl, by rw [HT.out]; exact o11, b11⟩
        case measure => simp [intOf]; omega
      · obtain rfl : k = L.length := by omega
        rw [List.take_length] at o5
        go_wp2
        go_ret
        exact ⟨_, _, _, rfl, by rw [HO.out]; exact o5, b5⟩
  · have HO := Lib.hid (show putC b L = b by rw [putC, if_neg hk])
    generalize putC b L = O at *
    generalize colsCk L = ck at *
    have e1 : (ck != 0) = true := by simpa using hk
    clear hk
    go_enter Tryz.func24, Tryz.ntmps24
    go_wp2_with fail
    refine P0.out.mono ?_
    rintro e w1 ⟨rfl, b1⟩
    have P1 := Lib.hid (clone_any (c := c) (Reads.later h b1) (by omega))
    clear P0
    go_wp2_with fail
    refine P1.out.mono ?_
    rintro e w2 ⟨A3, n3, c3, rfl, k3, b2⟩
    have Z1 := b1.size
    go_wp2
    go_ret
    exact ⟨_, _, _, rfl, by rw [HO.out]; exact k3.base_le Z1, New.trans b1 b2⟩

end Go.Proofs.YtflaaahcoglflaaGreat
/- Footers as records; which are right; their bytes: plain lists. -/

namespace Go.Hm
open Go Go.RowKit
/-- A page: how many bytes, how many rows, its stat. -/
abbrev PageS := Int × Int × StatS
def pageV (p : PageS) : List Value := .int .i64 p.1 :: .int .i64 p.2.1 :: statV p.2.2
/-- A group: how many rows, and of each column its pages. -/
abbrev GroupS := Int × List (List PageS)
/-- A footer. -/
structure FootS where
  cols : List ColS
  rows : Int
  groups : List GroupS
/-- May it be a page of a column? -/
def pageB (t : Int) (nu : Bool) (p : PageS) (most : Int) : Bool :=
  if p.2.1 < 1 ∨ most < p.2.1 ∨ p.1 < 1 ∨ 268435456 < p.1 then false
  else rightS t p.2.2 && (decide (p.2.2.1 ≤ p.2.1) && ((p.2.2.2.1 == decide (p.2.2.1 < p.2.1)) && (nu || decide (p.2.2.1 = 0))))
/-- How many bytes pages have, if they are right, and of so many rows. -/
def chunkS (t : Int) (nu : Bool) : List PageS → Int → Int → Int × Bool
  | [], rows, size => (size, decide (rows = 0))
  | p :: l, rows, size => if pageB t nu p rows then chunkS t nu l (rows - p.2.1) (size + p.1) else (0, false)
def sizesL (l : List PageS) : Int := (l.map (·.1)).sum
def rowsL (l : List PageS) : Int := (l.map (·.2.1)).sum
/-- A chunk is right: each page is, and their rows are so many. -/
def ChunkOk (t : Int) (nu : Bool) (l : List PageS) (rows : Int) : Prop := (∀ p ∈ l, pageB t nu p 65536 = true) ∧ rowsL l = rows
theorem sizesL_cons (p : PageS) (l : List PageS) : sizesL (p :: l) = p.1 + sizesL l := by simp [sizesL]
theorem rowsL_cons (p : PageS) (l : List PageS) : rowsL (p :: l) = p.2.1 + rowsL l := by simp [rowsL]
theorem pageB_most {t : Int} {nu : Bool} {p : PageS} {m : Int} : pageB t nu p m = true ↔ (1 ≤ p.2.1 ∧ p.2.1 ≤ m ∧ 1 ≤ p.1 ∧ p.1 ≤ 268435456) ∧ (rightS t p.2.2 && (decide (p.2.2.1 ≤ p.2.1) && ((p.2.2.2.1 == decide (p.2.2.1 < p.2.1)) && (nu || decide (p.2.2.1 = 0))))) = true := by
  unfold pageB
  split
  · rename_i h
    constructor
    · intro e; cases e
    · rintro ⟨e, _⟩; omega
  · rename_i h
    constructor
    · intro e; exact ⟨by omega, e⟩
    · exact fun e => e.2
theorem pageB_less {t : Int} {nu : Bool} {p : PageS} {m k : Int} (h : pageB t nu p m = true) (hk : p.2.1 ≤ k) : pageB t nu p k = true := by
  obtain ⟨h1, h2⟩ := pageB_most.1 h
  exact pageB_most.2 ⟨by omega, h2⟩
theorem rowsL_pos {t : Int} {nu : Bool} : ∀ {l : List PageS}, (∀ p ∈ l, pageB t nu p 65536 = true) → 0 ≤ rowsL l ∧ (l.length : Int) ≤ rowsL l ∧ 0 ≤ sizesL l ∧ sizesL l ≤ l.length * 268435456
  | [], _ => by simp [rowsL, sizesL]
  | p :: l, h => by
    have h1 := (pageB_most.1 (h p (by simp))).1
    have := rowsL_pos (l := l) fun q hq => h q (by simp [hq])
    rw [rowsL_cons, sizesL_cons, List.length_cons]
    omega
theorem chunkS_iff {t : Int} {nu : Bool} : ∀ (l : List PageS) (rows size : Int), rows ≤ 65536 → ((chunkS t nu l rows size).2 = true ↔ ChunkOk t nu l rows) ∧ (ChunkOk t nu l rows → (chunkS t nu l rows size).1 = size + sizesL l)
  | [], rows, size, _ => by
    simp [chunkS, ChunkOk, rowsL, sizesL]
    omega
  | p :: l, rows, size, hr => by
    unfold chunkS
    by_cases hp : pageB t nu p rows = true
    · rw [if_pos hp]
      have h1 := (pageB_most.1 hp).1
      have ih := chunkS_iff (t := t) (nu := nu) l (rows - p.2.1) (size + p.1) (by omega)
      have hiff : ChunkOk t nu (p :: l) rows ↔ ChunkOk t nu l (rows - p.2.1) := by
        unfold ChunkOk
        rw [rowsL_cons]
        constructor
        · rintro ⟨a, b⟩
          exact ⟨fun q hq => a q (by simp [hq]), by omega⟩
        · rintro ⟨a, b⟩
          refine ⟨fun q hq => ?_, by omega⟩
          rcases List.mem_cons.1 hq with rfl | hq
          · exact pageB_less hp (by omega)
          · exact a q hq
      refine ⟨ih.1.trans hiff.symm, fun hc => ?_⟩
      rw [ih.2 (hiff.1 hc), sizesL_cons]
      omega
    · rw [if_neg hp]
      have hno : ¬ ChunkOk t nu (p :: l) rows := by
        rintro ⟨a, b⟩
        have h1 := a p (by simp)
        have h2 := rowsL_pos (l := l) fun q hq => a q (by simp [hq])
        rw [rowsL_cons] at b
        exact hp (pageB_less h1 (by omega))
      exact ⟨⟨fun h => by simp at h, fun h => absurd h hno⟩, fun h => absurd h hno⟩
/-- All pages of a group, chunk by chunk. -/
def groupSize (g : GroupS) : Int := (g.2.map sizesL).sum
def GroupOk (cols : List ColS) (g : GroupS) : Prop :=
  1 ≤ g.1 ∧ g.2.length = cols.length ∧ ∀ i, i < cols.length → ChunkOk (cols.getD i ([], 0, false)).2.1 (cols.getD i ([], 0, false)).2.2 (g.2.getD i []) g.1
/-- A footer is right. -/
def FootOk (F : FootS) : Prop :=
  ColsOk F.cols ∧ (∀ g ∈ F.groups, GroupOk F.cols g) ∧ (F.groups.map (·.1)).sum = F.rows ∧ F.rows ≤ 65536 ∧ (F.groups.map groupSize).sum ≤ 1073741824
/-- The bytes of a page, of a chunk, of a group, of a footer. -/
def pageL (t : Int) (p : PageS) : List Nat := vp p.1.toNat ++ vp p.2.1.toNat ++ Go.Hm.putS [] t p.2.2
def chunkL (t : Int) (l : List PageS) : List Nat := vp l.length ++ l.flatMap (pageL t)
def chunksL : List ColS → List (List PageS) → List Nat
  | c :: cs, l :: ls => chunkL c.2.1 l ++ chunksL cs ls
  | _, _ => []
def groupL (cols : List ColS) (g : GroupS) : List Nat := vp g.1.toNat ++ chunksL cols g.2
def footL (F : FootS) : List Nat := putC [] F.cols ++ vp F.rows.toNat ++ vp F.groups.length ++ F.groups.flatMap (groupL F.cols)

end Go.Hm
/- varint.Get and varint.Len over a cursor. -/

namespace Go.Hm

theorem vp_app_lt {N b : Nat} {r s : List Nat} (h : b :: s = vp N ++ r) (hb : b < 128) : N = b ∧ r = s := by
  by_cases hN : N < 128
  · rw [vp_lt hN] at h
    simp only [List.cons_append, List.nil_append, List.cons.injEq] at h
    exact ⟨h.1.symm, h.2.symm⟩
  · rw [vp_ge hN] at h
    simp only [List.cons_append, List.cons.injEq] at h
    omega
theorem vp_app_ge {N b : Nat} {r s : List Nat} (h : b :: s = vp N ++ r) (hb : 128 ≤ b) : N % 128 + 128 = b ∧ 0 < N / 128 ∧ s = vp (N / 128) ++ r := by
  by_cases hN : N < 128
  · rw [vp_lt hN] at h
    simp only [List.cons_append, List.nil_append, List.cons.injEq] at h
    omega
  · rw [vp_ge hN] at h
    simp only [List.cons_append, List.cons.injEq] at h
    exact ⟨h.1.symm, by omega, h.2⟩
theorem vp_cons {b N : Nat} (hb : 128 ≤ b) (h8 : b < 256) (hN : 0 < N) : b :: vp N = vp (b - 128 + 128 * N) := by
  rw [vp_ge (n := b - 128 + 128 * N) (by omega)]
  congr 1
  · omega
  · congr 1; omega
theorem vp_app_inj : ∀ (k M N : Nat) (r s : List Nat), M ≤ k → vp M ++ r = vp N ++ s → M = N ∧ r = s := by
  intro k
  induction k using Nat.strongRecOn with
  | ind k ih =>
    intro M N r s hk h
    by_cases hM : M < 128
    · rw [vp_lt hM] at h
      have := vp_app_lt h hM
      exact ⟨this.1.symm, this.2.symm⟩
    · rw [vp_ge hM] at h
      have h1 := vp_app_ge h (by omega)
      have h2 := ih (M / 128) (by omega) _ _ _ _ (Nat.le_refl _) h1.2.2
      exact ⟨by omega, h2.2⟩

/-- After k bytes with the number v in them, what is left of l reads on as the rest of a number. -/
def VIn (l : List Nat) (k v : Nat) (rl : List Nat) : Prop :=
  v < 128 ^ k ∧ (∀ N r, l = vp N ++ r → ∃ N', N = v + 128 ^ k * N' ∧ (k = 0 ∨ 0 < N') ∧ rl = vp N' ++ r) ∧
  (∀ N r, (k = 0 ∨ 0 < N) → rl = vp N ++ r → l = vp (v + 128 ^ k * N) ++ r)
theorem VIn.zero (l : List Nat) : VIn l 0 0 l := ⟨by simp, fun N r h => ⟨N, by simp, .inl rfl, h⟩, fun N r _ h => by simpa using h⟩
theorem VIn.step {l rl : List Nat} {k v b : Nat} (h : VIn l k v (b :: rl)) (hb : 128 ≤ b) (h8 : b < 256) : VIn l (k + 1) (v + 128 ^ k * (b - 128)) rl := by
  obtain ⟨h1, h2, h3⟩ := h
  have hp : 128 ^ (k + 1) = 128 ^ k * 128 := Nat.pow_succ ..
  have hm : 128 ^ k * (b - 128) ≤ 128 ^ k * 127 := Nat.mul_le_mul_left _ (by omega)
  refine ⟨by omega, fun N r e => ?_, fun N r hN e => ?_⟩
  · obtain ⟨N', e1, e2, e3⟩ := h2 N r e
    obtain ⟨f1, f2, f3⟩ := vp_app_ge e3 hb
    refine ⟨N' / 128, ?_, .inr f2, f3⟩
    rw [e1, hp, Nat.mul_assoc, Nat.add_assoc, ← Nat.mul_add]
    congr 2
    omega
  · have hN' : 0 < N := by rcases hN with hN | hN <;> omega
    have := h3 (b - 128 + 128 * N) r (.inr (by omega)) (by rw [e, ← vp_cons hb h8 hN', List.cons_append])
    rw [this, Nat.mul_add, hp, Nat.mul_assoc, Nat.add_assoc]
theorem VIn.done {l rl : List Nat} {k v b : Nat} (h : VIn l k v (b :: rl)) (hb : b < 128) (hk : k = 0 ∨ 0 < b) : l = vp (v + 128 ^ k * b) ++ rl :=
  h.2.2 b rl hk (by rw [vp_lt hb]; rfl)
theorem VIn.not_zero {l rl : List Nat} {k v : Nat} (h : VIn l k v (0 :: rl)) (hk : 0 < k) : ∀ N r, l = vp N ++ r → 18446744073709551616 ≤ N := by
  intro N r e
  obtain ⟨N', _, e2, e3⟩ := h.2.1 N r e
  have := vp_app_lt e3 (by omega)
  omega
theorem VIn.not_nil {l : List Nat} {k v : Nat} (h : VIn l k v []) : ∀ N r, l = vp N ++ r → 18446744073709551616 ≤ N := by
  intro N r e
  obtain ⟨N', _, _, e3⟩ := h.2.1 N r e
  have := vp_pos N'
  have := congrArg List.length e3
  simp at this
  omega
theorem VIn.not_big {l rl : List Nat} {v b : Nat} (h : VIn l 9 v (b :: rl)) (hb : 1 < b) : ∀ N r, l = vp N ++ r → 18446744073709551616 ≤ N := by
  intro N r e
  obtain ⟨N', e1, e2, e3⟩ := h.2.1 N r e
  by_cases hlt : b < 128
  · have := (vp_app_lt e3 hlt).1
    omega
  · have := vp_app_ge e3 (by omega)
    omega
theorem pow128 (k : Nat) : (128 : Nat) ^ k = 2 ^ (7 * k) := by rw [Nat.pow_mul]
theorem VIn.fits {k v b : Nat} (hv : v < 128 ^ k) (hb : b < 128) (hk : k ≤ 8 ∨ (k ≤ 9 ∧ b ≤ 1)) : v + 128 ^ k * b < 18446744073709551616 := by
  rcases hk with hk | ⟨hk, hb1⟩
  · have h1 : (128 : Nat) ^ k ≤ 128 ^ 8 := Nat.pow_le_pow_right (by omega) hk
    have h2 : 128 ^ k * b ≤ 128 ^ 8 * b := Nat.mul_le_mul_right _ h1
    omega
  · have h1 : (128 : Nat) ^ k ≤ 128 ^ 9 := Nat.pow_le_pow_right (by omega) hk
    have h2 : 128 ^ k * b ≤ 128 ^ 9 * b := Nat.mul_le_mul_right _ h1
    omega
theorem andNot128 (b : Nat) (h : b < 256) : bits .andNot .u8 (b : Int) 128 = ((b % 128 : Nat) : Int) := by
  have := u8_andNot_nat b 128 h (by omega)
  rw [show 255 - 128 = 127 from rfl, nat_mask7] at this
  simpa using this
theorem or_step {k v b : Nat} (hv : v < 128 ^ k) (hb : b < 128) (hk : k ≤ 8 ∨ (k ≤ 9 ∧ b ≤ 1)) :
    bits .or .u64 (v : Int) ((b : Int) * 2 ^ (7 * k) % 18446744073709551616) = ((v + 128 ^ k * b : Nat) : Int) := by
  have hf := VIn.fits hv hb hk
  have e2 : (b : Int) * 2 ^ (7 * k) = ((b * 2 ^ (7 * k) : Nat) : Int) := by simp
  have e0 : 128 ^ k * b = b * 2 ^ (7 * k) := by rw [pow128, Nat.mul_comm]
  rw [e2, show (((b * 2 ^ (7 * k) : Nat) : Int) % 18446744073709551616) = ((b * 2 ^ (7 * k) : Nat) : Int) from Int.emod_eq_of_lt (by omega) (by omega),
    u64_or_nat v (b * 2 ^ (7 * k)) (by omega) (by omega), Nat.or_comm, or_shl b v (7 * k) (by rw [← pow128]; exact hv), e0, Nat.add_comm]
theorem or_step2 {k v b : Nat} (hv : v < 128 ^ k) (h8 : b < 256) (hk : k ≤ 8 ∨ (k ≤ 9 ∧ b % 128 ≤ 1)) :
    bits .or .u64 (v : Int) (IntKind.u64.wrap (IntKind.u64.wrap (bits .andNot .u8 (b : Int) 128) * 2 ^ (7 * k))) = ((v + 128 ^ k * (b % 128) : Nat) : Int) := by
  rw [andNot128 b h8, IntKind.wrap_u64, IntKind.wrap_u64, show (((b % 128 : Nat) : Int) % 18446744073709551616) = ((b % 128 : Nat) : Int) from by omega]
  exact or_step hv (by omega) hk

end Go.Hm

namespace Go.Proofs.YtflaaahcoglflaaGreat
open Go.RowKit Go.Hm

def GetPost (g : Nat) (l : List Nat) (w : World) (e : Ending) (w' : World) : Prop :=
  (∃ N r, l = vp N ++ r ∧ N < 18446744073709551616 ∧ e = .returned (.int .u64 (N : Int)) ∧ Cur w' g r false ∧ w.grownBy w' (some g)) ∨
  ((∀ N r, l = vp N ++ r → 18446744073709551616 ≤ N) ∧ e = .returned (.int .u64 0) ∧ Cur w' g [] true ∧ w.grownBy w' (some g))

/-- What holds at the label: no number is there. -/
def GetJ (g : Nat) (l : List Nat) (w : World) (a : Act) (w' : World) : Prop :=
  ∃ (u1 u2 u3 u4 u5 u6 u7 u8 u9 u10 u11 u12 u13 u14 u15 u16 u17 u18 u19 u20 u21 u22 u23 u24 u25 u26 u27 u28 u29 u30 u31 u32 u33 u34 u35 u36 u37 u38 u39 u40 u41 : Value) (rl : List Nat) (bad : Bool), a = { tmps := #[.pointer (some ⟨g, 0, none⟩), u1, u2, u3, u4, u5, u6, u7, u8, u9, u10, u11, u12, u13, u14, u15, u16, u17, u18, u19, u20, u21, u22, u23, u24, u25, u26, u27, u28, u29, u30, u31, u32, u33, u34, u35, u36, u37, u38, u39, u40, u41], defers := [] } ∧ Cur w' g rl bad ∧ w.grownBy w' (some g) ∧ (∀ N r, l = vp N ++ r → 18446744073709551616 ≤ N)

theorem Cur.lt8 {w : World} {g : Nat} {l : List Nat} {bad : Bool} (h : Cur w g l bad) : ∀ x ∈ l, x < 256 := by
  obtain ⟨A, c, _, _, _, _, h5, _⟩ := h
  exact h5

set_option maxHeartbeats 2000000 in
set_option maxRecDepth 100000 in
theorem get_any {w : World} {g : Nat} {l : List Nat} (h : Cur w g l false) (h8 : ∀ x ∈ l, x < 256) :
    Calls Tryz.prog 33 #[.pointer (some ⟨g, 0, none⟩)] w (GetPost g l w) := by
  go_enter Tryz.func33, Tryz.ntmps33
  go_wp2
  refine wp_scope_jumps 0 (GetJ g l w) (fun _ _ => 0) rfl ?_ ?_
  · go_wp2
    go_loopw [3, 4] (fun v i wr => ∃ (k x : Nat) (rl : List Nat), i = .int .i64 ((7 * k : Nat) : Int) ∧ k ≤ 9 ∧ v = .int .u64 (x : Int) ∧ VIn l k x rl ∧ (∀ y ∈ rl, y < 256) ∧ Cur wr g rl false ∧ w.grownBy wr (some g)) (fun _ i _ => 100 - (intOf i).toNat)
    case atStart => exact ⟨0, 0, l, rfl, by omega, rfl, VIn.zero l, h8, h, Far.refl g w⟩
    case round =>
      obtain ⟨k, x, rl, rfl, hk, rfl, hV, h8', hC, hg⟩ := hrel
      have HV := Lib.hid hV
      cases rl with
      | nil =>
        have B := Lib.hid (byte_bad hC (.inr (by simp)))
        go_wp2_with (first
          | (go_at_call 48; refine B.out.mono ?_; rintro e w1 ⟨rfl, C1, g1⟩
             have hB := Lib.hid (bad_any C1))
          | (go_at_call 15; refine hB.out.mono ?_; rintro e w2 ⟨rfl, rfl⟩)
          | go_step3)
        exact ⟨rfl, _, _, _, _, _, _, _, _, _, _, _, _, _, _, _, _, _, _, _, _, _, _, _, _, _, _, _, _, _, _, _, _, _, _, _, _, _, _, _, _, _, _, _, rfl, C1, Far.trans hg g1, HV.out.not_nil⟩
      | cons b rl =>
        have hb8 : b < 256 := h8' b (by simp)
        have B := Lib.hid (byte_app hC)
        have hx := hV.1
        clear hV
        by_cases hz : 0 < k ∧ b = 0
        · obtain ⟨hz, rfl⟩ := hz
          go_wp2_with (first
            | (go_at_call 48; refine B.out.mono ?_; rintro e w1 ⟨rfl, C1, g1⟩
               have hB := Lib.hid (bad_any C1))
            | (go_at_call 15; refine hB.out.mono ?_; rintro e w2 ⟨rfl, rfl⟩)
            | go_step3)
          all_goals first
            | (exfalso; omega)
            | exact ⟨rfl, _, _, _, _, _, _, _, _, _, _, _, _, _, _, _, _, _, _, _, _, _, _, _, _, _, _, _, _, _, _, _, _, _, _, _, _, _, _, _, _, _, _, _, rfl, C1, Far.trans hg g1, HV.out.not_zero hz⟩
        · by_cases h9 : k = 9
          · subst h9
            by_cases hb1 : 1 < b
            · go_wp2_with (first
              | (go_at_call 48; refine B.out.mono ?_; rintro e w1 ⟨rfl, C1, g1⟩
                 have hB := Lib.hid (bad_any C1))
              | (go_at_call 15; refine hB.out.mono ?_; rintro e w2 ⟨rfl, rfl⟩)
              | go_step3)
              all_goals first
                | (exfalso; omega)
                | exact ⟨rfl, _, _, _, _, _, _, _, _, _, _, _, _, _, _, _, _, _, _, _, _, _, _, _, _, _, _, _, _, _, _, _, _, _, _, _, _, _, _, _, _, _, _, _, rfl, C1, Far.trans hg g1, HV.out.not_big hb1⟩
            · have HO := or_step2 hx hb8 (.inr ⟨by omega, by omega⟩)
              rw [show (2 : Int) ^ (7 * 9) = 9223372036854775808 from by decide, show b % 128 = b from by omega] at HO
              go_wp2_with (first
                | (go_at_call 48; refine B.out.mono ?_; rintro e w1 ⟨rfl, C1, g1⟩
                   have hB := Lib.hid (bad_any C1))
                | (go_at_call 15; refine hB.out.mono ?_; rintro e w2 ⟨rfl, rfl⟩)
                | go_step3)
              all_goals first
                | (rename_i hq; exfalso; rcases hq with hq | hq; (simp at hq; omega); omega)
                | (simp only [Exit.jump]; go_ret
                   exact .inl ⟨_, _, HV.out.done (by omega) (.inl (by omega)), VIn.fits hx (by omega) (.inr ⟨by omega, by omega⟩), by simp, C1, Far.trans hg g1⟩)
                | (simp only [Exit.jump]; go_ret
                   exact .inl ⟨_, _, HV.out.done (by omega) (.inr (by omega)), VIn.fits hx (by omega) (.inr ⟨by omega, by omega⟩), by simp, C1, Far.trans hg g1⟩)
          · have HO := or_step2 hx hb8 (.inl (by omega))
            go_wp2_with (first
              | (go_at_call 48; refine B.out.mono ?_; rintro e w1 ⟨rfl, C1, g1⟩
                 have hB := Lib.hid (bad_any C1))
              | (go_at_call 15; refine hB.out.mono ?_; rintro e w2 ⟨rfl, rfl⟩)
              | go_step3)
            all_goals first
              | (exfalso; omega)
              | (simp only [Exit.jump]; go_ret
                 exact .inl ⟨x + 128 ^ k * b, rl, HV.out.done (by omega) (by omega), VIn.fits hx (by omega) (.inl (by omega)), by rw [show ((b : Int) % 128) = (b : Int) from by omega]; simp, C1, Far.trans hg g1⟩)
              | (go_roundw
                 case rel => exact ⟨k + 1, x + 128 ^ k * (b - 128), rl, by go_num, by omega, by rw [show ((b : Int) % 128) = ((b - 128 : Nat) : Int) from by omega]; simp, HV.out.step (by omega) hb8, fun y hy => h8' y (List.mem_cons_of_mem _ hy), C1, Far.trans hg g1⟩
                 case measure => simp [intOf]; omega)
  · rintro a' w' ⟨u, u, u, u, u, u, u, u, u, u, u, u, u, u, u, u, u, u, u, u, u, u, u, u, u, u, u, u, u, u, u, u, u, u, u, u, u, u, u, u, u, rl, bad, rfl, C1, hg, hno⟩
    have hF := Lib.hid (fail_any C1)
    go_wp2_with (go_at_call 32; refine hF.out.mono ?_; rintro e w2 ⟨rfl, C2, g2⟩)
    simp only [Exit.jump]
    go_ret
    exact .inr ⟨hno, rfl, C2, Far.trans hg g2⟩

set_option maxHeartbeats 2000000 in
set_option maxRecDepth 100000 in
theorem get_bad {w : World} {g : Nat} {l : List Nat} {bad : Bool} (h : Cur w g l bad) (hn : bad = true ∨ l.length < 1) :
    Calls Tryz.prog 33 #[.pointer (some ⟨g, 0, none⟩)] w (CurPost (.returned (.int .u64 0)) g [] true w) := by
  have B := Lib.hid (byte_bad h hn)
  clear hn
  go_enter Tryz.func33, Tryz.ntmps33
  go_wp2
  refine wp_scope_jumps 0 (GetJ g [] w) (fun _ _ => 0) rfl ?_ ?_
  · go_wp2
    refine wp_loop_rounds 1 ?_
    rw [rounds_succ]
    go_wp2_with (first
      | (go_at_call 48; refine B.out.mono ?_; rintro e w1 ⟨rfl, C1, g1⟩
         have hB := Lib.hid (bad_any C1))
      | (go_at_call 15; refine hB.out.mono ?_; rintro e w2 ⟨rfl, rfl⟩)
      | go_step3)
    exact ⟨rfl, _, _, _, _, _, _, _, _, _, _, _, _, _, _, _, _, _, _, _, _, _, _, _, _, _, _, _, _, _, _, _, _, _, _, _, _, _, _, _, _, _, _, _, rfl, C1, g1, (VIn.zero []).not_nil⟩
  · rintro a' w' ⟨u, u, u, u, u, u, u, u, u, u, u, u, u, u, u, u, u, u, u, u, u, u, u, u, u, u, u, u, u, u, u, u, u, u, u, u, u, u, u, u, u, rl, bad', rfl, C1, hg, hno⟩
    have hF := Lib.hid (fail_any C1)
    go_wp2_with (go_at_call 32; refine hF.out.mono ?_; rintro e w2 ⟨rfl, C2, g2⟩)
    simp only [Exit.jump]
    go_ret
    exact ⟨rfl, C2, Far.trans hg g2⟩

theorem get_app {w : World} {g N : Nat} {r : List Nat} (h : Cur w g (vp N ++ r) false) (hN : N < 18446744073709551616) :
    Calls Tryz.prog 33 #[.pointer (some ⟨g, 0, none⟩)] w (CurPost (.returned (.int .u64 (N : Int))) g r false w) :=
  (get_any h h.lt8).mono fun e w' hp => by
    rcases hp with ⟨M, s, h1, h2, h3, h4, h5⟩ | ⟨h1, _⟩
    · obtain ⟨rfl, rfl⟩ := vp_app_inj N N M r s (Nat.le_refl _) h1
      exact ⟨h3, h4, h5⟩
    · have := h1 N r rfl
      omega
theorem get_no {w : World} {g : Nat} {l : List Nat} {bad : Bool} (h : Cur w g l bad) (hN : bad = true ∨ ∀ N r, l = vp N ++ r → 18446744073709551616 ≤ N) :
    Calls Tryz.prog 33 #[.pointer (some ⟨g, 0, none⟩)] w (CurPost (.returned (.int .u64 0)) g [] true w) := by
  cases bad with
  | true => exact get_bad h (.inl rfl)
  | false =>
    refine (get_any h h.lt8).mono fun e w' hp => ?_
    rcases hp with ⟨M, s, h1, h2, h3, h4, h5⟩ | ⟨h1, h2, h3, h4⟩
    · rcases hN with hN | hN
      · simp at hN
      · have := hN M s h1
        omega
    · exact ⟨h2, h3, h4⟩

set_option maxHeartbeats 400000 in
theorem len_app {w : World} {g N : Nat} {r : List Nat} {m : Int} (h : Cur w g (vp N ++ r) false) (hN : (N : Int) ≤ m) (hm : m ≤ 9223372036854775807) :
    Calls Tryz.prog 14 #[.pointer (some ⟨g, 0, none⟩), .int .i64 m] w (CurPost (.returned (.int .i64 (N : Int))) g r false w) := by
  have G := Lib.hid (get_app h (by omega))
  go_enter Tryz.func14, Tryz.ntmps14
  go_wp2_with (go_at_call 33; refine G.out.mono ?_; rintro e w1 ⟨rfl, C1, g1⟩)
  go_ret
  exact ⟨rfl, C1, g1⟩
set_option maxHeartbeats 400000 in
theorem len_no {w : World} {g : Nat} {l : List Nat} {bad : Bool} {m : Int} (h : Cur w g l bad) (hN : bad = true ∨ ∀ N r, l = vp N ++ r → m < N) (hm0 : -9223372036854775808 ≤ m) (hm : m ≤ 9223372036854775807) :
    Calls Tryz.prog 14 #[.pointer (some ⟨g, 0, none⟩), .int .i64 m] w (CurPost (.returned (.int .i64 0)) g [] true w) := by
  by_cases hG : bad = true ∨ ∀ N r, l = vp N ++ r → 18446744073709551616 ≤ N
  · have G := Lib.hid (get_no h hG)
    clear hG hN
    go_enter Tryz.func14, Tryz.ntmps14
    by_cases hm1 : m < 0
    · go_wp2_with (first
        | (go_at_call 33; refine G.out.mono ?_; rintro e w1 ⟨rfl, C1, g1⟩
           have hF := Lib.hid (fail_any C1))
        | (go_at_call 32; refine hF.out.mono ?_; rintro e w2 ⟨rfl, C2, g2⟩))
      go_ret
      exact ⟨rfl, C2, Far.trans g1 g2⟩
    · go_wp2_with (first
        | (go_at_call 33; refine G.out.mono ?_; rintro e w1 ⟨rfl, C1, g1⟩))
      go_ret
      exact ⟨rfl, C1, g1⟩
  · simp only [not_or, Classical.not_forall] at hG
    obtain ⟨hb, N, r, rfl, hlt⟩ := hG
    have hb' : bad = false := by simpa using hb
    subst hb'
    have hmN : m < N := by rcases hN with hN | hN; exact absurd hN hb; exact hN N r rfl
    have G := Lib.hid (get_app h (by omega))
    clear hN hb
    go_enter Tryz.func14, Tryz.ntmps14
    by_cases hm1 : m < 0
    · go_wp2_with (first
        | (go_at_call 33; refine G.out.mono ?_; rintro e w1 ⟨rfl, C1, g1⟩
           have hF := Lib.hid (fail_any C1))
        | (go_at_call 32; refine hF.out.mono ?_; rintro e w2 ⟨rfl, C2, g2⟩))
      go_ret
      exact ⟨rfl, C2, Far.trans g1 g2⟩
    · go_wp2_with (first
        | (go_at_call 33; refine G.out.mono ?_; rintro e w1 ⟨rfl, C1, g1⟩
           have hF := Lib.hid (fail_any C1))
        | (go_at_call 32; refine hF.out.mono ?_; rintro e w2 ⟨rfl, C2, g2⟩))
      go_ret
      exact ⟨rfl, C2, Far.trans g1 g2⟩

end Go.Proofs.YtflaaahcoglflaaGreat
/- What is read off bytes, step by step, as plain functions: the state is what is left, or none if bad. No program is named here. -/

namespace Go.Hm
theorem vq_lt {N b : Nat} {r s : List Nat} (h : b :: s = vp N ++ r) (hb : b < 128) : N = b ∧ r = s := by
  by_cases hN : N < 128
  · rw [vp_lt hN] at h; simp at h; exact ⟨h.1.symm, h.2.symm⟩
  · rw [vp_ge hN] at h; simp at h; omega
theorem vq_ge {N b : Nat} {r s : List Nat} (h : b :: s = vp N ++ r) (hb : 128 ≤ b) : N % 128 + 128 = b ∧ 0 < N / 128 ∧ s = vp (N / 128) ++ r := by
  by_cases hN : N < 128
  · rw [vp_lt hN] at h; simp at h; omega
  · rw [vp_ge hN] at h; simp at h; exact ⟨h.1.symm, by omega, h.2⟩
/-- A number of at most f bytes. -/
def pv : Nat → List Nat → Option (Nat × List Nat)
  | 0, _ => none
  | _ + 1, [] => none
  | f + 1, b :: r => if b < 128 then some (b, r) else
      match pv f r with
      | some (0, _) => none
      | some (N + 1, r') => some (b - 128 + 128 * (N + 1), r')
      | none => none
theorem pv_app : ∀ (f N : Nat) (r : List Nat), (vp N).length ≤ f → pv f (vp N ++ r) = some (N, r) := by
  intro f
  induction f with
  | zero => intro N r h; have := vp_pos N; omega
  | succ f ih =>
    intro N r h
    by_cases hN : N < 128
    · rw [vp_lt hN]; simp [pv, hN]
    · rw [vp_ge hN] at h ⊢
      simp only [List.cons_append, pv]
      rw [if_neg (by omega), ih (N / 128) r (by simpa using h)]
      obtain ⟨m, hm⟩ : ∃ m, N / 128 = m + 1 := ⟨N / 128 - 1, by omega⟩
      simp only [hm]
      congr 2
      omega
theorem pv_some : ∀ (f N : Nat) (l r : List Nat), (∀ x ∈ l, x < 256) → pv f l = some (N, r) → l = vp N ++ r ∧ (vp N).length ≤ f := by
  intro f
  induction f with
  | zero => intro N l r _ h; simp [pv] at h
  | succ f ih =>
    intro N l r h8 h
    cases l with
    | nil => simp [pv] at h
    | cons b s =>
      simp only [pv] at h
      by_cases hb : b < 128
      · rw [if_pos hb] at h
        simp only [Option.some.injEq, Prod.mk.injEq] at h
        obtain ⟨rfl, rfl⟩ := h
        rw [vp_lt hb]; simp
      · rw [if_neg hb] at h
        split at h
        · simp at h
        · rename_i M r' hM
          simp only [Option.some.injEq, Prod.mk.injEq] at h
          obtain ⟨rfl, rfl⟩ := h
          obtain ⟨h1, h2⟩ := ih _ _ _ (fun x hx => h8 x (by simp [hx])) hM
          have hb2 := h8 b (by simp)
          rw [vp_ge (by omega), show (b - 128 + 128 * (M + 1)) / 128 = M + 1 by omega, show (b - 128 + 128 * (M + 1)) % 128 + 128 = b by omega, List.cons_append, ← h1]
          refine ⟨rfl, by simp; exact h2⟩
        · simp at h
/-- The number that l begins with, and what is behind it. -/
def gv (l : List Nat) : Option (Nat × List Nat) :=
  match pv 10 l with
  | some (N, r) => if N < 18446744073709551616 then some (N, r) else none
  | none => none
theorem gv_app (N : Nat) (r : List Nat) (hN : N < 18446744073709551616) : gv (vp N ++ r) = some (N, r) := by
  unfold gv
  rw [pv_app 10 N r (vp_len10 hN)]
  simp [hN]
theorem gv_some {l r : List Nat} {N : Nat} (h8 : ∀ x ∈ l, x < 256) (h : gv l = some (N, r)) : l = vp N ++ r ∧ N < 18446744073709551616 := by
  unfold gv at h
  split at h
  · rename_i M s hM
    split at h
    · simp only [Option.some.injEq, Prod.mk.injEq] at h
      obtain ⟨rfl, rfl⟩ := h
      exact ⟨(pv_some _ _ _ _ h8 hM).1, ‹_›⟩
    · cases h
  · cases h
theorem gv_none {l : List Nat} (h : gv l = none) : ∀ N r, l = vp N ++ r → 18446744073709551616 ≤ N := by
  intro N r hl
  rcases Nat.lt_or_ge N 18446744073709551616 with hN | hN
  · rw [hl, gv_app N r hN] at h
    cases h
  · exact hN

/-- The states: what is left; none: bad. -/
abbrev St := Option (List Nat)
def getS : St → Nat × St
  | none => (0, none)
  | some l => match gv l with
    | some (N, r) => (N, some r)
    | none => (0, none)
def lenS (m : Int) (S : St) : Nat × St :=
  match getS S with
  | (N, some r) => if (N : Int) ≤ m then (N, some r) else (0, none)
  | (_, none) => (0, none)
def byteS : St → Nat × St
  | some (b :: r) => (b, some r)
  | _ => (0, none)
def takeS (n : Int) : St → List Nat × St
  | some l => if 0 ≤ n ∧ n ≤ (l.length : Int) then (l.take n.toNat, some (l.drop n.toNat)) else ([], none)
  | none => ([], none)
def endS (S : St) : Bool := decide (S = some [])
/-- All that is left are bytes. -/
def St.ok (S : St) : Prop := ∀ l, S = some l → ∀ x ∈ l, x < 256
theorem St.ok_none : St.ok none := fun _ h => by cases h
theorem St.ok_some {l : List Nat} (h : ∀ x ∈ l, x < 256) : St.ok (some l) := fun _ e => by injection e with e; subst e; exact h

theorem getS_app (N : Nat) (r : List Nat) (hN : N < 18446744073709551616) : getS (some (vp N ++ r)) = (N, some r) := by simp [getS, gv_app N r hN]
theorem lenS_app (N : Nat) (r : List Nat) {m : Int} (hN : (N : Int) ≤ m) (hm : m ≤ 9223372036854775807) : lenS m (some (vp N ++ r)) = (N, some r) := by
  simp only [lenS, getS_app N r (by omega), if_pos hN]
theorem lenS_none (m : Int) : lenS m none = (0, none) := rfl
theorem getS_none : getS none = (0, none) := rfl
theorem byteS_none : byteS none = (0, none) := rfl
theorem takeS_none (n : Int) : takeS n none = ([], none) := rfl
theorem lenS_cases (m : Int) (S : St) (hS : S.ok) : lenS m S = (0, none) ∨ ∃ N r, S = some (vp N ++ r) ∧ (N : Int) ≤ m ∧ N < 18446744073709551616 ∧ lenS m S = (N, some r) := by
  unfold lenS getS
  cases S with
  | none => exact .inl rfl
  | some l =>
    simp only
    cases hg : gv l with
    | none => exact .inl rfl
    | some p =>
      obtain ⟨N, r⟩ := p
      obtain ⟨h1, h2⟩ := gv_some (hS l rfl) hg
      simp only
      split
      · exact .inr ⟨N, r, by rw [h1], ‹_›, h2, rfl⟩
      · exact .inl rfl
theorem getS_cases (S : St) (hS : S.ok) : getS S = (0, none) ∨ ∃ N r, S = some (vp N ++ r) ∧ N < 18446744073709551616 ∧ getS S = (N, some r) := by
  unfold getS
  cases S with
  | none => exact .inl rfl
  | some l =>
    simp only
    cases hg : gv l with
    | none => exact .inl rfl
    | some p =>
      obtain ⟨N, r⟩ := p
      obtain ⟨h1, h2⟩ := gv_some (hS l rfl) hg
      exact .inr ⟨N, r, by rw [h1], h2, rfl⟩
theorem takeS_cases (n : Int) (S : St) : takeS n S = ([], none) ∨ ∃ l, S = some l ∧ 0 ≤ n ∧ n ≤ (l.length : Int) ∧ takeS n S = (l.take n.toNat, some (l.drop n.toNat)) := by
  unfold takeS
  cases S with
  | none => exact .inl rfl
  | some l =>
    simp only
    split
    · rename_i h; exact .inr ⟨l, rfl, h.1, h.2, rfl⟩
    · exact .inl rfl
theorem takeS_app (a b : List Nat) : takeS (a.length : Int) (some (a ++ b)) = (a, some b) := by
  simp only [takeS]
  rw [if_pos ⟨by omega, by rw [List.length_append]; omega⟩]
  simp
theorem lenS_le {m : Int} (S : St) (hm : 0 ≤ m) (hS : S.ok) : ((lenS m S).1 : Int) ≤ m := by
  rcases lenS_cases m S hS with h | ⟨N, r, _, h1, _, h⟩
  · rw [h]; exact hm
  · rw [h]; exact h1
theorem lenS_ok {m : Int} {S : St} (hS : S.ok) : (lenS m S).2.ok := by
  rcases lenS_cases m S hS with h | ⟨N, r, h0, _, _, h⟩
  · rw [h]; exact St.ok_none
  · rw [h]; exact St.ok_some fun x hx => hS _ h0 x (by simp [hx])
theorem getS_ok {S : St} (hS : S.ok) : (getS S).2.ok := by
  rcases getS_cases S hS with h | ⟨N, r, h0, _, h⟩
  · rw [h]; exact St.ok_none
  · rw [h]; exact St.ok_some fun x hx => hS _ h0 x (by simp [hx])
theorem getS_lt {S : St} (hS : S.ok) : (getS S).1 < 18446744073709551616 := by
  rcases getS_cases S hS with h | ⟨N, r, h0, h1, h⟩
  · rw [h]; decide
  · rw [h]; exact h1
theorem byteS_ok {S : St} (hS : S.ok) : (byteS S).2.ok := by
  unfold byteS
  split
  · exact St.ok_some fun x hx => hS _ rfl x (by simp [hx])
  · exact St.ok_none
theorem byteS_lt {S : St} (hS : S.ok) : (byteS S).1 < 256 := by
  unfold byteS
  split
  · exact hS _ rfl _ (by simp)
  · decide
theorem takeS_ok {n : Int} {S : St} (hS : S.ok) : (takeS n S).2.ok ∧ ∀ x ∈ (takeS n S).1, x < 256 := by
  rcases takeS_cases n S with h | ⟨l, h0, _, _, h⟩
  · rw [h]; exact ⟨St.ok_none, by simp⟩
  · rw [h]; exact ⟨St.ok_some fun x hx => hS _ h0 x (List.mem_of_mem_drop hx), fun x hx => hS _ h0 x (List.mem_of_mem_take hx)⟩
theorem takeS_len {n : Int} {S : St} (hn : 0 ≤ n) : ((takeS n S).1.length : Int) ≤ n := by
  rcases takeS_cases n S with h | ⟨l, _, h1, h2, h⟩
  · rw [h]; simpa using hn
  · rw [h, List.length_take]; omega
theorem lenS_sub {m : Int} {S : St} (hS : S.ok) : ((lenS m S).2.getD []).length ≤ (S.getD []).length := by
  rcases lenS_cases m S hS with h | ⟨N, r, rfl, _, _, h⟩
  · rw [h]; simp
  · rw [h]; simp
theorem byteS_sub {S : St} : ((byteS S).2.getD []).length ≤ (S.getD []).length := by
  unfold byteS
  split <;> simp

end Go.Hm
/- Contracts of the document's own answer for layer 3. -/

namespace Go.Proofs.YtflaaahcoglflaaGreat
open Go.RowKit Go.Hm

end Go.Proofs.YtflaaahcoglflaaGreat
