/- Texts merged, for a claim has at most 60 files: PlnA, PlnB, StaP, VarG, CurM, RefC, RefCur, RefNum, RefV, CurS. -/
import Derived.ScopeJumps
import Derived.Test.YthdkbfffjlkbpaaBun1
import Derived.Test.YthdkbfffjlkbpaaBun2
import Derived.Test.YthdkbfffjlkbpaaBun3
import Derived.WalkMore
/- Contracts of package plain: what may be laid, a row of bits, how much room. -/

namespace Go.Proofs.Ythdkbfffjlkbpaa
open Go.RowKit Go.Hm
theorem known_any {w : World} {t n : Int} : Calls Try.prog 56 #[.int .i64 t, .int .i64 n] w (ValPost (.bool (decide (0 ≤ t ∧ t ≤ 3 ∧ 0 ≤ n ∧ n ≤ 65536))) w) := by
  by_cases h1 : 0 ≤ t
  all_goals try by_cases h2 : t ≤ 3
  all_goals try by_cases h3 : 0 ≤ n
  all_goals try by_cases h4 : n ≤ 65536
  all_goals
    go_enter Try.func56, Try.ntmps56
    go_wp2
    go_ret
    exact ⟨by simp; try omega, rfl⟩
set_option maxHeartbeats 2000000 in
set_option maxRecDepth 100000 in
theorem allright_any {w : World} {t : Int} {A : Option Addr} {n c : Nat} {L : List CellS} (h : Reads w w.heap.size 5 A n (recs cellV L)) (hL : ∀ y ∈ L, y.2.2.1.length ≤ 140737488351232) (hn : n ≤ 4611686018427387903) :
    Calls Try.prog 57 #[.int .i64 t, .slice A n c] w (NewPost (.bool (L.all fun c => rightB c t false)) w) := by
  obtain rfl := h.lenCell
  have HR := Lib.hid h
  have HL := Lib.hid hL
  clear h hL
  obtain ⟨M, hM⟩ : ∃ M, M = L.all fun c => rightB c t false := ⟨_, rfl⟩
  rw [← hM]
  have HM := Lib.hid hM
  clear hM
  go_enter Try.func57, Try.ntmps57
  go_wp2_with fail
  go_loopw [9] (fun i wr => ∃ k : Nat, k ≤ L.length ∧ i = .int .i64 (k : Int) ∧ New w wr ∧ Hid (∀ c ∈ L.take k, rightB c t false = true)) (fun i _ => L.length - (intOf i).toNat)
  case atStart => exact ⟨0, Nat.zero_le _, rfl, New.refl _, Lib.hid (by simp)⟩
  case round =>
    obtain ⟨k, hk, rfl, hW, hr⟩ := hrel
    by_cases hlt : k < L.length
    · obtain ⟨ad, rfl, hb, d0, d1, d2, d3, d4⟩ := (Reads.later HR.out hW).cell5 hlt
      have htk := take_snoc L k (false, 0, [], 0, 0) hlt
      have hmem : L.getD k (false, 0, [], 0, 0) ∈ L := by rw [List.getD_eq_getElem?_getD, List.getElem?_eq_getElem hlt]; exact List.getElem_mem hlt
      have hy := HL.out _ hmem
      have R1 := fun (W : World) => cright_any (w := W) (b := (L.getD k (false, 0, [], 0, 0)).1) (n := (L.getD k (false, 0, [], 0, 0)).2.1) (s := (L.getD k (false, 0, [], 0, 0)).2.2.1) (x := (L.getD k (false, 0, [], 0, 0)).2.2.2.1) (y := (L.getD k (false, 0, [], 0, 0)).2.2.2.2) (cn := []) (t := t) (nu := false) hy
      have hno : rightB (L.getD k (false, 0, [], 0, 0)) t false = false → M = false := fun e => by
        rw [HM.out]
        refine Bool.eq_false_iff.2 fun e2 => ?_
        have := (List.all_eq_true.1 e2) _ hmem
        rw [e] at this
        cases this
      have hyes : rightB (L.getD k (false, 0, [], 0, 0)) t false = true → ∀ c ∈ L.take (k + 1), rightB c t false = true := fun e c hc => by
        rw [htk] at hc
        rcases List.mem_append.1 hc with hc | hc
        · exact hr.out c hc
        · rw [List.mem_singleton.1 hc]; exact e
      clear htk hmem hy hr
      generalize L.getD k (false, 0, [], 0, 0) = y at *
      obtain ⟨y0, y1, y2, y3, y4⟩ := y
      dsimp only at R1 d0 d1 d2 d3 d4
      generalize rightB (y0, y1, y2, y3, y4) t false = m at *
      have R1 : Hid (∀ W, Calls Try.prog 32 #[.agg #[.bool y0, .int .i64 y1, .string (bstr y2), .int .i64 y3, .int .i64 y4], .agg #[.string ⟨#[]⟩, .int .i64 t, .bool false]] W (NewPost (.bool m) W)) := Lib.hid R1
      have hno := Lib.hid hno
      have hyes := Lib.hid hyes
      have ha : New wr (wr.alloc (.cells #[.bool y0, .int .i64 y1, .string (bstr y2), .int .i64 y3, .int .i64 y4] 29)) := (Below.refl _ _).alloc (Nat.le_refl _) _
      go_wp2_with fail
      refine (R1.out _).mono ?_
      rintro e w1 ⟨rfl, b1⟩
      have hl := New.trans (New.trans hW ha) b1
      cases m with
      | false =>
        have hm := hno.out (by trivial)
        have HM2 := Lib.hid hm
        clear hno hyes hm
        go_wp2_with fail
        go_ret
        exact ⟨by rw [HM2.out]; rfl, hl⟩
      | true =>
        have hy2 := hyes.out (by trivial)
        have HY2 := Lib.hid hy2
        clear hno hyes hy2
        go_wp2_with fail
        go_roundw
        case rel => exact ⟨k + 1, by omega, by go_num, hl, HY2⟩
        case measure => simp [intOf]; omega
    · obtain rfl : k = L.length := by omega
      have hr2 := hr.out
      rw [List.take_length] at hr2
      have HM2 : Hid (M = true) := Lib.hid (by rw [HM.out]; exact List.all_eq_true.2 hr2)
      clear hr hr2
      go_wp2_with fail
      go_ret
      exact ⟨by rw [HM2.out]; rfl, hW⟩
theorem bits_set (L : List CellS) (k : Nat) (h : k < L.length) : (bitsP (L.take k) ++ List.replicate (L.length - k) 0).set k (u64N (L.getD k (false, 0, [], 0, 0)).2.1) = bitsP (L.take (k + 1)) ++ List.replicate (L.length - (k + 1)) 0 := by
  have hl : (bitsP (L.take k)).length = k := by unfold bitsP; rw [List.length_map, List.length_take]; omega
  rw [List.set_append_right _ _ (by omega), hl, Nat.sub_self, show L.length - k = (L.length - (k + 1)) + 1 by omega, List.replicate_succ, List.set_cons_zero, take_snoc L k (false, 0, [], 0, 0) h]
  unfold bitsP
  rw [List.map_append, List.append_assoc]
  rfl
theorem u64_wrapN (n : Int) : IntKind.u64.wrap n = (u64N n : Int) := by
  rw [IntKind.wrap_u64]
  unfold u64N
  omega
set_option maxHeartbeats 2000000 in
set_option maxRecDepth 100000 in
theorem packBools_any {w : World} {A : Option Addr} {n c : Nat} {L : List CellS} (h : Reads w w.heap.size 5 A n (recs cellV L)) (hn : n ≤ 65536) :
    Calls Try.prog 58 #[.slice A n c] w (OptB (packO (bitsP L) 1) w) := by
  obtain rfl := h.lenCell
  have HR := Lib.hid h
  clear h
  go_enter Try.func58, Try.ntmps58
  go_wp2_with (first
    | (refine wpList_mk elW rfl (.tmp 8) (.tmp 8) rfl (W := w) (B := w.heap.size) L.length L.length rfl rfl rfl rfl (by omega) (Below.refl _ _) (Nat.le_refl _) rfl (by omega) (by simp only [maxLen]; omega) ?_
       intro w3 hown3 hg3 hb3 hs3))
  go_loopw [12] (fun i wr => ∃ k : Nat, k ≤ L.length ∧ i = .int .i64 (k : Int) ∧ Own wr w.heap.size 58 (.slice (some ⟨w.heap.size, 0, none⟩) L.length L.length) (nums .u64 (bitsP (L.take k) ++ List.replicate (L.length - k) 0)) ∧ Below w.heap.size w wr) (fun i _ => L.length - (intOf i).toNat)
  case atStart => exact ⟨0, Nat.zero_le _, rfl, by simpa [nums_replicate, bitsP] using hown3, hb3⟩
  case round =>
    obtain ⟨k, hk, rfl, hown, hbl⟩ := hrel
    clear hown3 hg3 hb3 hs3
    by_cases hlt : k < L.length
    · obtain ⟨ad, rfl, hb, d0, d1, d2, d3, d4⟩ := (Reads.later HR.out hbl).cell5 hlt
      have hset := bits_set L k hlt
      have hwr := u64_wrapN (L.getD k (false, 0, [], 0, 0)).2.1
      have hsz := hbl.size
      generalize L.getD k (false, 0, [], 0, 0) = y at *
      obtain ⟨y0, y1, y2, y3, y4⟩ := y
      dsimp only at hset hwr d0 d1 d2 d3 d4
      generalize u64N y1 = z at *
      have ha : New wr (wr.alloc (.cells #[.bool y0, .int .i64 y1, .string (bstr y2), .int .i64 y3, .int .i64 y4] 29)) := (Below.refl _ _).alloc (Nat.le_refl _) _
      obtain ⟨hg0, hgl, hc, hf, hs⟩ := (hown.later ha).num0 (i := k) hlt
      have hs := hs z
      rw [hset] at hs
      have HS := Lib.hid hs
      have hbl2 := New.trans hbl ha
      have HB := Lib.hid (hbl2.setCell (p := ⟨w.heap.size, k, none⟩) (Nat.le_refl _) (.int .u64 (z : Int)))
      clear hset hs hown
      go_wp2_with fail
      go_roundw
      case rel => exact ⟨k + 1, by omega, by go_num, HS.out, HB.out⟩
      case measure => simp [intOf]; omega
    · obtain rfl : k = L.length := by omega
      rw [Nat.sub_self, List.replicate_zero, List.append_nil, List.take_length] at hown
      have P := Lib.hid (pack_any (c := L.length) 1 hown.reads (fun x hx => by unfold bitsP at hx; obtain ⟨y, _, rfl⟩ := List.mem_map.1 hx; have := u64N_lt y.2.1; omega) (by omega) (by omega) (by omega))
      go_wp2_with fail
      refine P.out.mono ?_
      intro e w5 h5
      have hz := hbl.size
      generalize packO (bitsP L) 1 = o at *
      cases o with
      | none =>
        obtain ⟨rfl, b5⟩ := h5
        go_wp2_with fail
        go_ret2
        exact ⟨rfl, hbl.trans (Below.mono b5 hz)⟩
      | some l =>
        obtain ⟨A5, n5, c5, rfl, o5, b5⟩ := h5
        go_wp2_with fail
        go_ret2
        exact ⟨_, _, _, rfl, o5.base_le hz, hbl.trans (Below.mono b5 hz)⟩
theorem vp_max : (vp 18446744073709551615).length = 10 := by
  rw [vp_ge (by omega), vp_ge (by omega), vp_ge (by omega), vp_ge (by omega), vp_ge (by omega), vp_ge (by omega), vp_ge (by omega), vp_ge (by omega), vp_ge (by omega), vp_lt (by omega)]
  rfl
def RoomPost (w : World) (e : Ending) (w' : World) : Prop := ∃ r : Nat, e = .returned (.int .i64 (r : Int)) ∧ r ≤ 10000000000 ∧ New w w'
set_option maxHeartbeats 2000000 in
set_option maxRecDepth 100000 in
theorem room_any {w : World} {A : Option Addr} {n c : Nat} {L : List CellS} (h : Reads w w.heap.size 5 A n (recs cellV L)) (hn : n ≤ 65536) (hL : ∀ y ∈ L, y.2.2.1.length ≤ 65536) :
    Calls Try.prog 59 #[.slice A n c] w (RoomPost w) := by
  obtain rfl := h.lenCell
  have HR := Lib.hid h
  have HL := Lib.hid hL
  clear h hL
  go_enter Try.func59, Try.ntmps59
  go_wp2_with fail
  go_loopw [3, 8] (fun v i wr => ∃ k r : Nat, k ≤ L.length ∧ i = .int .i64 (k : Int) ∧ v = .int .i64 (r : Int) ∧ r ≤ k * 65546 ∧ New w wr) (fun _ i _ => L.length - (intOf i).toNat)
  case atStart => exact ⟨0, 0, Nat.zero_le _, rfl, rfl, by omega, New.refl _⟩
  case round =>
    obtain ⟨k, r, hk, rfl, rfl, hr, hW⟩ := hrel
    by_cases hlt : k < L.length
    · obtain ⟨ad, rfl, hb, d0, d1, d2, d3, d4⟩ := (Reads.later HR.out hW).cell5 hlt
      have hy := HL.out (L.getD k (false, 0, [], 0, 0)) (by rw [List.getD_eq_getElem?_getD, List.getElem?_eq_getElem hlt]; exact List.getElem_mem hlt)
      generalize L.getD k (false, 0, [], 0, 0) = y at *
      obtain ⟨y0, y1, y2, y3, y4⟩ := y
      dsimp only at hy d0 d1 d2 d3 d4
      have zs := bstr_size y2
      have HY := Lib.hid (Blk.new wr 29 #[.bool y0, .int .i64 y1, .string (bstr y2), .int .i64 y3, .int .i64 y4])
      have ha : New wr (wr.alloc (.cells #[.bool y0, .int .i64 y1, .string (bstr y2), .int .i64 y3, .int .i64 y4] 29)) := (Below.refl _ _).alloc (Nat.le_refl _) _
      have SZ : Hid (∀ W, Calls Try.prog 55 #[.int .u64 18446744073709551615] W (ValPost (.int .i64 10) W)) := Lib.hid fun W => (size_any 18446744073709551615 W (by omega)).mono (by
        rintro e w' ⟨rfl, rfl⟩
        exact ⟨by rw [vp_max]; rfl, rfl⟩)
      have w1 : IntKind.i64.wrap (10 + (y2.length : Int)) = 10 + (y2.length : Int) := IntWalk.i64_in _ (by omega)
      have w2 : IntKind.i64.wrap ((r : Int) + (10 + (y2.length : Int))) = (r : Int) + (10 + (y2.length : Int)) := IntWalk.i64_in _ (by omega)
      go_wp2_with fail
      refine wp_region_up New [(true, 0), (true, 2), (true, 3), (true, 4), (false, 1), (true, 5), (true, 6), (true, 7)] New.refl New.trans (by kernel_rfl) (by kernel_rfl) (by kernel_rfl) (by kernel_rfl) ?_
      have hU := New.drew (wr.alloc (.cells #[.bool y0, .int .i64 y1, .string (bstr y2), .int .i64 y3, .int .i64 y4] 29))
      repeat (first
        | (refine up_call rfl rfl (fun K hK => ?_); go_simp
           (with_reducible refine (SZ.out _).mono ?_); rintro e w6 ⟨rfl, rfl⟩
           refine hK _ _ (New.refl _) ?_
           clear hK)
        | (refine up_skip rfl rfl ?_; simp only [Act.put, List.setIfInBounds_toArray, List.set_cons_zero, List.set_cons_succ])
        | (refine up_quiet rfl rfl (v := ?_) (fun W hQ => ?_) ?_; rotate_left; (obtain ⟨z0, z1, z2, z3, z4⟩ := cells5 (HY.out.below (New.trans hU hQ) HY.out.lt); go_simp <;> with_reducible rfl); simp only [Act.put, List.setIfInBounds_toArray, List.set_cons_zero, List.set_cons_succ]))
      refine up_nil ?_
      go_wp2_with fail
      go_roundw
      case rel => exact ⟨k + 1, r + (10 + y2.length), by omega, by go_num, by simp, by omega, New.trans (New.trans hW ha) hU⟩
      case measure => simp [intOf]; omega
    · obtain rfl : k = L.length := by omega
      go_wp2_with fail
      go_ret
      exact ⟨r, rfl, by omega, hW⟩

end Go.Proofs.Ythdkbfffjlkbpaa
/- The contracts of plain.lay and plain.Encode. -/

namespace Go.Hm
open Go Go.RowKit
theorem right20 {c : CellS} (h : rightB c 3 false = true) : c.2.2.1 = [] := by
  have h0 := right0 h
  unfold rightB at h
  rw [h0] at h
  simp at h
  exact h.1.2
theorem rightB_t {c : CellS} {t : Int} (h : rightB c t false = true) : t = 0 ∨ t = 1 ∨ t = 2 ∨ t = 3 := by
  have h0 := right0 h
  unfold rightB at h
  rw [h0] at h
  by_cases h1 : t = 0
  · exact .inl h1
  · by_cases h2 : t = 1
    · exact .inr (.inl h2)
    · by_cases h3 : t = 2
      · exact .inr (.inr (.inl h3))
      · by_cases h4 : t = 3
        · exact .inr (.inr (.inr h4))
        · simp [h1, h2, h3, h4] at h

end Go.Hm

namespace Go.Proofs.Ythdkbfffjlkbpaa
open Go.RowKit Go.Hm
def LayP (W0 : World) (B base : Nat) (l : List Nat) (e : Ending) (w' : World) : Prop := ∃ A n c, e = .returned (.slice A n c) ∧ Own w' base 5 (.slice A n c) (nums .u8 l) ∧ Below B W0 w'
set_option maxHeartbeats 4000000 in
set_option maxRecDepth 100000 in
theorem lay_any {w W0 : World} {B base : Nat} {A : Option Addr} {n cap : Nat} {l : List Nat} {t : Int} {c : CellS} (o : Own w base 5 (.slice A n cap) (nums .u8 l)) (hb : Below B W0 w) (hbB : B ≤ base) (hbase : base ≤ w.heap.size) (hn : n ≤ 100000000000)
    (hr : rightB c t false = true) (ht : t ≠ 1) (h8 : ∀ z ∈ c.2.2.1, z < 256) (hi : -9223372036854775808 ≤ c.2.1 ∧ c.2.1 ≤ 9223372036854775807) :
    Calls Try.prog 60 #[.slice A n cap, .int .i64 t, cellA c] w (LayP W0 B base (l ++ plE t c)) := by
  have h2 := fun (e : t = 2) => right2 (by rw [← e]; exact hr)
  have h3 := fun (e : t = 3) => right3 (by rw [← e]; exact hr)
  have h4 := fun (e : t = 3) => right20 (by rw [← e]; exact hr)
  have h1 := rightB_t hr
  clear hr
  obtain ⟨y0, y1, y2, y3, y4⟩ := c
  dsimp only at h2 h3 h4 h8 hi
  unfold plE
  dsimp only
  show Calls Try.prog 60 #[.slice A n cap, .int .i64 t, .agg #[.bool y0, .int .i64 y1, .string (bstr y2), .int .i64 y3, .int .i64 y4]] w _
  have B0 := Blk.new w 29 #[.bool y0, .int .i64 y1, .string (bstr y2), .int .i64 y3, .int .i64 y4]
  obtain ⟨x0, x1, x2, x3, x4⟩ := cells5 B0
  have ha : New w (w.alloc (.cells #[.bool y0, .int .i64 y1, .string (bstr y2), .int .i64 y3, .int .i64 y4] 29)) := (Below.refl _ _).alloc (Nat.le_refl _) _
  have o1 := o.later ha
  have b1 : Below B W0 (w.alloc (.cells #[.bool y0, .int .i64 y1, .string (bstr y2), .int .i64 y3, .int .i64 y4] 29)) := hb.trans (Below.mono ha (by omega))
  have zs := bstr_size y2
  have hz1 := ha.size
  clear o hb
  rcases h1 with rfl | rfl | rfl | rfl
  · rw [if_pos rfl]
    have HL := Lib.hid (low_len (u64N y1) 8)
    have U := Lib.hid (fun (W : World) => lay_u64 (w := W) (A := none) (n := 0) (c := 0) (l := []) (u64N y1) Reads.none_ (by omega))
    have hw := u64_wrapN y1
    generalize u64N y1 = z at *
    go_enter Try.func60, Try.ntmps60
    go_wp2_with fail
    refine (U.out _).mono ?_
    rintro e w2 ⟨A2, n2, c2, rfl, k2, b2⟩
    rw [List.nil_append] at k2
    have o2 := o1.later b2
    have b02 : Below B W0 w2 := b1.trans (Below.mono b2 (by omega))
    have q2 : n2 ≤ 8 := by have := k2.len; rw [nums_length, HL.out] at this; omega
    have hz2 := b2.size
    have r2 := k2.reads
    clear k2 b2
    go_wp2_with (refine wpList_pushesN elB rfl (.tmp 19) (.tmp 23) rfl (W := W0) (B := B) o2 r2 rfl rfl b02 hbB (by omega) (by omega) (by simp only [maxLen]; omega) ?_
                 intro A3 c3 w3 _ _ o3 _ b3 _)
    go_ret
    exact ⟨_, _, _, rfl, o3, b3⟩
  · exact absurd rfl ht
  · rw [if_neg (by decide), if_pos rfl]
    have hl2 := h2 rfl
    have V := Lib.hid (vp_len10 (n := y2.length) (by omega))
    have P := Lib.hid (fun (W : World) => put_any none 0 0 [] y2.length W Reads.none_ (by omega) (by omega))
    have hw : IntKind.u64.wrap (y2.length : Int) = (y2.length : Int) := by rw [IntKind.wrap_u64]; omega
    clear h2 h3 h4
    go_enter Try.func60, Try.ntmps60
    go_wp2_with fail
    refine (P.out _).mono ?_
    rintro e w2 ⟨A2, n2, c2, rfl, k2, b2⟩
    rw [List.nil_append] at k2
    have o2 := o1.later b2
    have b02 : Below B W0 w2 := b1.trans (Below.mono b2 (by omega))
    have q2 : n2 ≤ 10 := by have := k2.len; rw [nums_length] at this; have := V.out; omega
    have hz2 := b2.size
    have r2 := k2.reads
    have B2 := B0.below b2 B0.lt
    clear k2 b2 x0 x1 x2 x3 x4
    go_wp2_with (first
      | (refine wpList_pushesN elB rfl (.tmp 36) (.tmp 38) rfl (W := W0) (B := B) o2 r2 rfl rfl b02 hbB (by omega) (by omega) (by simp only [maxLen]; omega) ?_
         intro A3 c3 w3 _ _ o3 g3 b3 _
         obtain ⟨x0, x1, x2, x3, x4⟩ := cells5 (B2.push o2 g3 (by decide))
         have hz3 := g3.size)
      | (refine wpList_pushStr elB strT rfl (.tmp 40) (.tmp 42) rfl (W := W0) (B := B) o3 h8 rfl rfl b3 hbB (by omega) (by omega) ?_
         intro A4 c4 w4 _ _ o4 _ b4))
    go_ret
    exact ⟨_, _, _, rfl, by rw [← List.append_assoc]; exact o4, b4⟩
  · rw [if_neg (by decide), if_neg (by decide), if_pos rfl]
    obtain ⟨⟨p1, p2⟩, p3, p4⟩ := h3 rfl
    have he := h4 rfl
    subst he
    have V1 := Lib.hid (vp_len10 (n := zig y3) (by unfold zig; split <;> omega))
    have V2 := Lib.hid (vp_len10 (n := zig y4) (by unfold zig; split <;> omega))
    have Z1 := Lib.hid (fun (W : World) => zig_any y3 W (by omega) (by omega))
    have Z2 := Lib.hid (fun (W : World) => zig_any y4 W (by omega) (by omega))
    have P1 := Lib.hid (fun (W : World) => put_any none 0 0 [] (zig y3) W Reads.none_ (by omega) (by unfold zig; split <;> omega))
    have P2 := Lib.hid (fun (W : World) => put_any none 0 0 [] (zig y4) W Reads.none_ (by omega) (by unfold zig; split <;> omega))
    clear h2 h3 h4
    generalize zig y3 = z3 at *
    generalize zig y4 = z4 at *
    go_enter Try.func60, Try.ntmps60
    go_wp2_with fail
    refine (Z1.out _).mono ?_
    rintro e w2 ⟨rfl, rfl⟩
    go_wp2_with fail
    refine (P1.out _).mono ?_
    rintro e w2 ⟨A2, n2, c2, rfl, k2, b2⟩
    rw [List.nil_append] at k2
    have o2 := o1.later b2
    have b02 : Below B W0 w2 := b1.trans (Below.mono b2 (by omega))
    have q2 : n2 ≤ 10 := by have := k2.len; rw [nums_length] at this; have := V1.out; omega
    have hz2 := b2.size
    have r2 := k2.reads
    have B2 := B0.below b2 B0.lt
    clear k2 b2 x0 x1 x2 x3 x4
    go_wp2_with (refine wpList_pushesN elB rfl (.tmp 25) (.tmp 30) rfl (W := W0) (B := B) o2 r2 rfl rfl b02 hbB (by omega) (by omega) (by simp only [maxLen]; omega) ?_
                 intro A3 c3 w3 _ _ o3 g3 b3 _
                 have B3 := B2.push o2 g3 (by decide)
                 obtain ⟨x0, x1, x2, x3, x4⟩ := cells5 B3
                 have hz3 := g3.size)
    refine (Z2.out _).mono ?_
    rintro e w4 ⟨rfl, rfl⟩
    go_wp2_with fail
    refine (P2.out _).mono ?_
    rintro e w4 ⟨A4, n4, c4, rfl, k4, b4⟩
    rw [List.nil_append] at k4
    have o4 := o3.later b4
    have b04 : Below B W0 w4 := b3.trans (Below.mono b4 (by omega))
    have q4 : n4 ≤ 10 := by have := k4.len; rw [nums_length] at this; have := V2.out; omega
    have hz4 := b4.size
    have r4 := k4.reads
    have B4 := B3.below b4 B3.lt
    clear k4 b4 x0 x1 x2 x3 x4
    go_wp2_with (first
      | (refine wpList_pushesN elB rfl (.tmp 36) (.tmp 38) rfl (W := W0) (B := B) o4 r4 rfl rfl b04 hbB (by omega) (by omega) (by simp only [maxLen]; omega) ?_
         intro A5 c5 w5 _ _ o5 g5 b5 _
         obtain ⟨x0, x1, x2, x3, x4⟩ := cells5 (B4.push o4 g5 (by decide))
         have hz5 := g5.size)
      | (refine wpList_pushStr elB strT rfl (.tmp 40) (.tmp 42) rfl (W := W0) (B := B) o5 (l2 := []) (by simp) rfl rfl b5 hbB (by omega) (by simp; omega) ?_
         intro A6 c6 w6 _ _ o6 _ b6))
    go_ret
    exact ⟨_, _, _, rfl, by rw [List.append_nil] at o6; rw [← List.append_assoc]; exact o6, b6⟩
theorem flat_snoc {t : Int} {L : List CellS} {k : Nat} (h : k < L.length) : (L.take (k + 1)).flatMap (plE t) = (L.take k).flatMap (plE t) ++ plE t (L.getD k (false, 0, [], 0, 0)) := by
  rw [take_snoc L k (false, 0, [], 0, 0) h, List.flatMap_append]
  simp
theorem flat_len {t : Int} : ∀ l : List CellS, (∀ c ∈ l, rightB c t false = true) → (∀ c ∈ l, c.2.2.1.length ≤ 65536) → (l.flatMap (plE t)).length ≤ l.length * 65556
  | [], _, _ => by simp
  | c :: l, h, k => by
    have a := flat_len l (fun d hd => h d (by simp [hd])) (fun d hd => k d (by simp [hd]))
    have b := plE_len (h c (by simp))
    have d := k c (by simp)
    rw [List.flatMap_cons, List.length_append, List.length_cons]
    omega
theorem right_text {c : CellS} {t : Int} (h : rightB c t false = true) : c.2.2.1.length ≤ 65536 := by
  have h0 := right0 h
  rcases rightB_t h with rfl | rfl | rfl | rfl
  · unfold rightB at h
    rw [h0] at h
    simp at h
    rw [h.1]
    simp
  · unfold rightB at h
    rw [h0] at h
    simp at h
    rw [h.1.1]
    simp
  · exact right2 h
  · rw [right20 h]
    simp
/-- Cells that are plain data. -/
def cellData (c : CellS) : Prop := (c.2.2.1.length ≤ 140737488351232 ∧ ∀ z ∈ c.2.2.1, z < 256) ∧ -9223372036854775808 ≤ c.2.1 ∧ c.2.1 ≤ 9223372036854775807
set_option maxHeartbeats 2000000 in
set_option maxRecDepth 100000 in
theorem plain_any {w : World} {t : Int} {A : Option Addr} {n c : Nat} {L : List CellS} (h : Reads w w.heap.size 5 A n (recs cellV L)) (hL : ∀ y ∈ L, cellData y) (hn : n ≤ 4611686018427387903) :
    Calls Try.prog 35 #[.int .i64 t, .slice A n c] w (OptB (plO t L) w) := by
  obtain rfl := h.lenCell
  have HR := Lib.hid h
  have AR := Lib.hid (allright_any (t := t) (c := c) h (fun y hy => (hL y hy).1.1) hn)
  have KN := Lib.hid (known_any (w := w) (t := t) (n := (L.length : Int)))
  have ek : plOk t L = (decide (0 ≤ t ∧ t ≤ 3 ∧ 0 ≤ (L.length : Int) ∧ (L.length : Int) ≤ 65536) && L.all fun c => rightB c t false) := by
    unfold plOk
    congr 1
    rw [decide_eq_decide]
    omega
  obtain ⟨M, hM⟩ : ∃ M, M = plO t L := ⟨_, rfl⟩
  rw [← hM]
  unfold plO at hM
  by_cases hk : (0 ≤ t ∧ t ≤ 3 ∧ 0 ≤ (L.length : Int) ∧ (L.length : Int) ≤ 65536)
  · rw [decide_eq_true hk] at KN ek
    cases ha : L.all fun c => rightB c t false with
    | false =>
      rw [ha] at AR
      rw [ek, ha] at hM
      simp at hM
      have HM := Lib.hid hM
      clear hM ek ha hL h
      go_enter Try.func35, Try.ntmps35
      go_wp2_with fail
      refine KN.out.mono ?_
      rintro e w1 ⟨rfl, rfl⟩
      go_wp2_with fail
      refine AR.out.mono ?_
      rintro e w1 ⟨rfl, b1⟩
      go_wp2_with fail
      go_ret2
      rw [HM.out]
      exact ⟨rfl, b1⟩
    | true =>
      rw [ha] at AR
      rw [ek, ha] at hM
      simp at hM
      have hR := List.all_eq_true.1 ha
      have hn2 : L.length ≤ 65536 := by omega
      by_cases h1 : t = 1
      · subst h1
        have hP := packO_some (bitsP L) 1 (by omega) (by unfold bitsP; rw [List.length_map]; omega) (bitsP_wid hR)
        have hM2 : M = packO (bitsP L) 1 := by
          rw [hM]
          unfold plB
          rw [if_pos rfl]
          refine Eq.trans ?_ hP.symm
          unfold bitsP
          rw [List.length_map]
        have HM := Lib.hid hM2
        have PB := Lib.hid (fun (W : World) (hW : New w W) => packBools_any (c := c) (Reads.later HR.out hW) hn2)
        clear hM hM2 hP ek ha hR hL h
        go_enter Try.func35, Try.ntmps35
        go_wp2_with fail
        refine KN.out.mono ?_
        rintro e w1 ⟨rfl, rfl⟩
        go_wp2_with fail
        refine AR.out.mono ?_
        rintro e w1 ⟨rfl, b1⟩
        go_wp2_with fail
        refine (PB.out _ b1).mono ?_
        intro e w2 h2
        rw [← HM.out] at h2
        cases M with
        | none =>
          obtain ⟨rfl, b2⟩ := h2
          go_wp2_with fail
          go_ret2
          exact ⟨rfl, New.trans b1 b2⟩
        | some l =>
          obtain ⟨A2, n2, c2, rfl, o2, b2⟩ := h2
          go_wp2_with fail
          go_ret2
          exact ⟨_, _, _, rfl, o2.base_le b1.size, New.trans b1 b2⟩
      · have hM2 : M = some (L.flatMap (plE t)) := by rw [hM]; unfold plB; rw [if_neg h1]
        have HM := Lib.hid hM2
        have HR2 := Lib.hid hR
        have hx : ∀ c ∈ L, c.2.2.1.length ≤ 65536 := fun c hc => right_text (hR c hc)
        have HX := Lib.hid hx
        have HD := Lib.hid hL
        have RM := Lib.hid (fun (W : World) (hW : New w W) => room_any (c := c) (Reads.later HR.out hW) hn2 hx)
        clear hM hM2 ek ha hR hL h hx
        go_enter Try.func35, Try.ntmps35
        go_wp2_with fail
        refine KN.out.mono ?_
        rintro e w1 ⟨rfl, rfl⟩
        go_wp2_with fail
        refine AR.out.mono ?_
        rintro e w1 ⟨rfl, b1⟩
        go_wp2_with fail
        refine (RM.out _ b1).mono ?_
        rintro e w2 ⟨r, rfl, hr, b2⟩
        have b02 := New.trans b1 b2
        have hz2 := b02.size
        go_wp2_with (refine wpList_mk elB rfl (.const (.int .i64 0)) (.tmp 27) rfl (W := w) (B := w.heap.size) 0 r rfl rfl rfl rfl (by omega) b02 hz2 rfl (by omega) (by simp only [maxLen]; omega) ?_
                     intro w3 o3 _ b3 hs3)
        go_loopw [6, 31] (fun v i wr => ∃ (k m cc : Nat) (AA : Option Addr), k ≤ L.length ∧ i = .int .i64 (k : Int) ∧ v = .slice AA m cc ∧ Own wr w.heap.size 5 (.slice AA m cc) (nums .u8 ((L.take k).flatMap (plE t))) ∧ Below w.heap.size w wr) (fun _ i _ => L.length - (intOf i).toNat)
        case atStart => exact ⟨0, 0, r, _, Nat.zero_le _, rfl, rfl, by have := o3.base_le hz2; simpa [nums] using this, b3⟩
        case round =>
          obtain ⟨k, m, cc, AA, hk2, rfl, rfl, o, b⟩ := hrel
          clear o3 b3 hs3 b1 b2 b02 hz2
          by_cases hlt : k < L.length
          · obtain ⟨ad, rfl, hb, d0, d1, d2, d3, d4⟩ := (Reads.later HR.out b).cell5 hlt
            have hmem : L.getD k (false, 0, [], 0, 0) ∈ L := by rw [List.getD_eq_getElem?_getD, List.getElem?_eq_getElem hlt]; exact List.getElem_mem hlt
            have hfs := flat_snoc (t := t) hlt
            have hfl := flat_len (L.take k) (fun c hc => HR2.out c (List.mem_of_mem_take hc)) (fun c hc => HX.out c (List.mem_of_mem_take hc))
            rw [List.length_take] at hfl
            have hm : m ≤ 100000000000 := by have := o.len; rw [nums_length] at this; have := Nat.min_le_left k L.length; omega
            have h8 := HD.out _ hmem
            have hry := HR2.out _ hmem
            clear hmem hfl
            generalize L.getD k (false, 0, [], 0, 0) = y at *
            have hz := b.size
            have ha : New wr (wr.alloc (.cells (cellV y).toArray 29)) := (Below.refl _ _).alloc (Nat.le_refl _) _
            have LY := lay_any (W0 := w) (B := w.heap.size) (o.later ha) (b.trans (Below.mono ha hz)) (Nat.le_refl _) (by have := ha.size; omega) hm hry h1 h8.1.2 h8.2
            rw [← hfs] at LY
            obtain ⟨y0, y1, y2, y3, y4⟩ := y
            have LY : Hid (Calls Try.prog 60 #[.slice AA m cc, .int .i64 t, .agg #[.bool y0, .int .i64 y1, .string (bstr y2), .int .i64 y3, .int .i64 y4]] (wr.alloc (.cells #[.bool y0, .int .i64 y1, .string (bstr y2), .int .i64 y3, .int .i64 y4] 29)) (LayP w w.heap.size w.heap.size ((L.take (k + 1)).flatMap (plE t)))) := Lib.hid LY
            dsimp only at d0 d1 d2 d3 d4
            clear hfs o b h8 hry
            go_wp2_with fail
            refine LY.out.mono ?_
            rintro e w5 ⟨A5, n5, c5, rfl, o5, b5⟩
            go_wp2_with fail
            go_roundw
            case rel => exact ⟨k + 1, n5, c5, A5, by omega, by go_num, rfl, o5, b5⟩
            case measure => simp [intOf]; omega
          · obtain rfl : k = L.length := by omega
            rw [List.take_length] at o
            go_wp2_with fail
            go_ret2
            rw [HM.out]
            exact ⟨_, _, _, rfl, o, b⟩
  · rw [decide_eq_false hk] at KN ek
    rw [ek] at hM
    simp at hM
    have HM := Lib.hid hM
    clear hM ek AR hL h
    go_enter Try.func35, Try.ntmps35
    go_wp2_with fail
    refine KN.out.mono ?_
    rintro e w1 ⟨rfl, rfl⟩
    go_wp2_with fail
    go_ret2
    rw [HM.out]
    exact ⟨rfl, Below.refl _ _⟩

end Go.Proofs.Ythdkbfffjlkbpaa
/- The contract of stat.Put. -/

namespace Go.Hm
open Go Go.RowKit
def endsL (t : Int) (s : StatS) : List Nat := plB t [s.2.2.1, s.2.2.2]
/-- Bytes, and behind them those of a stat. -/
def putS (l : List Nat) (t : Int) (s : StatS) : List Nat :=
  if rightS t s then (if s.2.1 then l ++ vp s.1.toNat ++ [1] ++ vp (endsL t s).length ++ endsL t s else l ++ vp s.1.toNat ++ [0]) else l
theorem rightS_n {t : Int} {s : StatS} (h : rightS t s = true) : (0 ≤ t ∧ t ≤ 3) ∧ 0 ≤ s.1 ∧ s.1 ≤ 65536 := by
  unfold rightS at h
  split at h
  · simp at h
  · omega
theorem rightS_has {t : Int} {s : StatS} (h : rightS t s = true) (hh : s.2.1 = true) : rightB s.2.2.1 t false = true ∧ rightB s.2.2.2 t false = true ∧ cmpD t s.2.2.1 s.2.2.2 ≤ 0 := by
  unfold rightS at h
  split at h
  · simp at h
  · simpa [hh] using h
theorem ends_ok {t : Int} {s : StatS} (h : rightS t s = true) (hh : s.2.1 = true) : plOk t [s.2.2.1, s.2.2.2] = true := by
  obtain ⟨h1, h2, -⟩ := rightS_has h hh
  have h3 := (rightS_n h).1
  rw [plOk_iff]
  refine ⟨⟨h3.1, h3.2, by simp⟩, fun c hc => ?_⟩
  simp at hc
  rcases hc with rfl | rfl
  · exact h1
  · exact h2

end Go.Hm

namespace Go.Proofs.Ythdkbfffjlkbpaa
open Go.RowKit Go.Hm
theorem ends_len {t : Int} {s : StatS} (h : rightS t s = true) (hh : s.2.1 = true) : (endsL t s).length ≤ 131112 := by
  obtain ⟨h1, h2, -⟩ := rightS_has h hh
  have a := plE_len h1
  have b := plE_len h2
  have ta : s.2.2.1.2.2.1.length ≤ 65536 := right_text h1
  have tb : s.2.2.2.2.2.1.length ≤ 65536 := right_text h2
  unfold endsL plB
  split
  · rw [low_len]; simp
  · simp only [List.flatMap_cons, List.flatMap_nil, List.append_nil, List.length_append]
    omega
theorem ownApart {W1 W2 : World} {base : Nat} {e e' : TypeId} {u v : Value} {xs ys : List Value} (h2 : Go.Hm.Own W2 W1.heap.size e u xs) (h1 : Go.Hm.Own W1 base e' v ys) : u.ownBlock = none ∨ u.ownBlock ≠ v.ownBlock := by
  rcases hu : u.ownBlock with _ | k
  · exact .inl rfl
  · refine .inr fun e => ?_
    have a := (h2.lt k hu).1
    have b := (h1.lt k e.symm).2
    omega
theorem apartNext {W : World} {base : Nat} {e : TypeId} {u v v' : Value} {xs : List Value} (h : u.ownBlock = none ∨ u.ownBlock ≠ v.ownBlock) (d : v'.ownBlock = v.ownBlock ∨ ∃ g, v'.ownBlock = some g ∧ W.heap.size ≤ g) (k : Go.Hm.Own W base e u xs) : u.ownBlock = none ∨ u.ownBlock ≠ v'.ownBlock := by
  rcases hu : u.ownBlock with _ | g
  · exact .inl rfl
  · right
    rcases d with d | ⟨g', d, hg⟩
    · rw [d, ← hu]
      rcases h with h | h
      · rw [hu] at h; cases h
      · exact h
    · rw [d]
      intro e
      injection e with e
      have := (k.lt g hu).2
      omega
def statData (s : StatS) : Prop := cellData s.2.2.1 ∧ cellData s.2.2.2
theorem statData.fine {s : StatS} (h : statData s) : statFine s := ⟨h.1.1, h.2.1⟩
set_option maxHeartbeats 4000000 in
set_option maxRecDepth 100000 in
theorem sput_any {w : World} {A : Option Addr} {n c : Nat} {l : List Nat} {t : Int} {s : StatS} (h : Reads w w.heap.size 1 A n (nums .u8 l)) (hn : n ≤ 100000000) (hs : statData s) :
    Calls Try.prog 18 #[.slice A n c, .int .i64 t, statA s] w (BytesPost (putS l t s) w) := by
  obtain rfl : n = l.length := h.len
  have HR := Lib.hid h
  have SR := fun (W : World) => sright_any (w := W) (t := t) hs.fine
  have hrn := fun (e : rightS t s = true) => rightS_n e
  have PE := fun (e : rightS t s = true) (eh : s.2.1 = true) (W : World) => plain_any (t := t) (c := 2) (Reads.litR W 29 (cellV s.2.2.1 ++ cellV s.2.2.2).toArray 2 5 (recs cellV [s.2.2.1, s.2.2.2]) (by simp [recs]) (by simp [recs, cellV])) (fun y hy => by simp at hy; rcases hy with rfl | rfl; exact hs.1; exact hs.2) (by omega)
  have pe2 := fun (e : rightS t s = true) (eh : s.2.1 = true) => (show plO t [s.2.2.1, s.2.2.2] = some (endsL t s) by unfold plO endsL; rw [if_pos (ends_ok e eh)])
  have hel := fun (e : rightS t s = true) (eh : s.2.1 = true) => ends_len e eh
  obtain ⟨M, hM⟩ : ∃ M, M = putS l t s := ⟨_, rfl⟩
  rw [← hM]
  unfold putS at hM
  clear hs h
  generalize rightS t s = R at *
  generalize endsL t s = E at *
  obtain ⟨nn, b, ⟨p1, p2, p3, p4, p5⟩, ⟨q1, q2, q3, q4, q5⟩⟩ := s
  dsimp only at hrn PE pe2 hel hM
  have SR : Hid (∀ W, Calls Try.prog 16 #[.int .i64 t, .agg #[.int .i64 nn, .bool b, .bool p1, .int .i64 p2, .string (bstr p3), .int .i64 p4, .int .i64 p5, .bool q1, .int .i64 q2, .string (bstr q3), .int .i64 q4, .int .i64 q5]] W (NewPost (.bool R) W)) := Lib.hid SR
  show Calls Try.prog 18 #[.slice A l.length c, .int .i64 t, .agg #[.int .i64 nn, .bool b, .bool p1, .int .i64 p2, .string (bstr p3), .int .i64 p4, .int .i64 p5, .bool q1, .int .i64 q2, .string (bstr q3), .int .i64 q4, .int .i64 q5]] w (BytesPost M w)
  have B0 := Blk.new w 31 #[.int .i64 nn, .bool b, .bool p1, .int .i64 p2, .string (bstr p3), .int .i64 p4, .int .i64 p5, .bool q1, .int .i64 q2, .string (bstr q3), .int .i64 q4, .int .i64 q5]
  have hb : New w (w.alloc (.cells #[.int .i64 nn, .bool b, .bool p1, .int .i64 p2, .string (bstr p3), .int .i64 p4, .int .i64 p5, .bool q1, .int .i64 q2, .string (bstr q3), .int .i64 q4, .int .i64 q5] 31)) := (Below.refl _ _).alloc (Nat.le_refl _) _
  obtain ⟨x0, x1, x2, x3, x4, x5, x6, x7, x8, x9, x10, x11⟩ := cells12 B0
  have HPE := Lib.hid PE
  have Hpe2 := Lib.hid pe2
  have Hhel := Lib.hid hel
  clear PE pe2 hel
  cases R with
  | false =>
    rw [if_neg (by simp)] at hM
    have HM := Lib.hid hM
    clear hM hrn HPE Hpe2 Hhel
    go_enter Try.func18, Try.ntmps18
    go_wp2_with fail
    refine (SR.out _).mono ?_
    rintro e w1 ⟨rfl, b1⟩
    have b01 := New.trans hb b1
    have CL := Lib.hid (clone_any (c := c) (Reads.later HR.out b01) (by omega))
    clear b1 hb B0 x0 x1 x2 x3 x4 x5 x6 x7 x8 x9 x10 x11
    go_wp2_with fail
    refine CL.out.mono ?_
    rintro e w2 ⟨A2, n2, c2, rfl, k2, b2⟩
    go_wp2_with fail
    go_ret
    rw [HM.out]
    exact ⟨_, _, _, rfl, k2.base_le b01.size, New.trans b01 b2⟩
  | true =>
    rw [if_pos rfl] at hM
    obtain ⟨-, ⟨n0, n1⟩⟩ := hrn rfl
    clear hrn
    obtain ⟨N, rfl⟩ := Int.eq_ofNat_of_zero_le n0
    rw [Int.toNat_natCast] at hM
    have hw : IntKind.u64.wrap (N : Int) = (N : Int) := by rw [IntKind.wrap_u64]; omega
    have V := vp_len10 (n := N) (by omega)
    cases b with
    | false =>
      rw [if_neg (by simp)] at hM
      have HM := Lib.hid hM
      clear hM HPE Hpe2 Hhel
      go_enter Try.func18, Try.ntmps18
      go_wp2_with fail
      refine (SR.out _).mono ?_
      rintro e w1 ⟨rfl, b1⟩
      have b01 := New.trans hb b1
      have B1 := B0.below b1 B0.lt
      clear b1 hb B0 x0 x1 x2 x3 x4 x5 x6 x7 x8 x9 x10 x11
      obtain ⟨x0, x1, x2, x3, x4, x5, x6, x7, x8, x9, x10, x11⟩ := cells12 B1
      have P := Lib.hid (put_any A l.length c l N w1 (Reads.later HR.out b01) (by omega) (by omega))
      go_wp2_with fail
      refine P.out.mono ?_
      rintro e w2 ⟨A2, n2, c2, rfl, k2, b2⟩
      have hq2 : n2 ≤ 100000010 := by have := k2.len; rw [nums_length, List.length_append] at this; omega
      have b02 := New.trans b01 b2
      have hz2 := b2.size
      have B2 := B1.below b2 B1.lt
      clear P b2 B1 x0 x1 x2 x3 x4 x5 x6 x7 x8 x9 x10 x11
      obtain ⟨x0, x1, x2, x3, x4, x5, x6, x7, x8, x9, x10, x11⟩ := cells12 B2
      have hz1 := b01.size
      go_wp2_with (refine wpList_pushN elB rfl (.tmp 24) (.tmp 25) rfl (W := w) (B := w.heap.size) (k2.base_le hz1) rfl rfl 0 rfl b02 (Nat.le_refl _) (by omega) (by omega) (by simp only [maxLen]; omega) ?_
                   intro A5 c5 w5 _ _ o5 _ b5 _ _)
      go_ret
      rw [HM.out]
      exact ⟨_, _, _, rfl, o5, b5⟩
    | true =>
      rw [if_pos rfl] at hM
      have PE := HPE.out rfl rfl
      rw [Hpe2.out rfl rfl] at PE
      have hel := Hhel.out rfl rfl
      have PE : Hid (∀ W : World, Calls Try.prog 35 #[.int .i64 t, .slice (some ⟨W.heap.size, 0, none⟩) 2 2] (W.alloc (.cells #[.bool p1, .int .i64 p2, .string (bstr p3), .int .i64 p4, .int .i64 p5, .bool q1, .int .i64 q2, .string (bstr q3), .int .i64 q4, .int .i64 q5] 29)) (OptB (some E) (W.alloc (.cells #[.bool p1, .int .i64 p2, .string (bstr p3), .int .i64 p4, .int .i64 p5, .bool q1, .int .i64 q2, .string (bstr q3), .int .i64 q4, .int .i64 q5] 29)))) := Lib.hid PE
      have HM := Lib.hid hM
      clear hM HPE Hpe2 Hhel
      have V2 := vp_len10 (n := E.length) (by omega)
      have P2 := Lib.hid (fun (W : World) => put_any none 0 0 [] E.length W Reads.none_ (by omega) (by omega))
      have hw2 : IntKind.u64.wrap (E.length : Int) = (E.length : Int) := by rw [IntKind.wrap_u64]; omega
      go_enter Try.func18, Try.ntmps18
      go_wp2_with fail
      refine (SR.out _).mono ?_
      rintro e w1 ⟨rfl, b1⟩
      have b01 := New.trans hb b1
      have B1 := B0.below b1 B0.lt
      clear b1 hb B0 x0 x1 x2 x3 x4 x5 x6 x7 x8 x9 x10 x11
      obtain ⟨x0, x1, x2, x3, x4, x5, x6, x7, x8, x9, x10, x11⟩ := cells12 B1
      have P := Lib.hid (put_any A l.length c l N w1 (Reads.later HR.out b01) (by omega) (by omega))
      go_wp2_with fail
      refine P.out.mono ?_
      rintro e w2 ⟨A2, n2, c2, rfl, k2, b2⟩
      have hq2 : n2 ≤ 100000010 := by have := k2.len; rw [nums_length, List.length_append] at this; omega
      have b02 := New.trans b01 b2
      have hz2 := b2.size
      have hz1 := b01.size
      have B2 := B1.below b2 B1.lt
      have o2 := k2.base_le hz1
      clear P b2 B1 x0 x1 x2 x3 x4 x5 x6 x7 x8 x9 x10 x11 k2
      obtain ⟨x0, x1, x2, x3, x4, x5, x6, x7, x8, x9, x10, x11⟩ := cells12 B2
      go_wp2_with fail
      refine (PE.out _).mono ?_
      rintro e w3 ⟨A3, n3, c3, rfl, k3, b3⟩
      have ha : New w2 (w2.alloc (.cells #[.bool p1, .int .i64 p2, .string (bstr p3), .int .i64 p4, .int .i64 p5, .bool q1, .int .i64 q2, .string (bstr q3), .int .i64 q4, .int .i64 q5] 29)) := (Below.refl _ _).alloc (Nat.le_refl _) _
      have b23 := New.trans ha b3
      have hap := ownApart k3 (o2.later ha)
      have o3 := o2.later b23
      have b03 := New.trans b02 b23
      have hz3 := b23.size
      have hn3 : n3 ≤ 131112 := by have l3 := k3.len; rw [nums_length] at l3; omega
      have HNE : Hid (n3 = E.length) := Lib.hid (by have l3 := k3.len; rwa [nums_length] at l3)
      have P2 : Hid (∀ W, Calls Try.prog 34 #[.slice none 0 0, .int .u64 (n3 : Int)] W (BytesPost ([] ++ vp E.length) W)) := Lib.hid (by rw [HNE.out]; exact P2.out)
      have hw2 : IntKind.u64.wrap (n3 : Int) = (n3 : Int) := by rw [IntKind.wrap_u64]; omega
      clear ha b3 b23 o2 b02 B2 x0 x1 x2 x3 x4 x5 x6 x7 x8 x9 x10 x11
      go_wp2_with (refine wpList_pushN elB rfl (.tmp 37) (.tmp 38) rfl (W := w) (B := w.heap.size) o3 rfl rfl 1 rfl b03 (Nat.le_refl _) (by omega) (by omega) (by simp only [maxLen]; omega) ?_
                   intro A5 c5 w5 _ _ o5 g5 b5 _ d5)
      have hap5 := apartNext hap d5 k3
      have k5 := k3.kept g5 hap
      have hz5 := b5.size
      refine (P2.out _).mono ?_
      rintro e w6 ⟨A6, n6, c6, rfl, k6, b6⟩
      rw [List.nil_append] at k6
      have hq6 : n6 ≤ 10 := by have := k6.len; rw [nums_length] at this; omega
      have o6 := o5.later b6
      have k56 := k5.later b6
      have b06 := New.trans b5 b6
      have hz6 := b06.size
      clear k3 k5 o3 b03 o5 b5 b6 hap g5 d5
      go_wp2_with (first
        | (refine wpList_pushesN elB rfl (.tmp 40) (.tmp 44) rfl (W := w) (B := w.heap.size) o6 k6.reads rfl rfl b06 (Nat.le_refl _) (by omega) (by omega) (by simp only [maxLen]; omega) ?_
           intro A7 c7 w7 _ _ o7 g7 b7 _
           have k7 := k56.kept g7 hap5
           have hz7 := b7.size)
        | (refine wpList_pushesN elB rfl (.tmp 46) (.tmp 47) rfl (W := w) (B := w.heap.size) o7 k7.reads rfl rfl b7 (Nat.le_refl _) (by omega) (by omega) (by simp only [maxLen]; omega) ?_
           intro A8 c8 w8 _ _ o8 _ b8 _))
      go_ret
      rw [HM.out]
      exact ⟨_, _, _, rfl, o8, b8⟩

end Go.Proofs.Ythdkbfffjlkbpaa
/- varint.Get and varint.Len over a cursor. -/

namespace Go.Hm

theorem vp_app_lt {N b : Nat} {r s : List Nat} (h : b :: s = vp N ++ r) (hb : b < 128) : N = b ∧ r = s := by
  by_cases hN : N < 128
  · rw [vp_lt hN] at h
    simp only [List.cons_append, List.nil_append, List.cons.injEq] at h
    exact ⟨h.1.symm, h.2.symm⟩
  · rw [vp_ge hN] at h
    simp only [List.cons_append, List.cons.injEq] at h
    omega
theorem vp_app_ge {N b : Nat} {r s : List Nat} (h : b :: s = vp N ++ r) (hb : 128 ≤ b) : N % 128 + 128 = b ∧ 0 < N / 128 ∧ s = vp (N / 128) ++ r := by
  by_cases hN : N < 128
  · rw [vp_lt hN] at h
    simp only [List.cons_append, List.nil_append, List.cons.injEq] at h
    omega
  · rw [vp_ge hN] at h
    simp only [List.cons_append, List.cons.injEq] at h
    exact ⟨h.1.symm, by omega, h.2⟩
theorem vp_cons {b N : Nat} (hb : 128 ≤ b) (h8 : b < 256) (hN : 0 < N) : b :: vp N = vp (b - 128 + 128 * N) := by
  rw [vp_ge (n := b - 128 + 128 * N) (by omega)]
  congr 1
  · omega
  · congr 1; omega
theorem vp_app_inj : ∀ (k M N : Nat) (r s : List Nat), M ≤ k → vp M ++ r = vp N ++ s → M = N ∧ r = s := by
  intro k
  induction k using Nat.strongRecOn with
  | ind k ih =>
    intro M N r s hk h
    by_cases hM : M < 128
    · rw [vp_lt hM] at h
      have := vp_app_lt h hM
      exact ⟨this.1.symm, this.2.symm⟩
    · rw [vp_ge hM] at h
      have h1 := vp_app_ge h (by omega)
      have h2 := ih (M / 128) (by omega) _ _ _ _ (Nat.le_refl _) h1.2.2
      exact ⟨by omega, h2.2⟩

/-- After k bytes with the number v in them, what is left of l reads on as the rest of a number. -/
def VIn (l : List Nat) (k v : Nat) (rl : List Nat) : Prop :=
  v < 128 ^ k ∧ (∀ N r, l = vp N ++ r → ∃ N', N = v + 128 ^ k * N' ∧ (k = 0 ∨ 0 < N') ∧ rl = vp N' ++ r) ∧
  (∀ N r, (k = 0 ∨ 0 < N) → rl = vp N ++ r → l = vp (v + 128 ^ k * N) ++ r)
theorem VIn.zero (l : List Nat) : VIn l 0 0 l := ⟨by simp, fun N r h => ⟨N, by simp, .inl rfl, h⟩, fun N r _ h => by simpa using h⟩
theorem VIn.step {l rl : List Nat} {k v b : Nat} (h : VIn l k v (b :: rl)) (hb : 128 ≤ b) (h8 : b < 256) : VIn l (k + 1) (v + 128 ^ k * (b - 128)) rl := by
  obtain ⟨h1, h2, h3⟩ := h
  have hp : 128 ^ (k + 1) = 128 ^ k * 128 := Nat.pow_succ ..
  have hm : 128 ^ k * (b - 128) ≤ 128 ^ k * 127 := Nat.mul_le_mul_left _ (by omega)
  refine ⟨by omega, fun N r e => ?_, fun N r hN e => ?_⟩
  · obtain ⟨N', e1, e2, e3⟩ := h2 N r e
    obtain ⟨f1, f2, f3⟩ := vp_app_ge e3 hb
    refine ⟨N' / 128, ?_, .inr f2, f3⟩
    rw [e1, hp, Nat.mul_assoc, Nat.add_assoc, ← Nat.mul_add]
    congr 2
    omega
  · have hN' : 0 < N := by rcases hN with hN | hN <;> omega
    have := h3 (b - 128 + 128 * N) r (.inr (by omega)) (by rw [e, ← vp_cons hb h8 hN', List.cons_append])
    rw [this, Nat.mul_add, hp, Nat.mul_assoc, Nat.add_assoc]
theorem VIn.done {l rl : List Nat} {k v b : Nat} (h : VIn l k v (b :: rl)) (hb : b < 128) (hk : k = 0 ∨ 0 < b) : l = vp (v + 128 ^ k * b) ++ rl :=
  h.2.2 b rl hk (by rw [vp_lt hb]; rfl)
theorem VIn.not_zero {l rl : List Nat} {k v : Nat} (h : VIn l k v (0 :: rl)) (hk : 0 < k) : ∀ N r, l = vp N ++ r → 18446744073709551616 ≤ N := by
  intro N r e
  obtain ⟨N', _, e2, e3⟩ := h.2.1 N r e
  have := vp_app_lt e3 (by omega)
  omega
theorem VIn.not_nil {l : List Nat} {k v : Nat} (h : VIn l k v []) : ∀ N r, l = vp N ++ r → 18446744073709551616 ≤ N := by
  intro N r e
  obtain ⟨N', _, _, e3⟩ := h.2.1 N r e
  have := vp_pos N'
  have := congrArg List.length e3
  simp at this
  omega
theorem VIn.not_big {l rl : List Nat} {v b : Nat} (h : VIn l 9 v (b :: rl)) (hb : 1 < b) : ∀ N r, l = vp N ++ r → 18446744073709551616 ≤ N := by
  intro N r e
  obtain ⟨N', e1, e2, e3⟩ := h.2.1 N r e
  by_cases hlt : b < 128
  · have := (vp_app_lt e3 hlt).1
    omega
  · have := vp_app_ge e3 (by omega)
    omega
theorem pow128 (k : Nat) : (128 : Nat) ^ k = 2 ^ (7 * k) := by rw [Nat.pow_mul]
theorem VIn.fits {k v b : Nat} (hv : v < 128 ^ k) (hb : b < 128) (hk : k ≤ 8 ∨ (k ≤ 9 ∧ b ≤ 1)) : v + 128 ^ k * b < 18446744073709551616 := by
  rcases hk with hk | ⟨hk, hb1⟩
  · have h1 : (128 : Nat) ^ k ≤ 128 ^ 8 := Nat.pow_le_pow_right (by omega) hk
    have h2 : 128 ^ k * b ≤ 128 ^ 8 * b := Nat.mul_le_mul_right _ h1
    omega
  · have h1 : (128 : Nat) ^ k ≤ 128 ^ 9 := Nat.pow_le_pow_right (by omega) hk
    have h2 : 128 ^ k * b ≤ 128 ^ 9 * b := Nat.mul_le_mul_right _ h1
    omega
theorem andNot128 (b : Nat) (h : b < 256) : bits .andNot .u8 (b : Int) 128 = ((b % 128 : Nat) : Int) := by
  have := u8_andNot_nat b 128 h (by omega)
  rw [show 255 - 128 = 127 from rfl, nat_mask7] at this
  simpa using this
theorem or_step {k v b : Nat} (hv : v < 128 ^ k) (hb : b < 128) (hk : k ≤ 8 ∨ (k ≤ 9 ∧ b ≤ 1)) :
    bits .or .u64 (v : Int) ((b : Int) * 2 ^ (7 * k) % 18446744073709551616) = ((v + 128 ^ k * b : Nat) : Int) := by
  have hf := VIn.fits hv hb hk
  have e2 : (b : Int) * 2 ^ (7 * k) = ((b * 2 ^ (7 * k) : Nat) : Int) := by simp
  have e0 : 128 ^ k * b = b * 2 ^ (7 * k) := by rw [pow128, Nat.mul_comm]
  rw [e2, show (((b * 2 ^ (7 * k) : Nat) : Int) % 18446744073709551616) = ((b * 2 ^ (7 * k) : Nat) : Int) from Int.emod_eq_of_lt (by omega) (by omega),
    u64_or_nat v (b * 2 ^ (7 * k)) (by omega) (by omega), Nat.or_comm, or_shl b v (7 * k) (by rw [← pow128]; exact hv), e0, Nat.add_comm]
theorem or_step2 {k v b : Nat} (hv : v < 128 ^ k) (h8 : b < 256) (hk : k ≤ 8 ∨ (k ≤ 9 ∧ b % 128 ≤ 1)) :
    bits .or .u64 (v : Int) (IntKind.u64.wrap (IntKind.u64.wrap (bits .andNot .u8 (b : Int) 128) * 2 ^ (7 * k))) = ((v + 128 ^ k * (b % 128) : Nat) : Int) := by
  rw [andNot128 b h8, IntKind.wrap_u64, IntKind.wrap_u64, show (((b % 128 : Nat) : Int) % 18446744073709551616) = ((b % 128 : Nat) : Int) from by omega]
  exact or_step hv (by omega) hk

end Go.Hm

namespace Go.Proofs.Ythdkbfffjlkbpaa
open Go.RowKit Go.Hm

def GetPost (g : Nat) (l : List Nat) (w : World) (e : Ending) (w' : World) : Prop :=
  (∃ N r, l = vp N ++ r ∧ N < 18446744073709551616 ∧ e = .returned (.int .u64 (N : Int)) ∧ Cur w' g r false ∧ w.grownBy w' (some g)) ∨
  ((∀ N r, l = vp N ++ r → 18446744073709551616 ≤ N) ∧ e = .returned (.int .u64 0) ∧ Cur w' g [] true ∧ w.grownBy w' (some g))

/-- What holds at the label: no number is there. -/
def GetJ (g : Nat) (l : List Nat) (w : World) (a : Act) (w' : World) : Prop :=
  ∃ (u1 u2 u3 u4 u5 u6 u7 u8 u9 u10 u11 u12 u13 u14 u15 u16 u17 u18 u19 u20 u21 u22 u23 u24 u25 u26 u27 u28 u29 u30 u31 u32 u33 u34 u35 u36 u37 u38 u39 u40 u41 : Value) (rl : List Nat) (bad : Bool), a = { tmps := #[.pointer (some ⟨g, 0, none⟩), u1, u2, u3, u4, u5, u6, u7, u8, u9, u10, u11, u12, u13, u14, u15, u16, u17, u18, u19, u20, u21, u22, u23, u24, u25, u26, u27, u28, u29, u30, u31, u32, u33, u34, u35, u36, u37, u38, u39, u40, u41], defers := [] } ∧ Cur w' g rl bad ∧ w.grownBy w' (some g) ∧ (∀ N r, l = vp N ++ r → 18446744073709551616 ≤ N)

theorem Cur.lt8 {w : World} {g : Nat} {l : List Nat} {bad : Bool} (h : Cur w g l bad) : ∀ x ∈ l, x < 256 := by
  obtain ⟨A, c, _, _, _, _, h5, _⟩ := h
  exact h5

set_option maxHeartbeats 2000000 in
set_option maxRecDepth 100000 in
theorem get_any {w : World} {g : Nat} {l : List Nat} (h : Cur w g l false) (h8 : ∀ x ∈ l, x < 256) :
    Calls Try.prog 65 #[.pointer (some ⟨g, 0, none⟩)] w (GetPost g l w) := by
  go_enter Try.func65, Try.ntmps65
  go_wp2
  refine wp_scope_jumps 0 (GetJ g l w) (fun _ _ => 0) rfl ?_ ?_
  · go_wp2
    go_loopw [3, 4] (fun v i wr => ∃ (k x : Nat) (rl : List Nat), i = .int .i64 ((7 * k : Nat) : Int) ∧ k ≤ 9 ∧ v = .int .u64 (x : Int) ∧ VIn l k x rl ∧ (∀ y ∈ rl, y < 256) ∧ Cur wr g rl false ∧ w.grownBy wr (some g)) (fun _ i _ => 100 - (intOf i).toNat)
    case atStart => exact ⟨0, 0, l, rfl, by omega, rfl, VIn.zero l, h8, h, Far.refl g w⟩
    case round =>
      obtain ⟨k, x, rl, rfl, hk, rfl, hV, h8', hC, hg⟩ := hrel
      have HV := Lib.hid hV
      cases rl with
      | nil =>
        have B := Lib.hid (byte_bad hC (.inr (by simp)))
        go_wp2_with (first
          | (go_at_call 39; refine B.out.mono ?_; rintro e w1 ⟨rfl, C1, g1⟩
             have hB := Lib.hid (bad_any C1))
          | (go_at_call 24; refine hB.out.mono ?_; rintro e w2 ⟨rfl, rfl⟩)
          | go_step3)
        exact ⟨rfl, _, _, _, _, _, _, _, _, _, _, _, _, _, _, _, _, _, _, _, _, _, _, _, _, _, _, _, _, _, _, _, _, _, _, _, _, _, _, _, _, _, _, _, rfl, C1, Far.trans hg g1, HV.out.not_nil⟩
      | cons b rl =>
        have hb8 : b < 256 := h8' b (by simp)
        have B := Lib.hid (byte_app hC)
        have hx := hV.1
        clear hV
        by_cases hz : 0 < k ∧ b = 0
        · obtain ⟨hz, rfl⟩ := hz
          go_wp2_with (first
            | (go_at_call 39; refine B.out.mono ?_; rintro e w1 ⟨rfl, C1, g1⟩
               have hB := Lib.hid (bad_any C1))
            | (go_at_call 24; refine hB.out.mono ?_; rintro e w2 ⟨rfl, rfl⟩)
            | go_step3)
          all_goals first
            | (exfalso; omega)
            | exact ⟨rfl, _, _, _, _, _, _, _, _, _, _, _, _, _, _, _, _, _, _, _, _, _, _, _, _, _, _, _, _, _, _, _, _, _, _, _, _, _, _, _, _, _, _, _, rfl, C1, Far.trans hg g1, HV.out.not_zero hz⟩
        · by_cases h9 : k = 9
          · subst h9
            by_cases hb1 : 1 < b
            · go_wp2_with (first
              | (go_at_call 39; refine B.out.mono ?_; rintro e w1 ⟨rfl, C1, g1⟩
                 have hB := Lib.hid (bad_any C1))
              | (go_at_call 24; refine hB.out.mono ?_; rintro e w2 ⟨rfl, rfl⟩)
              | go_step3)
              all_goals first
                | (exfalso; omega)
                | exact ⟨rfl, _, _, _, _, _, _, _, _, _, _, _, _, _, _, _, _, _, _, _, _, _, _, _, _, _, _, _, _, _, _, _, _, _, _, _, _, _, _, _, _, _, _, _, rfl, C1, Far.trans hg g1, HV.out.not_big hb1⟩
            · have HO := or_step2 hx hb8 (.inr ⟨by omega, by omega⟩)
              rw [show (2 : Int) ^ (7 * 9) = 9223372036854775808 from by decide, show b % 128 = b from by omega] at HO
              go_wp2_with (first
                | (go_at_call 39; refine B.out.mono ?_; rintro e w1 ⟨rfl, C1, g1⟩
                   have hB := Lib.hid (bad_any C1))
                | (go_at_call 24; refine hB.out.mono ?_; rintro e w2 ⟨rfl, rfl⟩)
                | go_step3)
              all_goals first
                | (rename_i hq; exfalso; rcases hq with hq | hq; (simp at hq; omega); omega)
                | (simp only [Exit.jump]; go_ret
                   exact .inl ⟨_, _, HV.out.done (by omega) (.inl (by omega)), VIn.fits hx (by omega) (.inr ⟨by omega, by omega⟩), by simp, C1, Far.trans hg g1⟩)
                | (simp only [Exit.jump]; go_ret
                   exact .inl ⟨_, _, HV.out.done (by omega) (.inr (by omega)), VIn.fits hx (by omega) (.inr ⟨by omega, by omega⟩), by simp, C1, Far.trans hg g1⟩)
          · have HO := or_step2 hx hb8 (.inl (by omega))
            go_wp2_with (first
              | (go_at_call 39; refine B.out.mono ?_; rintro e w1 ⟨rfl, C1, g1⟩
                 have hB := Lib.hid (bad_any C1))
              | (go_at_call 24; refine hB.out.mono ?_; rintro e w2 ⟨rfl, rfl⟩)
              | go_step3)
            all_goals first
              | (exfalso; omega)
              | (simp only [Exit.jump]; go_ret
                 exact .inl ⟨x + 128 ^ k * b, rl, HV.out.done (by omega) (by omega), VIn.fits hx (by omega) (.inl (by omega)), by rw [show ((b : Int) % 128) = (b : Int) from by omega]; simp, C1, Far.trans hg g1⟩)
              | (go_roundw
                 case rel => exact ⟨k + 1, x + 128 ^ k * (b - 128), rl, by go_num, by omega, by rw [show ((b : Int) % 128) = ((b - 128 : Nat) : Int) from by omega]; simp, HV.out.step (by omega) hb8, fun y hy => h8' y (List.mem_cons_of_mem _ hy), C1, Far.trans hg g1⟩
                 case measure => simp [intOf]; omega)
  · rintro a' w' ⟨u, u, u, u, u, u, u, u, u, u, u, u, u, u, u, u, u, u, u, u, u, u, u, u, u, u, u, u, u, u, u, u, u, u, u, u, u, u, u, u, u, rl, bad, rfl, C1, hg, hno⟩
    have hF := Lib.hid (fail_any C1)
    go_wp2_with (go_at_call 41; refine hF.out.mono ?_; rintro e w2 ⟨rfl, C2, g2⟩)
    simp only [Exit.jump]
    go_ret
    exact .inr ⟨hno, rfl, C2, Far.trans hg g2⟩

set_option maxHeartbeats 2000000 in
set_option maxRecDepth 100000 in
theorem get_bad {w : World} {g : Nat} {l : List Nat} {bad : Bool} (h : Cur w g l bad) (hn : bad = true ∨ l.length < 1) :
    Calls Try.prog 65 #[.pointer (some ⟨g, 0, none⟩)] w (CurPost (.returned (.int .u64 0)) g [] true w) := by
  have B := Lib.hid (byte_bad h hn)
  clear hn
  go_enter Try.func65, Try.ntmps65
  go_wp2
  refine wp_scope_jumps 0 (GetJ g [] w) (fun _ _ => 0) rfl ?_ ?_
  · go_wp2
    refine wp_loop_rounds 1 ?_
    rw [rounds_succ]
    go_wp2_with (first
      | (go_at_call 39; refine B.out.mono ?_; rintro e w1 ⟨rfl, C1, g1⟩
         have hB := Lib.hid (bad_any C1))
      | (go_at_call 24; refine hB.out.mono ?_; rintro e w2 ⟨rfl, rfl⟩)
      | go_step3)
    exact ⟨rfl, _, _, _, _, _, _, _, _, _, _, _, _, _, _, _, _, _, _, _, _, _, _, _, _, _, _, _, _, _, _, _, _, _, _, _, _, _, _, _, _, _, _, _, rfl, C1, g1, (VIn.zero []).not_nil⟩
  · rintro a' w' ⟨u, u, u, u, u, u, u, u, u, u, u, u, u, u, u, u, u, u, u, u, u, u, u, u, u, u, u, u, u, u, u, u, u, u, u, u, u, u, u, u, u, rl, bad', rfl, C1, hg, hno⟩
    have hF := Lib.hid (fail_any C1)
    go_wp2_with (go_at_call 41; refine hF.out.mono ?_; rintro e w2 ⟨rfl, C2, g2⟩)
    simp only [Exit.jump]
    go_ret
    exact ⟨rfl, C2, Far.trans hg g2⟩

theorem get_app {w : World} {g N : Nat} {r : List Nat} (h : Cur w g (vp N ++ r) false) (hN : N < 18446744073709551616) :
    Calls Try.prog 65 #[.pointer (some ⟨g, 0, none⟩)] w (CurPost (.returned (.int .u64 (N : Int))) g r false w) :=
  (get_any h h.lt8).mono fun e w' hp => by
    rcases hp with ⟨M, s, h1, h2, h3, h4, h5⟩ | ⟨h1, _⟩
    · obtain ⟨rfl, rfl⟩ := vp_app_inj N N M r s (Nat.le_refl _) h1
      exact ⟨h3, h4, h5⟩
    · have := h1 N r rfl
      omega
theorem get_no {w : World} {g : Nat} {l : List Nat} {bad : Bool} (h : Cur w g l bad) (hN : bad = true ∨ ∀ N r, l = vp N ++ r → 18446744073709551616 ≤ N) :
    Calls Try.prog 65 #[.pointer (some ⟨g, 0, none⟩)] w (CurPost (.returned (.int .u64 0)) g [] true w) := by
  cases bad with
  | true => exact get_bad h (.inl rfl)
  | false =>
    refine (get_any h h.lt8).mono fun e w' hp => ?_
    rcases hp with ⟨M, s, h1, h2, h3, h4, h5⟩ | ⟨h1, h2, h3, h4⟩
    · rcases hN with hN | hN
      · simp at hN
      · have := hN M s h1
        omega
    · exact ⟨h2, h3, h4⟩

set_option maxHeartbeats 400000 in
theorem len_app {w : World} {g N : Nat} {r : List Nat} {m : Int} (h : Cur w g (vp N ++ r) false) (hN : (N : Int) ≤ m) (hm : m ≤ 9223372036854775807) :
    Calls Try.prog 38 #[.pointer (some ⟨g, 0, none⟩), .int .i64 m] w (CurPost (.returned (.int .i64 (N : Int))) g r false w) := by
  have G := Lib.hid (get_app h (by omega))
  go_enter Try.func38, Try.ntmps38
  go_wp2_with (go_at_call 65; refine G.out.mono ?_; rintro e w1 ⟨rfl, C1, g1⟩)
  go_ret
  exact ⟨rfl, C1, g1⟩
set_option maxHeartbeats 400000 in
theorem len_no {w : World} {g : Nat} {l : List Nat} {bad : Bool} {m : Int} (h : Cur w g l bad) (hN : bad = true ∨ ∀ N r, l = vp N ++ r → m < N) (hm0 : -9223372036854775808 ≤ m) (hm : m ≤ 9223372036854775807) :
    Calls Try.prog 38 #[.pointer (some ⟨g, 0, none⟩), .int .i64 m] w (CurPost (.returned (.int .i64 0)) g [] true w) := by
  by_cases hG : bad = true ∨ ∀ N r, l = vp N ++ r → 18446744073709551616 ≤ N
  · have G := Lib.hid (get_no h hG)
    clear hG hN
    go_enter Try.func38, Try.ntmps38
    by_cases hm1 : m < 0
    · go_wp2_with (first
        | (go_at_call 65; refine G.out.mono ?_; rintro e w1 ⟨rfl, C1, g1⟩
           have hF := Lib.hid (fail_any C1))
        | (go_at_call 41; refine hF.out.mono ?_; rintro e w2 ⟨rfl, C2, g2⟩))
      go_ret
      exact ⟨rfl, C2, Far.trans g1 g2⟩
    · go_wp2_with (first
        | (go_at_call 65; refine G.out.mono ?_; rintro e w1 ⟨rfl, C1, g1⟩))
      go_ret
      exact ⟨rfl, C1, g1⟩
  · simp only [not_or, Classical.not_forall] at hG
    obtain ⟨hb, N, r, rfl, hlt⟩ := hG
    have hb' : bad = false := by simpa using hb
    subst hb'
    have hmN : m < N := by rcases hN with hN | hN; exact absurd hN hb; exact hN N r rfl
    have G := Lib.hid (get_app h (by omega))
    clear hN hb
    go_enter Try.func38, Try.ntmps38
    by_cases hm1 : m < 0
    · go_wp2_with (first
        | (go_at_call 65; refine G.out.mono ?_; rintro e w1 ⟨rfl, C1, g1⟩
           have hF := Lib.hid (fail_any C1))
        | (go_at_call 41; refine hF.out.mono ?_; rintro e w2 ⟨rfl, C2, g2⟩))
      go_ret
      exact ⟨rfl, C2, Far.trans g1 g2⟩
    · go_wp2_with (first
        | (go_at_call 65; refine G.out.mono ?_; rintro e w1 ⟨rfl, C1, g1⟩
           have hF := Lib.hid (fail_any C1))
        | (go_at_call 41; refine hF.out.mono ?_; rintro e w2 ⟨rfl, C2, g2⟩))
      go_ret
      exact ⟨rfl, C2, Far.trans g1 g2⟩

end Go.Proofs.Ythdkbfffjlkbpaa
/- What is read off bytes, step by step, as plain functions: the state is what is left, or none if bad. No program is named here. -/

namespace Go.Hm
theorem vq_lt {N b : Nat} {r s : List Nat} (h : b :: s = vp N ++ r) (hb : b < 128) : N = b ∧ r = s := by
  by_cases hN : N < 128
  · rw [vp_lt hN] at h; simp at h; exact ⟨h.1.symm, h.2.symm⟩
  · rw [vp_ge hN] at h; simp at h; omega
theorem vq_ge {N b : Nat} {r s : List Nat} (h : b :: s = vp N ++ r) (hb : 128 ≤ b) : N % 128 + 128 = b ∧ 0 < N / 128 ∧ s = vp (N / 128) ++ r := by
  by_cases hN : N < 128
  · rw [vp_lt hN] at h; simp at h; omega
  · rw [vp_ge hN] at h; simp at h; exact ⟨h.1.symm, by omega, h.2⟩
/-- A number of at most f bytes. -/
def pv : Nat → List Nat → Option (Nat × List Nat)
  | 0, _ => none
  | _ + 1, [] => none
  | f + 1, b :: r => if b < 128 then some (b, r) else
      match pv f r with
      | some (0, _) => none
      | some (N + 1, r') => some (b - 128 + 128 * (N + 1), r')
      | none => none
theorem pv_app : ∀ (f N : Nat) (r : List Nat), (vp N).length ≤ f → pv f (vp N ++ r) = some (N, r) := by
  intro f
  induction f with
  | zero => intro N r h; have := vp_pos N; omega
  | succ f ih =>
    intro N r h
    by_cases hN : N < 128
    · rw [vp_lt hN]; simp [pv, hN]
    · rw [vp_ge hN] at h ⊢
      simp only [List.cons_append, pv]
      rw [if_neg (by omega), ih (N / 128) r (by simpa using h)]
      obtain ⟨m, hm⟩ : ∃ m, N / 128 = m + 1 := ⟨N / 128 - 1, by omega⟩
      simp only [hm]
      congr 2
      omega
theorem pv_some : ∀ (f N : Nat) (l r : List Nat), (∀ x ∈ l, x < 256) → pv f l = some (N, r) → l = vp N ++ r ∧ (vp N).length ≤ f := by
  intro f
  induction f with
  | zero => intro N l r _ h; simp [pv] at h
  | succ f ih =>
    intro N l r h8 h
    cases l with
    | nil => simp [pv] at h
    | cons b s =>
      simp only [pv] at h
      by_cases hb : b < 128
      · rw [if_pos hb] at h
        simp only [Option.some.injEq, Prod.mk.injEq] at h
        obtain ⟨rfl, rfl⟩ := h
        rw [vp_lt hb]; simp
      · rw [if_neg hb] at h
        split at h
        · simp at h
        · rename_i M r' hM
          simp only [Option.some.injEq, Prod.mk.injEq] at h
          obtain ⟨rfl, rfl⟩ := h
          obtain ⟨h1, h2⟩ := ih _ _ _ (fun x hx => h8 x (by simp [hx])) hM
          have hb2 := h8 b (by simp)
          rw [vp_ge (by omega), show (b - 128 + 128 * (M + 1)) / 128 = M + 1 by omega, show (b - 128 + 128 * (M + 1)) % 128 + 128 = b by omega, List.cons_append, ← h1]
          refine ⟨rfl, by simp; exact h2⟩
        · simp at h
/-- The number that l begins with, and what is behind it. -/
def gv (l : List Nat) : Option (Nat × List Nat) :=
  match pv 10 l with
  | some (N, r) => if N < 18446744073709551616 then some (N, r) else none
  | none => none
theorem gv_app (N : Nat) (r : List Nat) (hN : N < 18446744073709551616) : gv (vp N ++ r) = some (N, r) := by
  unfold gv
  rw [pv_app 10 N r (vp_len10 hN)]
  simp [hN]
theorem gv_some {l r : List Nat} {N : Nat} (h8 : ∀ x ∈ l, x < 256) (h : gv l = some (N, r)) : l = vp N ++ r ∧ N < 18446744073709551616 := by
  unfold gv at h
  split at h
  · rename_i M s hM
    split at h
    · simp only [Option.some.injEq, Prod.mk.injEq] at h
      obtain ⟨rfl, rfl⟩ := h
      exact ⟨(pv_some _ _ _ _ h8 hM).1, ‹_›⟩
    · cases h
  · cases h
theorem gv_none {l : List Nat} (h : gv l = none) : ∀ N r, l = vp N ++ r → 18446744073709551616 ≤ N := by
  intro N r hl
  rcases Nat.lt_or_ge N 18446744073709551616 with hN | hN
  · rw [hl, gv_app N r hN] at h
    cases h
  · exact hN

/-- The states: what is left; none: bad. -/
abbrev St := Option (List Nat)
def getS : St → Nat × St
  | none => (0, none)
  | some l => match gv l with
    | some (N, r) => (N, some r)
    | none => (0, none)
def lenS (m : Int) (S : St) : Nat × St :=
  match getS S with
  | (N, some r) => if (N : Int) ≤ m then (N, some r) else (0, none)
  | (_, none) => (0, none)
def byteS : St → Nat × St
  | some (b :: r) => (b, some r)
  | _ => (0, none)
def takeS (n : Int) : St → List Nat × St
  | some l => if 0 ≤ n ∧ n ≤ (l.length : Int) then (l.take n.toNat, some (l.drop n.toNat)) else ([], none)
  | none => ([], none)
def endS (S : St) : Bool := decide (S = some [])
/-- All that is left are bytes. -/
def St.ok (S : St) : Prop := ∀ l, S = some l → ∀ x ∈ l, x < 256
theorem St.ok_none : St.ok none := fun _ h => by cases h
theorem St.ok_some {l : List Nat} (h : ∀ x ∈ l, x < 256) : St.ok (some l) := fun _ e => by injection e with e; subst e; exact h

theorem getS_app (N : Nat) (r : List Nat) (hN : N < 18446744073709551616) : getS (some (vp N ++ r)) = (N, some r) := by simp [getS, gv_app N r hN]
theorem lenS_app (N : Nat) (r : List Nat) {m : Int} (hN : (N : Int) ≤ m) (hm : m ≤ 9223372036854775807) : lenS m (some (vp N ++ r)) = (N, some r) := by
  simp only [lenS, getS_app N r (by omega), if_pos hN]
theorem lenS_none (m : Int) : lenS m none = (0, none) := rfl
theorem getS_none : getS none = (0, none) := rfl
theorem byteS_none : byteS none = (0, none) := rfl
theorem takeS_none (n : Int) : takeS n none = ([], none) := rfl
theorem lenS_cases (m : Int) (S : St) (hS : S.ok) : lenS m S = (0, none) ∨ ∃ N r, S = some (vp N ++ r) ∧ (N : Int) ≤ m ∧ N < 18446744073709551616 ∧ lenS m S = (N, some r) := by
  unfold lenS getS
  cases S with
  | none => exact .inl rfl
  | some l =>
    simp only
    cases hg : gv l with
    | none => exact .inl rfl
    | some p =>
      obtain ⟨N, r⟩ := p
      obtain ⟨h1, h2⟩ := gv_some (hS l rfl) hg
      simp only
      split
      · exact .inr ⟨N, r, by rw [h1], ‹_›, h2, rfl⟩
      · exact .inl rfl
theorem getS_cases (S : St) (hS : S.ok) : getS S = (0, none) ∨ ∃ N r, S = some (vp N ++ r) ∧ N < 18446744073709551616 ∧ getS S = (N, some r) := by
  unfold getS
  cases S with
  | none => exact .inl rfl
  | some l =>
    simp only
    cases hg : gv l with
    | none => exact .inl rfl
    | some p =>
      obtain ⟨N, r⟩ := p
      obtain ⟨h1, h2⟩ := gv_some (hS l rfl) hg
      exact .inr ⟨N, r, by rw [h1], h2, rfl⟩
theorem takeS_cases (n : Int) (S : St) : takeS n S = ([], none) ∨ ∃ l, S = some l ∧ 0 ≤ n ∧ n ≤ (l.length : Int) ∧ takeS n S = (l.take n.toNat, some (l.drop n.toNat)) := by
  unfold takeS
  cases S with
  | none => exact .inl rfl
  | some l =>
    simp only
    split
    · rename_i h; exact .inr ⟨l, rfl, h.1, h.2, rfl⟩
    · exact .inl rfl
theorem takeS_app (a b : List Nat) : takeS (a.length : Int) (some (a ++ b)) = (a, some b) := by
  simp only [takeS]
  rw [if_pos ⟨by omega, by rw [List.length_append]; omega⟩]
  simp
theorem lenS_le {m : Int} (S : St) (hm : 0 ≤ m) (hS : S.ok) : ((lenS m S).1 : Int) ≤ m := by
  rcases lenS_cases m S hS with h | ⟨N, r, _, h1, _, h⟩
  · rw [h]; exact hm
  · rw [h]; exact h1
theorem lenS_ok {m : Int} {S : St} (hS : S.ok) : (lenS m S).2.ok := by
  rcases lenS_cases m S hS with h | ⟨N, r, h0, _, _, h⟩
  · rw [h]; exact St.ok_none
  · rw [h]; exact St.ok_some fun x hx => hS _ h0 x (by simp [hx])
theorem getS_ok {S : St} (hS : S.ok) : (getS S).2.ok := by
  rcases getS_cases S hS with h | ⟨N, r, h0, _, h⟩
  · rw [h]; exact St.ok_none
  · rw [h]; exact St.ok_some fun x hx => hS _ h0 x (by simp [hx])
theorem getS_lt {S : St} (hS : S.ok) : (getS S).1 < 18446744073709551616 := by
  rcases getS_cases S hS with h | ⟨N, r, h0, h1, h⟩
  · rw [h]; decide
  · rw [h]; exact h1
theorem byteS_ok {S : St} (hS : S.ok) : (byteS S).2.ok := by
  unfold byteS
  split
  · exact St.ok_some fun x hx => hS _ rfl x (by simp [hx])
  · exact St.ok_none
theorem byteS_lt {S : St} (hS : S.ok) : (byteS S).1 < 256 := by
  unfold byteS
  split
  · exact hS _ rfl _ (by simp)
  · decide
theorem takeS_ok {n : Int} {S : St} (hS : S.ok) : (takeS n S).2.ok ∧ ∀ x ∈ (takeS n S).1, x < 256 := by
  rcases takeS_cases n S with h | ⟨l, h0, _, _, h⟩
  · rw [h]; exact ⟨St.ok_none, by simp⟩
  · rw [h]; exact ⟨St.ok_some fun x hx => hS _ h0 x (List.mem_of_mem_drop hx), fun x hx => hS _ h0 x (List.mem_of_mem_take hx)⟩
theorem takeS_len {n : Int} {S : St} (hn : 0 ≤ n) : ((takeS n S).1.length : Int) ≤ n := by
  rcases takeS_cases n S with h | ⟨l, _, h1, h2, h⟩
  · rw [h]; simpa using hn
  · rw [h, List.length_take]; omega

end Go.Hm
/- Contracts of the document's own answer for layer 3. -/

namespace Go.Proofs.Ythdkbfffjlkbpaa
open Go.RowKit Go.Hm

set_option maxHeartbeats 400000 in
set_option maxRecDepth 100000 in
theorem rlow_any {w : World} {A : Option Addr} {n c : Nat} {l : List Nat} (x k0 : Nat) (h : Reads w w.heap.size 1 A n (nums .u8 l)) (hl : n ≤ 140737488355200) (hk0 : k0 ≤ 8) (hx : x ≤ 18446744073709551615) :
    Calls Try.prog 62 #[.slice A n c, .int .u64 (x : Int), .int .i64 (k0 : Int)] w (BytesPost (l ++ low x k0) w) := by
  obtain rfl := h.len
  go_enter Try.func62, Try.ntmps62
  go_wp2_with (first
    | (refine wpList_pushesN elB rfl (.tmp 9) (.tmp 10) rfl (W := w) (B := w.heap.size) (k := .u8) (l := []) (l2 := l) (c2 := c) (Own.empty _ _) ((h.alloc (Nat.le_refl _) _).more (by simp)) rfl rfl ((Below.refl _ _).alloc (Nat.le_refl _) _) (Nat.le_refl _) (by simp) (by omega) (by simp only [maxLen]; omega) ?_
       simp only [Nat.zero_add, List.nil_append]
       intro A1 c1 w1 _ _ o1 _ b1 _))
  have hs0 := b1.size
  go_loopw [1, 7, 8] (fun n v i wr => ∃ (k : Nat) (A : Option Addr) (c : Nat), k ≤ k0 ∧ i = .int .i64 (k : Int) ∧ n = .int .u64 ((x / 256 ^ k : Nat) : Int) ∧ v = .slice A (l.length + k) c ∧ Own wr w.heap.size 5 (.slice A (l.length + k) c) (nums .u8 (l ++ low x k)) ∧ Below w.heap.size w wr) (fun _ _ i _ => k0 - (intOf i).toNat)
  case atStart => exact ⟨0, _, _, by omega, rfl, by simp, rfl, by simpa [low] using o1, b1⟩
  case round =>
    obtain ⟨k, A', c', hk, rfl, rfl, rfl, hown, hb⟩ := hrel
    have hz := hb.size
    have hq : x / 256 ^ k ≤ x := Nat.div_le_self _ _
    generalize hy : x / 256 ^ k = y at *
    have Hy := Lib.hid hy
    clear hy
    by_cases hlt : k < k0
    · go_wp2_with (first
        | (refine wpList_pushN elB rfl (.tmp 17) (.tmp 20) rfl (W := w) (B := w.heap.size) hown rfl rfl (y % 256) (by simp) hb (Nat.le_refl _) (by omega) (by omega) (by simp only [maxLen]; omega) ?_
           intro A3 c3 w3 _ _ hown3 hg3 hb3 _ _))
      go_roundw
      case rel => exact ⟨k + 1, A3, c3, by omega, by go_num, by rw [Nat.pow_succ, ← Nat.div_div_eq_div_mul, Hy.out]; go_num, rfl, by rw [List.append_assoc, ← Hy.out] at hown3; exact hown3, hb3⟩
      case measure => simp [intOf]; omega
    · obtain rfl : k = k0 := by omega
      go_wp2
      go_ret
      exact ⟨A', _, c', rfl, hown, hb⟩
theorem rlow_of {w0 w : World} {A : Option Addr} {n c : Nat} {l : List Nat} (x k0 : Nat) (h : Reads w0 w0.heap.size 1 A n (nums .u8 l)) (hb : Below w0.heap.size w0 w) (hl : n ≤ 140737488355200) (hk0 : k0 ≤ 8) (hx : x ≤ 18446744073709551615) :
    Calls Try.prog 62 #[.slice A n c, .int .u64 (x : Int), .int .i64 (k0 : Int)] w (BytesPost (l ++ low x k0) w) :=
  rlow_any x k0 ((h.below hb).more hb.size) hl hk0 hx
theorem rlow4 {w0 w : World} {A : Option Addr} {n c : Nat} {l : List Nat} (x : Nat) (h : Reads w0 w0.heap.size 1 A n (nums .u8 l)) (hb : Below w0.heap.size w0 w) (hl : n ≤ 140737488355200) (hx : x ≤ 18446744073709551615) :
    Calls Try.prog 62 #[.slice A n c, .int .u64 (x : Int), .int .i64 4] w (BytesPost (l ++ low x 4) w) :=
  rlow_any x 4 ((h.below hb).more hb.size) hl (by omega) hx
theorem rlow8 {w0 w : World} {A : Option Addr} {n c : Nat} {l : List Nat} (x : Nat) (h : Reads w0 w0.heap.size 1 A n (nums .u8 l)) (hb : Below w0.heap.size w0 w) (hl : n ≤ 140737488355200) (hx : x ≤ 18446744073709551615) :
    Calls Try.prog 62 #[.slice A n c, .int .u64 (x : Int), .int .i64 8] w (BytesPost (l ++ low x 8) w) :=
  rlow_any x 8 ((h.below hb).more hb.size) hl (by omega) hx

end Go.Proofs.Ythdkbfffjlkbpaa
/- Contracts of the document's own cursor (layer 3's answer): its bytes lie in old memory, below block B. -/

namespace Go.Proofs.Ythdkbfffjlkbpaa
open Go.RowKit Go.Hm

/-- Block g is the answer's cursor; what is left are the bytes l, in blocks below B. -/
def RCur (w : World) (B g : Nat) (l : List Nat) (bad : Bool) : Prop :=
  ∃ A c, Blk w g 42 #[.slice A l.length c, .bool bad] ∧ l.length ≤ c ∧ c ≤ maxLen ∧ Reads w B 1 A l.length (nums .u8 l) ∧ B ≤ g ∧ (∀ x ∈ l, x < 256)

section
variable {w w' : World} {B g : Nat} {l : List Nat} {bad : Bool}
theorem RCur.lt (h : RCur w B g l bad) : g < w.heap.size := by
  obtain ⟨A, c, h1, _⟩ := h
  exact h1.lt
theorem RCur.ge (h : RCur w B g l bad) : B ≤ g := by
  obtain ⟨A, c, _, _, _, _, h5, _⟩ := h
  exact h5
theorem RCur.lt8 (h : RCur w B g l bad) : ∀ x ∈ l, x < 256 := by
  obtain ⟨A, c, _, _, _, _, _, h6⟩ := h
  exact h6
theorem RCur.below (h : RCur w B g l bad) (hb : Below w.heap.size w w') : RCur w' B g l bad := by
  obtain ⟨A, c, h1, h2, h3, h4, h5, h6⟩ := h
  exact ⟨A, c, h1.below hb h1.lt, h2, h3, h4.below (hb.mono (by have := h1.lt; omega)), h5, h6⟩
theorem RCur.keep {g' : Nat} (h : RCur w B g l bad) (hg : w.grownBy w' (some g')) (hB : B ≤ g') (hne : g ≠ g') : RCur w' B g l bad := by
  obtain ⟨A, c, h1, h2, h3, h4, h5, h6⟩ := h
  exact ⟨A, c, h1.grown hg (by simpa using hne), h2, h3, h4.grown hg (by have := h1.lt; omega) (fun g e => by injection e with e; omega), h5, h6⟩
theorem RCur.blk (h : RCur w B g l bad) : ∃ cs, Blk w g 42 cs := by
  obtain ⟨A, c, h1, _⟩ := h
  exact ⟨_, h1⟩
end

def RPost (e0 : Ending) (B g : Nat) (l : List Nat) (bad : Bool) (w : World) (e : Ending) (w' : World) : Prop := e = e0 ∧ RCur w' B g l bad ∧ w.grownBy w' (some g)

set_option maxHeartbeats 400000 in
theorem rfail_any {w : World} {B g : Nat} {l : List Nat} {bad : Bool} (h : RCur w B g l bad) :
    Calls Try.prog 46 #[.pointer (some ⟨g, 0, none⟩)] w (RPost (.returned (.tuple #[])) B g [] true w) := by
  obtain ⟨A, c, h1, h2, h3, h4, h5, h6⟩ := h
  have c0 := h1.cell 0
  have c1 := h1.cell 1
  have f0 := h1.frozen 0
  have f1 := h1.frozen 1
  simp at c0 c1
  have H1 := Lib.hid h1
  clear h1
  go_enter Try.func46, Try.ntmps46
  go_wp2
  go_end0
  refine ⟨rfl, ⟨none, 0, ?_, by simp, by simp [maxLen], Reads.none_, h5, by simp⟩, setCell2_grown⟩
  simpa using (H1.out.set_ 0 (.slice none 0 0)).set_ 1 (.bool true)

def RTake (B g : Nat) (l : List Nat) (n : Nat) (w : World) (e : Ending) (w' : World) : Prop :=
  ∃ A c, e = .returned (.slice A n c) ∧ Own w' w.heap.size 5 (.slice A n c) (nums .u8 (l.take n)) ∧ RCur w' B g (l.drop n) false ∧ w.grownBy w' (some g)

theorem rtake_fin {w w1 : World} {B g : Nat} {l : List Nat} {n c : Nat} {A A' : Option Addr} (h1 : Blk w g 42 #[.slice A l.length c, .bool false]) (h2 : l.length ≤ c) (h3 : c ≤ maxLen) (h4 : Reads w B 1 A l.length (nums .u8 l)) (h5 : B ≤ g) (h6 : ∀ x ∈ l, x < 256) (hn : n ≤ l.length)
    (hA : A' = if c = n then A else A.map (·.add n)) (A1 : Option Addr) (c1 : Nat) (b1 : Below w.heap.size w w1) (o1 : Own w1 w.heap.size 5 (.slice A1 n c1) (nums .u8 (l.take n))) :
    RTake B g l n w (.returned (.slice A1 n c1)) (w1.setCell ⟨g, 0, none⟩ (.slice A' (l.length - n) (c - n))) := by
  have B1 := h1.below b1 h1.lt
  have hs : w.grownBy (w1.setCell ⟨g, 0, none⟩ (.slice A' (l.length - n) (c - n))) (some g) := (Far.of_new b1).trans setCell_grown
  have hs1 : w1.grownBy (w1.setCell ⟨g, 0, none⟩ (.slice A' (l.length - n) (c - n))) (some g) := setCell_grown
  have hc := h4.cut hn h2
  rw [Nat.mul_one, nums_drop, ← hA] at hc
  refine ⟨A1, c1, rfl, o1.keepT hs1 B1 (by decide), ⟨A', c - n, ?_, by rw [List.length_drop]; omega, by omega, ?_, h5, fun x hx => h6 x (List.mem_of_mem_drop hx)⟩, hs⟩
  · rw [List.length_drop]
    simpa using B1.set_ 0 (.slice A' (l.length - n) (c - n))
  · rw [List.length_drop]
    exact (hc.below (b1.mono (by have := h1.lt; omega))).setCell h5 _

set_option maxHeartbeats 800000 in
theorem rtake_good {w : World} {B g : Nat} {l : List Nat} {n : Nat} (h : RCur w B g l false) (hn : n ≤ l.length) (hs : n ≤ 140737488355200) :
    Calls Try.prog 44 #[.pointer (some ⟨g, 0, none⟩), .int .i64 (n : Int)] w (RTake B g l n w) := by
  obtain ⟨A, c, h1, h2, h3, h4, h5, h6⟩ := h
  have hgl := h1.lt
  have c0 := h1.cell 0
  have c1 := h1.cell 1
  simp at c0 c1
  have ht := h4.take hn
  rw [Nat.mul_one, nums_take] at ht
  have h3' := h3
  unfold maxLen at h3'
  have F := Lib.hid (fun w1 => rtake_fin (w1 := w1) (A' := if c = n then A else A.map (·.add n)) h1 h2 h3 h4 h5 h6 hn rfl)
  have H1 := Lib.hid h1
  clear h1 h4 h6
  by_cases hcn : c = n
  · obtain rfl : n = c := hcn.symm
    go_enter Try.func44, Try.ntmps44
    go_wp2_with (first
      | (refine wpList_pushesN elB rfl (.tmp 25) (.tmp 31) rfl (W := w) (B := w.heap.size) (k := .u8) (l := []) (l2 := l.take n) (c2 := n) (Own.empty _ _) ((ht.alloc (by omega) _).more (by simp; omega)) rfl rfl ((Below.refl _ _).alloc (Nat.le_refl _) _) (Nat.le_refl _) (by simp) (by omega) (by simp only [maxLen]; omega) ?_
         simp only [Nat.zero_add, List.nil_append]
         intro A1 c1 w1 _ _ o1 _ b1 _
         have B1 := H1.out.below b1 hgl
         have d0 := B1.cell 0
         have e0 := B1.frozen 0
         simp at d0))
    all_goals first | (exfalso; omega) | go_ret
    have F' := F.out w1 _ _ b1 o1
    rw [show l.length - n = 0 by omega, Nat.sub_self] at F'
    simpa using F'
  · have Hcn := Lib.hid hcn
    clear hcn
    go_enter Try.func44, Try.ntmps44
    go_wp2_with (first
      | (refine wpList_pushesN elB rfl (.tmp 25) (.tmp 31) rfl (W := w) (B := w.heap.size) (k := .u8) (l := []) (l2 := l.take n) (c2 := c) (Own.empty _ _) ((ht.alloc (by omega) _).more (by simp; omega)) rfl rfl ((Below.refl _ _).alloc (Nat.le_refl _) _) (Nat.le_refl _) (by simp) (by omega) (by simp only [maxLen]; omega) ?_
         simp only [Nat.zero_add, List.nil_append]
         intro A1 c1 w1 _ _ o1 _ b1 _
         have B1 := H1.out.below b1 hgl
         have d0 := B1.cell 0
         have e0 := B1.frozen 0
         simp at d0))
    all_goals first | (exfalso; have := Hcn.out; omega) | go_ret
    have F' := F.out w1 _ _ b1 o1
    rw [if_neg Hcn.out] at F'
    exact F'


set_option maxHeartbeats 400000 in
theorem rtake_bad {w : World} {B g : Nat} {l : List Nat} {bad : Bool} {n : Int} (h : RCur w B g l bad) (hn : bad = true ∨ n < 0 ∨ (l.length : Int) < n) (h1 : -9223372036854775808 ≤ n) (h2 : n ≤ 9223372036854775807) :
    Calls Try.prog 44 #[.pointer (some ⟨g, 0, none⟩), .int .i64 n] w (RPost (.returned (.slice none 0 0)) B g [] true w) := by
  have hF := rfail_any h
  have HF := Lib.hid hF
  clear hF
  obtain ⟨A, c, b1, _, _, _, _, _⟩ := h
  have c0 := b1.cell 0
  have c1 := b1.cell 1
  simp at c0 c1
  clear b1
  cases bad
  · by_cases hn0 : n < 0
    · clear hn
      go_enter Try.func44, Try.ntmps44
      go_wp2_with (go_at_call 46; refine HF.out.mono ?_; rintro e w' ⟨rfl, k1, k2⟩)
      go_ret
      exact ⟨rfl, k1, k2⟩
    · have hn1 : (l.length : Int) < n := by rcases hn with hn | hn | hn <;> first | cases hn | omega
      clear hn
      have hn0' : 0 ≤ n := by omega
      clear hn0
      go_enter Try.func44, Try.ntmps44
      go_wp2_with (go_at_call 46; refine HF.out.mono ?_; rintro e w' ⟨rfl, k1, k2⟩)
      go_ret
      exact ⟨rfl, k1, k2⟩
  · clear hn
    go_enter Try.func44, Try.ntmps44
    go_wp2_with (go_at_call 46; refine HF.out.mono ?_; rintro e w' ⟨rfl, k1, k2⟩)
    go_ret
    exact ⟨rfl, k1, k2⟩

end Go.Proofs.Ythdkbfffjlkbpaa
/- The answer's cursor: numbers, the end; and the cursor's own contracts, told more closely. -/

namespace Go.Hm
theorem num_step_up (T : List Nat) (k : Nat) (hk : k < T.length) : num (T.drop k) = T.getD k 0 + 256 * num (T.drop (k + 1)) := by
  rw [drop_cons_getD T k 0 hk, num]
theorem num_drop_lt (T : List Nat) (k : Nat) (hT : T.length ≤ 8) (h8 : ∀ x ∈ T, x < 256) : num (T.drop k) < 18446744073709551616 := by
  have h := num_lt (T.drop k) (fun x hx => h8 x (List.mem_of_mem_drop hx))
  have h2 : (256 : Nat) ^ (T.drop k).length ≤ 256 ^ 8 := Nat.pow_le_pow_right (by omega) (by rw [List.length_drop]; omega)
  omega

end Go.Hm

namespace Go.Proofs.Ythdkbfffjlkbpaa
open Go.RowKit Go.Hm

set_option maxHeartbeats 800000 in
set_option maxRecDepth 100000 in
theorem rnum_good {w : World} {B g : Nat} {l : List Nat} (n : Nat) (h : RCur w B g l false) (hn : n ≤ l.length) (hs : n ≤ 8) :
    Calls Try.prog 43 #[.pointer (some ⟨g, 0, none⟩), .int .i64 (n : Int)] w (RPost (.returned (.int .u64 (num (l.take n) : Int))) B g (l.drop n) false w) := by
  have hlt : (l.take n).length = n := by rw [List.length_take]; omega
  have h8 : ∀ x ∈ l.take n, x < 256 := fun x hx => h.lt8 x (List.mem_of_mem_take hx)
  have N := Lib.hid (rtake_good h hn (by omega))
  unfold RTake at N
  generalize l.take n = T at *
  generalize hD : l.drop n = D at *
  clear hD h hn
  go_enter Try.func43, Try.ntmps43
  go_wp2_with (first
    | (go_at_call 44; refine N.out.mono ?_; rintro e w1 ⟨A', c', rfl, k1, k2, k3⟩
       have k4 := k1.reads))
  clear N
  subst hlt
  go_loop [6, 7] (fun v i => ∃ k : Nat, k ≤ T.length ∧ i = .int .i64 ((k : Int) - 1) ∧ v = .int .u64 (num (T.drop k) : Int)) (fun _ i => (intOf i + 1).toNat)
  case atStart => exact ⟨T.length, by omega, rfl, by simp [num]⟩
  case round =>
    obtain ⟨k, hk, rfl, rfl⟩ := hrel
    by_cases hlt' : 0 < k
    · obtain ⟨j, rfl⟩ : ∃ j, k = j + 1 := ⟨k - 1, by omega⟩
      obtain ⟨ad, rfl, hb, hcell⟩ := k4.num (i := j) (by omega)
      have hst := num_step_up T j (by omega)
      have hlt2 := num_drop_lt T j hs h8
      have S := Lib.hid hst
      have hx := getD_lt T j h8
      rw [hst] at hlt2
      clear hst
      generalize T.getD j 0 = x at *
      generalize num (T.drop (j + 1)) = y at *
      rw [show (((j + 1 : Nat) : Int) - 1) = (j : Int) from by omega]
      go_wp2
      go_round
      case rel => exact ⟨j, by omega, rfl, by rw [S.out]; go_num⟩
      case measure => simp [intOf]
    · obtain rfl : k = 0 := by omega
      go_wp2
      go_ret
      exact ⟨rfl, k2, k3⟩
set_option maxHeartbeats 400000 in
theorem rnum_bad {w : World} {B g : Nat} {l : List Nat} {bad : Bool} {n : Int} (h : RCur w B g l bad) (hn : bad = true ∨ n < 0 ∨ (l.length : Int) < n) (h1 : -9223372036854775808 ≤ n) (h2 : n ≤ 9223372036854775807) :
    Calls Try.prog 43 #[.pointer (some ⟨g, 0, none⟩), .int .i64 n] w (RPost (.returned (.int .u64 0)) B g [] true w) := by
  have N := Lib.hid (rtake_bad h hn h1 h2)
  clear hn h1 h2
  go_enter Try.func43, Try.ntmps43
  go_wp2_with (first
    | (go_at_call 44; refine N.out.mono ?_; rintro e w1 ⟨rfl, k2, k3⟩))
  refine wp_loop_rounds 1 ?_
  rw [rounds_succ]
  go_wp2
  go_ret
  exact ⟨rfl, k2, k3⟩

set_option maxHeartbeats 400000 in
theorem rend_any {w : World} {B g : Nat} {l : List Nat} {bad : Bool} (h : RCur w B g l bad) : Calls Try.prog 72 #[.pointer (some ⟨g, 0, none⟩)] w (BadPost (!bad && l.isEmpty) w) := by
  obtain ⟨A, c, b1, _, _, _, _, _⟩ := h
  have c0 := b1.cell 0
  have c1 := b1.cell 1
  simp at c0 c1
  clear b1
  cases bad
  · cases l with
    | nil =>
      go_enter Try.func72, Try.ntmps72
      go_wp2
      go_ret
      exact ⟨rfl, rfl⟩
    | cons x l =>
      have hl : 0 < (x :: l).length := by simp
      have hi : (!false && (x :: l).isEmpty) = false := rfl
      rw [hi]
      generalize (x :: l).length = n at *
      go_enter Try.func72, Try.ntmps72
      go_wp2
      go_ret
      refine ⟨congrArg (fun b => Ending.returned (.bool b)) ?_, rfl⟩
      simp; omega
  · go_enter Try.func72, Try.ntmps72
    go_wp2
    go_ret
    exact ⟨rfl, rfl⟩

/-- Over, with the bytes' own place told. -/
def OverNew (l : List Nat) (w : World) (e : Ending) (w' : World) : Prop :=
  ∃ g A c, e = .returned (.pointer (some ⟨g, 0, none⟩)) ∧ w.heap.size ≤ g ∧ Blk w' g 62 #[.slice A l.length c, .bool false] ∧ Own w' w.heap.size 5 (.slice A l.length c) (nums .u8 l) ∧ Below w.heap.size w w'
theorem OverNew.cur {w : World} {g : Nat} {l : List Nat} {A : Option Addr} {c base : Nat} (h : Blk w g 62 #[.slice A l.length c, .bool false]) (k : Own w base 5 (.slice A l.length c) (nums .u8 l)) (h8 : ∀ x ∈ l, x < 256) : Cur w g l false := by
  have hc := k.cap
  exact ⟨A, c, h, hc.1, hc.2, TR.of_own k, h8, by simp⟩
set_option maxHeartbeats 400000 in
theorem over_new {w : World} {A : Option Addr} {n c : Nat} {l : List Nat} (h : Reads w w.heap.size 1 A n (nums .u8 l)) (hl : n ≤ 140737488355328) :
    Calls Try.prog 20 #[.slice A n c] w (OverNew l w) := by
  obtain rfl := h.len
  go_enter Try.func20, Try.ntmps20
  go_wp2_with (go_at_call 33; refine (clone_any h hl).mono ?_; rintro e w1 ⟨A', n', c', rfl, k1, k2⟩)
  go_ret
  obtain rfl : n' = l.length := by have := k1.len; rwa [nums_length] at this
  exact ⟨_, A', c', rfl, k2.size, Blk.new _ _ _, k1.alloc _, k2.alloc k2.size _⟩

/-- Take, with the world between told: what is taken is newer than what the cursor stands on. -/
def TakeMid (g : Nat) (l : List Nat) (n : Nat) (w : World) (e : Ending) (w' : World) : Prop :=
  ∃ A c w1, e = .returned (.slice A n c) ∧ Own w' w1.heap.size 5 (.slice A n c) (nums .u8 (l.take n)) ∧ Cur w1 g (l.drop n) false ∧ w.grownBy w1 (some g) ∧ Below w1.heap.size w1 w'
set_option maxHeartbeats 400000 in
theorem take_mid {w : World} {g : Nat} {l : List Nat} {n : Nat} (h : Cur w g l false) (hn : n ≤ l.length) (hs : n ≤ 140737488355328) :
    Calls Try.prog 68 #[.pointer (some ⟨g, 0, none⟩), .int .i64 (n : Int)] w (TakeMid g l n w) := by
  have hlt : (l.take n).length = n := by rw [List.length_take]; omega
  go_enter Try.func68, Try.ntmps68
  go_wp2_with (first
    | (go_at_call 86; refine (next_good h hn).mono ?_; rintro e w1 ⟨A', c', rfl, k1, k2, k3⟩
       have k4 := k1.1
       have C := Lib.hid (clone_any (c := c') k4 hs))
    | (go_at_call 33; refine C.out.mono ?_; rintro e w2 ⟨A2, n2, c2, rfl, k5, k6⟩))
  go_ret
  obtain rfl : n2 = n := by have := k5.len; rwa [nums_length, hlt] at this
  exact ⟨A2, c2, w1, rfl, k5, k2, k3, k6⟩

end Go.Proofs.Ythdkbfffjlkbpaa
/- Contracts of the document's own answer for layer 4. -/

namespace Go.Proofs.Ythdkbfffjlkbpaa
open Go.RowKit Go.Hm

set_option maxHeartbeats 400000 in
set_option maxRecDepth 100000 in
theorem rput_any {w : World} {A : Option Addr} {n c : Nat} {l : List Nat} (N : Nat) (hr : Reads w w.heap.size 1 A n (nums .u8 l)) (hn : n ≤ 140737488355200) (hN : N ≤ 18446744073709551615) :
    Calls Try.prog 36 #[.slice A n c, .int .u64 N] w (BytesPost (l ++ vp N) w) := by
  obtain rfl := hr.len
  have hsz := vp_len10 (n := N) (by omega)
  go_enter Try.func36, Try.ntmps36
  go_wp2_with (first
    | (refine wpList_pushesN elB rfl (.tmp 6) (.tmp 7) rfl (W := w) (B := w.heap.size) (k := .u8) (l := []) (l2 := l) (c2 := c) (Own.empty _ _) ((hr.alloc (Nat.le_refl _) _).more (by simp)) rfl rfl ((Below.refl _ _).alloc (Nat.le_refl _) _) (Nat.le_refl _) (by simp) (by omega) (by simp only [maxLen]; omega) ?_
       simp only [Nat.zero_add, List.nil_append]
       intro A1 c1 w1 _ _ o1 _ b1 _))
  go_loopw [1, 5] (PutRel w l N) (fun nv _ _ => (intOf nv).toNat)
  case atStart =>
    refine ⟨N, l, _, _, rfl, Nat.le_refl _, by omega, rfl, rfl, o1, b1⟩
  case round =>
    obtain ⟨N', D, A', c', rfl, hN', hD, rfl, hDN, hown, hb⟩ := hrel
    have hb0 := hb.size
    by_cases hlt : N' < 128
    · go_wp2_with (first
        | (refine wpList_pushN elB rfl (.tmp 20) (.tmp 23) rfl (W := w) (B := w.heap.size) hown rfl rfl N' rfl hb (Nat.le_refl _) (by omega) (by omega) (by simp only [maxLen]; omega) ?_
           intro A3 c3 w3 _ _ hown3 hg3 hb3 _ _))
      go_ret
      rw [vp_lt hlt] at hDN
      rw [hDN] at hown3
      exact ⟨_, _, _, rfl, hown3, hb3⟩
    · have hv := vp_ge hlt
      have Hv := Lib.hid hv
      clear hv
      go_wp2_with (first
        | (refine wpList_pushN elB rfl (.tmp 11) (.tmp 16) rfl (W := w) (B := w.heap.size) hown rfl rfl (N' % 128 + 128) (by go_num) hb (Nat.le_refl _) (by omega) (by omega) (by simp only [maxLen]; omega) ?_
           intro A3 c3 w3 _ _ hown3 hg3 hb3 _ _))
      go_roundw
      case rel =>
        have hv' := Hv.out
        rw [hv', List.length_cons] at hD
        exact ⟨N' / 128, D ++ [N' % 128 + 128], A3, c3, by go_num, by omega, by simp; omega, by simp, by rw [← hDN, hv']; simp, by simpa using hown3, hb3⟩
      case measure => simp [intOf]; omega


set_option maxHeartbeats 400000 in
theorem rzig_any (x : Int) (w : World) (h : -9223372036854775808 ≤ x) (h1 : x ≤ 9223372036854775807) : Calls Try.prog 63 #[.int .i64 x] w (ZigPost (.int .u64 (zig x : Int)) w) := by
  by_cases hx : 0 ≤ x
  · have e : (zig x : Int) = 2 * x := by unfold zig; split <;> omega
    go_enter Try.func63, Try.ntmps63
    go_wp2
    go_ret
    exact ⟨by rw [e]; go_num, rfl⟩
  · have e : (zig x : Int) = 2 * -(x + 1) + 1 := by unfold zig; split <;> omega
    have hx' : x < 0 := by omega
    clear hx
    go_enter Try.func63, Try.ntmps63
    go_wp2
    go_ret
    exact ⟨by rw [e]; go_num, rfl⟩

set_option maxHeartbeats 400000 in
theorem rzag_any (x : Nat) (w : World) (h : x < 18446744073709551616) : Calls Try.prog 89 #[.int .u64 (x : Int)] w (ZigPost (.int .i64 (zag x)) w) := by
  by_cases hx : x % 2 = 0
  · have e : zag x = (x : Int) / 2 := by unfold zag; rw [if_pos hx]; omega
    have hx' : (x : Int) % 2 = 0 := by omega
    clear hx
    go_enter Try.func89, Try.ntmps89
    go_wp2
    go_ret
    exact ⟨by rw [e]; rfl, rfl⟩
  · have e : zag x = -((x : Int) / 2) - 1 := by unfold zag; rw [if_neg hx]; omega
    have hx' : (x : Int) % 2 = 1 := by omega
    clear hx
    go_enter Try.func89, Try.ntmps89
    go_wp2
    go_ret
    exact ⟨by rw [e]; rfl, rfl⟩

def RGet (B g : Nat) (l : List Nat) (w : World) (e : Ending) (w' : World) : Prop :=
  (∃ N r, l = vp N ++ r ∧ N < 18446744073709551616 ∧ e = .returned (.int .u64 (N : Int)) ∧ RCur w' B g r false ∧ w.grownBy w' (some g)) ∨
  ((∀ N r, l = vp N ++ r → 18446744073709551616 ≤ N) ∧ e = .returned (.int .u64 0) ∧ RCur w' B g [] true ∧ w.grownBy w' (some g))

theorem ror_step2 {k v b : Nat} (hv : v < 128 ^ k) (hk : k ≤ 8 ∨ (k ≤ 9 ∧ b % 128 ≤ 1)) :
    IntKind.u64.wrap ((v : Int) + IntKind.u64.wrap ((b : Int) % 128 * 2 ^ (7 * k))) = ((v + 128 ^ k * (b % 128) : Nat) : Int) := by
  have hf := VIn.fits hv (b := b % 128) (by omega) hk
  have e0 : 128 ^ k * (b % 128) = b % 128 * 2 ^ (7 * k) := by rw [pow128, Nat.mul_comm]
  have e2 : (b : Int) % 128 * 2 ^ (7 * k) = ((b % 128 * 2 ^ (7 * k) : Nat) : Int) := by simp
  rw [e0] at hf ⊢
  rw [e2, IntKind.wrap_u64, IntKind.wrap_u64]
  generalize b % 128 * 2 ^ (7 * k) = z at *
  omega

set_option maxHeartbeats 2000000 in
set_option maxRecDepth 100000 in
theorem rget_any {w : World} {B g : Nat} {l : List Nat} (h : RCur w B g l false) :
    Calls Try.prog 69 #[.pointer (some ⟨g, 0, none⟩)] w (RGet B g l w) := by
  go_enter Try.func69, Try.ntmps69
  go_wp2
  go_loopw [3, 4, 5] (fun v i _ wr => ∃ (k x : Nat) (rl : List Nat), i = .int .i64 (k : Int) ∧ k ≤ 9 ∧ v = .int .u64 (x : Int) ∧ VIn l k x rl ∧ RCur wr B g rl false ∧ w.grownBy wr (some g)) (fun _ i _ _ => 100 - (intOf i).toNat)
  case atStart => exact ⟨0, 0, l, rfl, by omega, rfl, VIn.zero l, h, Far.refl g w⟩
  case round =>
    obtain ⟨k, x, rl, rfl, hk, rfl, hV, hC, hg⟩ := hrel
    have HV := Lib.hid hV
    cases rl with
    | nil =>
      clear hV
      have B0 := Lib.hid (rtake_bad (n := 1) hC (.inr (.inr (by simp))) (by omega) (by omega))
      go_wp2_with (first
        | (go_at_call 44; refine B0.out.mono ?_; rintro e w1 ⟨rfl, C1, g1⟩))
      go_ret
      exact .inr ⟨HV.out.not_nil, rfl, C1, Far.trans hg g1⟩
    | cons b rl =>
      have hb8 : b < 256 := hC.lt8 b (by simp)
      have B0 := Lib.hid (show Calls Try.prog 44 #[.pointer (some ⟨g, 0, none⟩), .int .i64 1] _ (RTake B g (b :: rl) 1 _) from rtake_good (n := 1) hC (by simp) (by omega))
      have hx := hV.1
      clear hV
      by_cases hz : 0 < k ∧ b = 0
      · obtain ⟨hz, rfl⟩ := hz
        go_wp2_with (first
          | (go_at_call 44; refine B0.out.mono ?_; rintro e w1 ⟨A1, c1, rfl, k1, C1, g1⟩
             obtain ⟨ad, rfl, _, hcell⟩ := k1.reads.num (i := 0) (by omega)
             simp only [List.take_succ_cons, List.getD_cons_zero, add_zero'] at hcell
             have hF := Lib.hid (rfail_any C1))
          | (go_at_call 46; refine hF.out.mono ?_; rintro e w2 ⟨rfl, C2, g2⟩))
        all_goals first
          | (exfalso; omega)
          | (go_ret
             exact .inr ⟨HV.out.not_zero hz, rfl, C2, Far.trans hg (Far.trans g1 g2)⟩)
      · by_cases h9 : k = 9
        · subst h9
          by_cases hb1 : 1 < b
          · have hbb : ((b : Int) == 0) = false := by simp; omega
            go_wp2_with (first
              | (go_at_call 44; refine B0.out.mono ?_; rintro e w1 ⟨A1, c1, rfl, k1, C1, g1⟩
                 obtain ⟨ad, rfl, _, hcell⟩ := k1.reads.num (i := 0) (by omega)
                 simp only [List.take_succ_cons, List.getD_cons_zero, add_zero'] at hcell
                 have hF := Lib.hid (rfail_any C1))
              | (go_at_call 46; refine hF.out.mono ?_; rintro e w2 ⟨rfl, C2, g2⟩))
            all_goals first
              | (exfalso; omega)
              | (go_ret
                 exact .inr ⟨HV.out.not_big hb1, rfl, C2, Far.trans hg (Far.trans g1 g2)⟩)
          · obtain rfl : b = 1 := by omega
            have HO := ror_step2 hx (b := 1) (.inr ⟨by omega, by omega⟩)
            rw [show ((1 : Nat) : Int) % 128 * (2 : Int) ^ (7 * 9) = 9223372036854775808 from by decide] at HO
            go_wp2_with (first
              | (go_at_call 44; refine B0.out.mono ?_; rintro e w1 ⟨A1, c1, rfl, k1, C1, g1⟩
                 obtain ⟨ad, rfl, _, hcell⟩ := k1.reads.num (i := 0) (by omega)
                 simp only [List.take_succ_cons, List.getD_cons_zero, add_zero'] at hcell))
            go_ret
            exact .inl ⟨x + 128 ^ 9 * 1, rl, HV.out.done (by omega) (.inr (by omega)), VIn.fits hx (by omega) (.inr ⟨by omega, by omega⟩), by simp, C1, Far.trans hg g1⟩
        · have HO := ror_step2 hx (b := b) (.inl (by omega))
          go_wp2_with (first
            | (go_at_call 44; refine B0.out.mono ?_; rintro e w1 ⟨A1, c1, rfl, k1, C1, g1⟩
               obtain ⟨ad, rfl, _, hcell⟩ := k1.reads.num (i := 0) (by omega)
               simp only [List.take_succ_cons, List.getD_cons_zero, add_zero'] at hcell))
          all_goals first
            | (exfalso; omega)
            | (go_ret
               exact .inl ⟨x + 128 ^ k * b, rl, HV.out.done (by omega) (by omega), VIn.fits hx (by omega) (.inl (by omega)), by rw [show ((b : Int) % 128) = (b : Int) from by omega]; simp, C1, Far.trans hg g1⟩)
            | (go_roundw
               case rel => exact ⟨k + 1, x + 128 ^ k * (b - 128), rl, by go_num, by omega, by rw [show ((b : Int) % 128) = ((b - 128 : Nat) : Int) from by omega]; simp, HV.out.step (by omega) hb8, C1, Far.trans hg g1⟩
               case measure => simp [intOf]; omega)

set_option maxHeartbeats 1000000 in
theorem rget_bad {w : World} {B g : Nat} {l : List Nat} (h : RCur w B g l true) :
    Calls Try.prog 69 #[.pointer (some ⟨g, 0, none⟩)] w (RPost (.returned (.int .u64 0)) B g [] true w) := by
  have B0 := Lib.hid (rtake_bad (n := 1) h (.inl rfl) (by omega) (by omega))
  go_enter Try.func69, Try.ntmps69
  go_wp2
  refine wp_loop_rounds 1 ?_
  rw [rounds_succ]
  go_wp2_with (first
    | (go_at_call 44; refine B0.out.mono ?_; rintro e w1 ⟨rfl, C1, g1⟩))
  go_ret
  exact ⟨rfl, C1, g1⟩

theorem rget_app {w : World} {B g N : Nat} {r : List Nat} (h : RCur w B g (vp N ++ r) false) (hN : N < 18446744073709551616) :
    Calls Try.prog 69 #[.pointer (some ⟨g, 0, none⟩)] w (RPost (.returned (.int .u64 (N : Int))) B g r false w) :=
  (rget_any h).mono fun e w' hp => by
    rcases hp with ⟨M, s, h1, h2, h3, h4, h5⟩ | ⟨h1, _⟩
    · obtain ⟨rfl, rfl⟩ := vp_app_inj N N M r s (Nat.le_refl _) h1
      exact ⟨h3, h4, h5⟩
    · have := h1 N r rfl
      omega
theorem rget_no {w : World} {B g : Nat} {l : List Nat} {bad : Bool} (h : RCur w B g l bad) (hN : bad = true ∨ ∀ N r, l = vp N ++ r → 18446744073709551616 ≤ N) :
    Calls Try.prog 69 #[.pointer (some ⟨g, 0, none⟩)] w (RPost (.returned (.int .u64 0)) B g [] true w) := by
  cases bad with
  | true => exact rget_bad h
  | false =>
    refine (rget_any h).mono fun e w' hp => ?_
    rcases hp with ⟨M, s, h1, h2, h3, h4, h5⟩ | ⟨h1, h2, h3, h4⟩
    · rcases hN with hN | hN
      · simp at hN
      · have := hN M s h1
        omega
    · exact ⟨h2, h3, h4⟩

set_option maxHeartbeats 400000 in
theorem rlen_app {w : World} {B g N : Nat} {r : List Nat} {m : Int} (h : RCur w B g (vp N ++ r) false) (hN : (N : Int) ≤ m) (hm : m ≤ 9223372036854775807) :
    Calls Try.prog 42 #[.pointer (some ⟨g, 0, none⟩), .int .i64 m] w (RPost (.returned (.int .i64 (N : Int))) B g r false w) := by
  have G := Lib.hid (rget_app h (by omega))
  go_enter Try.func42, Try.ntmps42
  go_wp2_with (go_at_call 69; refine G.out.mono ?_; rintro e w1 ⟨rfl, C1, g1⟩
               obtain ⟨A1, c1, hB, _⟩ := id C1
               have q1 := hB.cell 1
               simp at q1)
  go_ret
  exact ⟨rfl, C1, g1⟩
set_option maxHeartbeats 400000 in
theorem rlen_no {w : World} {B g : Nat} {l : List Nat} {bad : Bool} {m : Int} (h : RCur w B g l bad) (hN : bad = true ∨ ∀ N r, l = vp N ++ r → m < N) (hm0 : -9223372036854775808 ≤ m) (hm : m ≤ 9223372036854775807) :
    Calls Try.prog 42 #[.pointer (some ⟨g, 0, none⟩), .int .i64 m] w (RPost (.returned (.int .i64 0)) B g [] true w) := by
  by_cases hG : bad = true ∨ ∀ N r, l = vp N ++ r → 18446744073709551616 ≤ N
  · have G := Lib.hid (rget_no h hG)
    clear hG hN
    go_enter Try.func42, Try.ntmps42
    go_wp2_with (first
      | (go_at_call 69; refine G.out.mono ?_; rintro e w1 ⟨rfl, C1, g1⟩
         have hF := Lib.hid (rfail_any C1)
         obtain ⟨A1, c1, hB, _⟩ := id C1
         have q1 := hB.cell 1
         simp at q1)
      | (go_at_call 46; refine hF.out.mono ?_; rintro e w2 ⟨rfl, C2, g2⟩))
    go_ret
    exact ⟨rfl, C2, Far.trans g1 g2⟩
  · simp only [not_or, Classical.not_forall] at hG
    obtain ⟨hb, N, r, rfl, hlt⟩ := hG
    have hb' : bad = false := by simpa using hb
    subst hb'
    have hmN : m < N := by rcases hN with hN | hN; exact absurd hN hb; exact hN N r rfl
    have G := Lib.hid (rget_app h (by omega))
    clear hN hb
    go_enter Try.func42, Try.ntmps42
    by_cases hm1 : m < 0
    · go_wp2_with (first
        | (go_at_call 69; refine G.out.mono ?_; rintro e w1 ⟨rfl, C1, g1⟩
           have hF := Lib.hid (rfail_any C1)
           obtain ⟨A1, c1, hB, _⟩ := id C1
           have q1 := hB.cell 1
           simp at q1)
        | (go_at_call 46; refine hF.out.mono ?_; rintro e w2 ⟨rfl, C2, g2⟩))
      go_ret
      exact ⟨rfl, C2, Far.trans g1 g2⟩
    · go_wp2_with (first
        | (go_at_call 69; refine G.out.mono ?_; rintro e w1 ⟨rfl, C1, g1⟩
           have hF := Lib.hid (rfail_any C1)
           obtain ⟨A1, c1, hB, _⟩ := id C1
           have q1 := hB.cell 1
           simp at q1)
        | (go_at_call 46; refine hF.out.mono ?_; rintro e w2 ⟨rfl, C2, g2⟩))
      go_ret
      exact ⟨rfl, C2, Far.trans g1 g2⟩

end Go.Proofs.Ythdkbfffjlkbpaa
/- The cursors' contracts by states. -/

namespace Go.Proofs.Ythdkbfffjlkbpaa
open Go.RowKit Go.Hm
def CurS (w : World) (g : Nat) (S : St) : Prop := Cur w g (S.getD []) S.isNone

section
variable {w w' : World} {g : Nat} {S : St}
theorem CurS.lt (h : CurS w g S) : g < w.heap.size := Cur.lt h
theorem CurS.below (h : CurS w g S) (hb : Below w.heap.size w w') : CurS w' g S := Cur.below h hb
theorem CurS.keep {g' : Nat} {t : TypeId} {cs : Array Value} (h : CurS w g S) (hg : w.grownBy w' (some g')) (hT : Blk w g' t cs) (hne : g ≠ g') (ht : 5 ≠ t) : CurS w' g S := Cur.keep h hg hT hne ht
theorem CurS.blk (h : CurS w g S) : ∃ cs, Blk w g 62 cs := Cur.blk h
theorem CurS.push {e : TypeId} {base : Nat} {v : Value} {xs : List Value} (h : CurS w g S) (o : Own w base e v xs) (hg : w.grownBy w' v.ownBlock) (he1 : e ≠ 62) (he2 : 5 ≠ e) : CurS w' g S := by
  cases hv : v.ownBlock with
  | none =>
    rw [hv] at hg
    exact h.below ((Turns.of_none (T := []) hg).new (by simp))
  | some g' =>
    obtain ⟨cs, hB⟩ := o.row g' hv
    rw [hv] at hg
    obtain ⟨cs2, hC⟩ := h.blk
    exact h.keep hg hB (fun e' => by subst e'; exact Blk.ne_ hB hC he1 rfl) he2
theorem CurS.ok (h : CurS w g S) : S.ok := by
  intro l e
  subst e
  exact Cur.lt8 h
theorem CurS.of {l : List Nat} (h : Cur w g l false) : CurS w g (some l) := h
theorem CurS.len (h : CurS w g S) : (S.getD []).length ≤ 9223372036854775807 := by have := Cur.len h; unfold maxLen at this; omega
end
/-- A call at a cursor: its answer, and what is left. -/
def CPost (e0 : Ending) (g : Nat) (S : St) (w : World) (e : Ending) (w' : World) : Prop := e = e0 ∧ CurS w' g S ∧ w.grownBy w' (some g)
theorem failS {w : World} {g : Nat} {S : St} (h : CurS w g S) : Calls Try.prog 41 #[.pointer (some ⟨g, 0, none⟩)] w (CPost (.returned (.tuple #[])) g none w) := fail_any h
theorem badS {w : World} {g : Nat} {S : St} (h : CurS w g S) : Calls Try.prog 24 #[.pointer (some ⟨g, 0, none⟩)] w (BadPost S.isNone w) := bad_any h
theorem endS_any {w : World} {g : Nat} {S : St} (h : CurS w g S) : Calls Try.prog 27 #[.pointer (some ⟨g, 0, none⟩)] w (BadPost (endS S) w) := by
  have := end_any h
  have e : endS S = (!S.isNone && (S.getD []).isEmpty) := by
    cases S with
    | none => rfl
    | some l => cases l <;> simp [endS]
  rw [e]; exact this
theorem leftS {w : World} {g : Nat} {S : St} (h : CurS w g S) : Calls Try.prog 23 #[.pointer (some ⟨g, 0, none⟩)] w (LeftPost (S.getD []) w) := left_any h
theorem byteS_any {w : World} {g : Nat} {S : St} (h : CurS w g S) : Calls Try.prog 39 #[.pointer (some ⟨g, 0, none⟩)] w (CPost (.returned (.int .u8 ((byteS S).1 : Int))) g (byteS S).2 w) := by
  cases S with
  | none => exact byte_bad h (.inl rfl)
  | some l =>
    cases l with
    | nil => exact byte_bad h (.inr (by simp))
    | cons b r => exact byte_app h
def TPost (x : List Nat) (g : Nat) (S : St) (w : World) (e : Ending) (w' : World) : Prop :=
  ∃ A n c, e = .returned (.slice A n c) ∧ n = x.length ∧ Own w' w.heap.size 5 (.slice A n c) (nums .u8 x) ∧ CurS w' g S ∧ w.grownBy w' (some g)
theorem takeS_any {w : World} {g : Nat} {n : Int} {S : St} (h : CurS w g S) (h0 : -9223372036854775808 ≤ n) (h1 : n ≤ 140737488355328) : Calls Try.prog 68 #[.pointer (some ⟨g, 0, none⟩), .int .i64 n] w (TPost (takeS n S).1 g (takeS n S).2 w) := by
  rcases takeS_cases n S with hc | ⟨l, rfl, h2, h3, hc⟩
  · rw [hc]
    have hb : S.isNone = true ∨ n < 0 ∨ ((S.getD []).length : Int) < n := by
      unfold takeS at hc
      cases S with
      | none => exact .inl rfl
      | some l =>
        simp only at hc
        split at hc
        · simp at hc
        · rename_i hh
          simp only [Option.getD_some]
          omega
    refine (take_bad h hb h0 (by omega)).mono ?_
    rintro e w' ⟨rfl, k1, k2⟩
    exact ⟨none, 0, 0, rfl, rfl, Own.nil_, k1, k2⟩
  · rw [hc]
    obtain ⟨m, rfl⟩ := Int.eq_ofNat_of_zero_le h2
    simp only [Int.toNat_natCast]
    have hm : m ≤ l.length := by omega
    refine (take_good (l := l) (n := m) h hm (by omega)).mono ?_
    rintro e w' ⟨A, c, rfl, k1, k2, k3⟩
    exact ⟨A, m, c, rfl, by rw [List.length_take]; omega, k1, k2, k3⟩
theorem getS_any {w : World} {g : Nat} {S : St} (h : CurS w g S) : Calls Try.prog 65 #[.pointer (some ⟨g, 0, none⟩)] w (CPost (.returned (.int .u64 ((getS S).1 : Int))) g (getS S).2 w) := by
  rcases hc : getS S with ⟨v, T⟩
  have hok := h.ok
  cases S with
  | none =>
    simp only [getS, Prod.mk.injEq] at hc
    obtain ⟨rfl, rfl⟩ := hc
    exact get_no h (.inl rfl)
  | some l =>
    simp only [getS] at hc
    split at hc
    · rename_i N r hg
      obtain ⟨h1, h2⟩ := gv_some (hok l rfl) hg
      simp only [Prod.mk.injEq] at hc
      obtain ⟨rfl, rfl⟩ := hc
      subst h1
      exact get_app h h2
    · rename_i hg
      simp only [Prod.mk.injEq] at hc
      obtain ⟨rfl, rfl⟩ := hc
      exact get_no h (.inr (gv_none hg))
theorem lenS_any {w : World} {g : Nat} {m : Int} {S : St} (h : CurS w g S) (hm0 : -9223372036854775808 ≤ m) (hm : m ≤ 9223372036854775807) : Calls Try.prog 38 #[.pointer (some ⟨g, 0, none⟩), .int .i64 m] w (CPost (.returned (.int .i64 ((lenS m S).1 : Int))) g (lenS m S).2 w) := by
  have hok := h.ok
  by_cases hg : ∃ N r, S = some (vp N ++ r) ∧ (N : Int) ≤ m
  · obtain ⟨N, r, rfl, hN⟩ := hg
    rw [lenS_app N r hN hm]
    exact len_app h hN hm
  · have e : lenS m S = (0, none) := by
      rcases lenS_cases m S hok with h1 | ⟨N, r, h1, h2, _, _⟩
      · exact h1
      · exact absurd ⟨N, r, h1, h2⟩ hg
    rw [e]
    refine len_no h ?_ hm0 hm
    cases S with
    | none => exact .inl rfl
    | some l =>
      refine .inr fun N r hl => ?_
      simp only [Option.getD_some] at hl
      subst hl
      rcases Int.lt_or_le m N with h1 | h1
      · exact h1
      · exact absurd ⟨N, r, rfl, h1⟩ hg
def RCurS (w : World) (B g : Nat) (S : St) : Prop := RCur w B g (S.getD []) S.isNone

section
variable {w w' : World} {B g : Nat} {S : St}
theorem RCurS.lt (h : RCurS w B g S) : g < w.heap.size := RCur.lt h
theorem RCurS.ge (h : RCurS w B g S) : B ≤ g := RCur.ge h
theorem RCurS.below (h : RCurS w B g S) (hb : Below w.heap.size w w') : RCurS w' B g S := RCur.below h hb
theorem RCurS.keep {g' : Nat} (h : RCurS w B g S) (hg : w.grownBy w' (some g')) (hB : B ≤ g') (hne : g ≠ g') : RCurS w' B g S := RCur.keep h hg hB hne
theorem RCurS.blk (h : RCurS w B g S) : ∃ cs, Blk w g 42 cs := RCur.blk h
theorem RCurS.push {e : TypeId} {base : Nat} {v : Value} {xs : List Value} (h : RCurS w B g S) (o : Own w base e v xs) (hB : B ≤ base) (hg : w.grownBy w' v.ownBlock) (he : e ≠ 42) : RCurS w' B g S := by
  cases hv : v.ownBlock with
  | none =>
    rw [hv] at hg
    exact h.below ((Turns.of_none (T := []) hg).new (by simp))
  | some g' =>
    obtain ⟨cs, hC⟩ := h.blk
    have h1 := o.lt g' hv
    have h2 := o.blk_ne hC he
    rw [hv] at hg
    exact h.keep hg (by omega) (fun e' => by subst e'; exact h2 hv)
theorem RCurS.is (h : RCurS w B g S) : w.cell? ⟨g, 1, none⟩ = some (.bool S.isNone) := by
  obtain ⟨A, c, h1, _⟩ := h
  rw [h1.cell 1]; rfl
theorem RCurS.new {A : Option Addr} {c : Nat} {l : List Nat} (h : Reads w w.heap.size 1 A l.length (nums .u8 l)) (hc : l.length ≤ c) (hm : c ≤ maxLen) (h8 : ∀ x ∈ l, x < 256) :
    RCurS (w.alloc (.cells #[.slice A l.length c, .bool false] 42)) w.heap.size w.heap.size (some l) :=
  ⟨A, c, Blk.new _ _ _, hc, hm, h.alloc (Nat.le_refl _) _, Nat.le_refl _, h8⟩
theorem RCurS.ok (h : RCurS w B g S) : S.ok := by
  intro l e
  subst e
  exact RCur.lt8 h
theorem RCurS.of {l : List Nat} (h : RCur w B g l false) : RCurS w B g (some l) := h
end
def RSPost (e0 : Ending) (B g : Nat) (S : St) (w : World) (e : Ending) (w' : World) : Prop := e = e0 ∧ RCurS w' B g S ∧ w.grownBy w' (some g)
theorem rfailS {w : World} {B g : Nat} {S : St} (h : RCurS w B g S) : Calls Try.prog 46 #[.pointer (some ⟨g, 0, none⟩)] w (RSPost (.returned (.tuple #[])) B g none w) := rfail_any h
theorem rendS_any {w : World} {B g : Nat} {S : St} (h : RCurS w B g S) : Calls Try.prog 72 #[.pointer (some ⟨g, 0, none⟩)] w (BadPost (endS S) w) := by
  have := rend_any h
  have e : endS S = (!S.isNone && (S.getD []).isEmpty) := by
    cases S with
    | none => rfl
    | some l => cases l <;> simp [endS]
  rw [e]; exact this
def RTPost (x : List Nat) (B g : Nat) (S : St) (w : World) (e : Ending) (w' : World) : Prop :=
  ∃ A n c, e = .returned (.slice A n c) ∧ n = x.length ∧ Own w' w.heap.size 5 (.slice A n c) (nums .u8 x) ∧ RCurS w' B g S ∧ w.grownBy w' (some g)
theorem rtakeS_any {w : World} {B g : Nat} {n : Int} {S : St} (h : RCurS w B g S) (h0 : -9223372036854775808 ≤ n) (h1 : n ≤ 140737488355200) : Calls Try.prog 44 #[.pointer (some ⟨g, 0, none⟩), .int .i64 n] w (RTPost (takeS n S).1 B g (takeS n S).2 w) := by
  rcases takeS_cases n S with hc | ⟨l, rfl, h2, h3, hc⟩
  · rw [hc]
    have hb : S.isNone = true ∨ n < 0 ∨ ((S.getD []).length : Int) < n := by
      unfold takeS at hc
      cases S with
      | none => exact .inl rfl
      | some l =>
        simp only at hc
        split at hc
        · simp at hc
        · rename_i hh
          simp only [Option.getD_some]
          omega
    refine (rtake_bad h hb h0 (by omega)).mono ?_
    rintro e w' ⟨rfl, k1, k2⟩
    exact ⟨none, 0, 0, rfl, rfl, Own.nil_, k1, k2⟩
  · rw [hc]
    obtain ⟨m, rfl⟩ := Int.eq_ofNat_of_zero_le h2
    simp only [Int.toNat_natCast]
    have hm : m ≤ l.length := by omega
    refine (rtake_good (l := l) (n := m) h hm (by omega)).mono ?_
    rintro e w' ⟨A, c, rfl, k1, k2, k3⟩
    exact ⟨A, m, c, rfl, by rw [List.length_take]; omega, k1, k2, k3⟩
theorem rgetS_any {w : World} {B g : Nat} {S : St} (h : RCurS w B g S) : Calls Try.prog 69 #[.pointer (some ⟨g, 0, none⟩)] w (RSPost (.returned (.int .u64 ((getS S).1 : Int))) B g (getS S).2 w) := by
  rcases hc : getS S with ⟨v, T⟩
  have hok := h.ok
  cases S with
  | none =>
    simp only [getS, Prod.mk.injEq] at hc
    obtain ⟨rfl, rfl⟩ := hc
    exact rget_no h (.inl rfl)
  | some l =>
    simp only [getS] at hc
    split at hc
    · rename_i N r hg
      obtain ⟨h1, h2⟩ := gv_some (hok l rfl) hg
      simp only [Prod.mk.injEq] at hc
      obtain ⟨rfl, rfl⟩ := hc
      subst h1
      exact rget_app h h2
    · rename_i hg
      simp only [Prod.mk.injEq] at hc
      obtain ⟨rfl, rfl⟩ := hc
      exact rget_no h (.inr (gv_none hg))
theorem rlenS_any {w : World} {B g : Nat} {m : Int} {S : St} (h : RCurS w B g S) (hm0 : -9223372036854775808 ≤ m) (hm : m ≤ 9223372036854775807) : Calls Try.prog 42 #[.pointer (some ⟨g, 0, none⟩), .int .i64 m] w (RSPost (.returned (.int .i64 ((lenS m S).1 : Int))) B g (lenS m S).2 w) := by
  have hok := h.ok
  by_cases hg : ∃ N r, S = some (vp N ++ r) ∧ (N : Int) ≤ m
  · obtain ⟨N, r, rfl, hN⟩ := hg
    rw [lenS_app N r hN hm]
    exact rlen_app h hN hm
  · have e : lenS m S = (0, none) := by
      rcases lenS_cases m S hok with h1 | ⟨N, r, h1, h2, _, _⟩
      · exact h1
      · exact absurd ⟨N, r, h1, h2⟩ hg
    rw [e]
    refine rlen_no h ?_ hm0 hm
    cases S with
    | none => exact .inl rfl
    | some l =>
      refine .inr fun N r hl => ?_
      simp only [Option.getD_some] at hl
      subst hl
      rcases Int.lt_or_le m N with h1 | h1
      · exact h1
      · exact absurd ⟨N, r, rfl, h1⟩ hg
theorem rbyteS_any {w : World} {B g : Nat} {S : St} (h : RCurS w B g S) : Calls Try.prog 43 #[.pointer (some ⟨g, 0, none⟩), .int .i64 1] w (RSPost (.returned (.int .u64 ((byteS S).1 : Int))) B g (byteS S).2 w) := by
  cases S with
  | none => exact rnum_bad (n := 1) h (.inl rfl) (by omega) (by omega)
  | some l =>
    cases l with
    | nil => exact rnum_bad (n := 1) h (.inr (.inr (by simp))) (by omega) (by omega)
    | cons b r =>
      have := rnum_good (l := b :: r) 1 h (by simp) (by omega)
      simp only [List.take_succ_cons, List.take_zero, num, Nat.mul_zero, Nat.add_zero, List.drop_succ_cons, List.drop_zero] at this
      exact this

end Go.Proofs.Ythdkbfffjlkbpaa
