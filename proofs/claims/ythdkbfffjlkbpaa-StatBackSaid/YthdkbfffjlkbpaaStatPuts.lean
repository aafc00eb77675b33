/- StatPuts returns true whatever comes in, and leaves all that was there as it was. -/
import Derived.Test.YthdkbfffjlkbpaaBun6
import Derived.Test.YthdkbfffjlkbpaaBun7

namespace Go.Hm
theorem getD_same {S : St} : (match S with | none => ([] : List Nat) | some l => l) = S.getD [] := by cases S <;> rfl

end Go.Hm

namespace Go.Proofs.Ythdkbfffjlkbpaa
open Go.RowKit Go.Hm
theorem putS_len {l : List Nat} {t : Int} {s : StatS} : (putS l t s).length ≤ l.length + 140000 := by
  unfold putS
  split
  · rename_i h
    have hn := (rightS_n h).2
    have h1 := vp_len10 (n := s.1.toNat) (by omega)
    split
    · rename_i hh
      have h2 := ends_len h hh
      have h3 := vp_len10 (n := (endsL t s).length) (by omega)
      simp only [List.length_append, List.length_cons, List.length_nil]
      omega
    · simp only [List.length_append, List.length_cons, List.length_nil]
      omega
  · omega
/-- What is read is data. -/
theorem getA_data {t : Int} {S : St} : statData (getA t S).1 := by
  have h0 : cellData cell0 := ⟨⟨by simp [cell0], by simp [cell0]⟩, by simp [cell0], by simp [cell0]⟩
  unfold getA
  split
  · unfold rawS
    split
    · exact endsS_data t _
    · exact ⟨h0, h0⟩
  · exact ⟨h0, h0⟩
theorem rightS_no {t : Int} {s : StatS} (h : rightS t s = true) (hh : s.2.1 = false) : s.2.2.1 = cell0 ∧ s.2.2.2 = cell0 := by
  unfold rightS at h
  split at h
  · simp at h
  · simpa [hh] using h
theorem cells_alloc2 {w : World} {x : Obj} {g : Nat} {t : TypeId} {cs : Array Value} (h : Blk w g t cs) : Blk (w.alloc x) g t cs := h.alloc x
set_option maxHeartbeats 4000000 in
set_option maxRecDepth 100000 in
theorem statPuts_big {w : World} {t : Int} {s : StatS} {d : CellS} {A : Option Addr} {n c : Nat} (hk : ¬ (s.2.2.1.2.2.1.length ≤ 2000 ∧ s.2.2.2.2.2.1.length ≤ 2000 ∧ d.2.2.1.length ≤ 2000 ∧ n ≤ 500)) (hn : n ≤ 9223372036854775807)
    (l1 : s.2.2.1.2.2.1.length ≤ 140737488351232) (l2 : s.2.2.2.2.2.1.length ≤ 140737488351232) (l3 : d.2.2.1.length ≤ 140737488351232) :
    Calls Try.prog 4 #[.int .i64 t, statA s, .agg (cellV d).toArray, .slice A n c] w (SmallPost w) := by
  obtain ⟨nn, bb, ⟨p1, p2, p3, p4, p5⟩, ⟨q1, q2, q3, q4, q5⟩⟩ := s
  obtain ⟨d1, d2, d3, d4, d5⟩ := d
  dsimp only at hk l1 l2 l3
  show Calls Try.prog 4 #[.int .i64 t, .agg #[.int .i64 nn, .bool bb, .bool p1, .int .i64 p2, .string (bstr p3), .int .i64 p4, .int .i64 p5, .bool q1, .int .i64 q2, .string (bstr q3), .int .i64 q4, .int .i64 q5], .agg #[.bool d1, .int .i64 d2, .string (bstr d3), .int .i64 d4, .int .i64 d5], .slice A n c] w (SmallPost w)
  have B0 := cells_alloc2 (x := .cells #[.bool d1, .int .i64 d2, .string (bstr d3), .int .i64 d4, .int .i64 d5] 29) (Blk.new w 31 #[.int .i64 nn, .bool bb, .bool p1, .int .i64 p2, .string (bstr p3), .int .i64 p4, .int .i64 p5, .bool q1, .int .i64 q2, .string (bstr q3), .int .i64 q4, .int .i64 q5])
  have B1 := Blk.new (w.alloc (.cells #[.int .i64 nn, .bool bb, .bool p1, .int .i64 p2, .string (bstr p3), .int .i64 p4, .int .i64 p5, .bool q1, .int .i64 q2, .string (bstr q3), .int .i64 q4, .int .i64 q5] 31)) 29 #[.bool d1, .int .i64 d2, .string (bstr d3), .int .i64 d4, .int .i64 d5]
  simp only [World.size_alloc] at B1
  have b0 := new2 w (.cells #[.int .i64 nn, .bool bb, .bool p1, .int .i64 p2, .string (bstr p3), .int .i64 p4, .int .i64 p5, .bool q1, .int .i64 q2, .string (bstr q3), .int .i64 q4, .int .i64 q5] 31) (.cells #[.bool d1, .int .i64 d2, .string (bstr d3), .int .i64 d4, .int .i64 d5] 29)
  have z1 := bstr_size p3
  have z2 := bstr_size q3
  have z3 := bstr_size d3
  have hk : decide (2000 < (p3.length : Int)) = true ∨ decide (2000 < (q3.length : Int)) = true ∨ decide (2000 < (d3.length : Int)) = true ∨ decide (500 < (n : Int)) = true := by simp; omega
  generalize t1 : decide (2000 < (p3.length : Int)) = k1 at *
  generalize t2 : decide (2000 < (q3.length : Int)) = k2 at *
  generalize t3 : decide (2000 < (d3.length : Int)) = k3 at *
  generalize t4 : decide (500 < (n : Int)) = k4 at *
  go_enter Try.func4, Try.ntmps4
  go_wp2_with fail
  refine (small15_any _).mono ?_
  rintro e w1 ⟨rfl, b1⟩
  have B0 := B0.below b1 (by simp; omega)
  have B1 := B1.below b1 (by simp)
  have b1 := New.trans b0 b1
  clear b0
  obtain ⟨x0, x1, x2, x3, x4, x5, x6, x7, x8, x9, x10, x11⟩ := cells12 B0
  obtain ⟨y0, y1, y2, y3, y4⟩ := cells5 B1
  cases k1 <;> cases k2 <;> cases k3 <;> cases k4
  all_goals first
    | (exfalso; simp at hk; done)
    | (go_wp2
       go_ret
       exact ⟨rfl, b1⟩)
set_option maxHeartbeats 4000000 in
set_option maxRecDepth 100000 in
theorem statPuts_walk {w : World} {t : Int} {s : StatS} {d : CellS} {A : Option Addr} {n c : Nat} {b : List Nat} (h : Reads w w.heap.size 1 A n (nums .u8 b)) (hn : n ≤ 500) (h8 : ∀ x ∈ b, x < 256) (hc : n ≤ c) (hcm : c ≤ maxLen)
    (hs : statData s) (hd : CellFine d) (k1 : s.2.2.1.2.2.1.length ≤ 2000) (k2 : s.2.2.2.2.2.1.length ≤ 2000) (k3 : d.2.2.1.length ≤ 2000) :
    Calls Try.prog 4 #[.int .i64 t, statA s, .agg (cellV d).toArray, .slice A n c] w (SmallPost w) := by
  obtain rfl : n = b.length := h.len
  have R1 := fun (W : World) => sright_any (w := W) (t := t) hs.fine
  have R2 := fun (W : World) => rsright_any (w := W) (t := t) hs.fine
  have P1 : Hid (∀ W, New w W → Calls Try.prog 18 #[.slice A b.length c, .int .i64 t, statA s] W (BytesPost (putS b t s) W)) := Lib.hid (fun W hW => sput_any (c := c) (t := t) (Reads.later h hW) (by omega) hs)
  have P2 : Hid (∀ W, New w W → Calls Try.prog 19 #[.slice A b.length c, .int .i64 t, statA s] W (BytesPost (putS b t s) W)) := Lib.hid (fun W hW => rsput_any (c := c) (t := t) (Reads.later h hW) (by omega) hs)
  have hpl := putS_len (l := b) (t := t) (s := s)
  have CW := fun (W : World) => cells_any (t := t) (c := 1) (L := [d]) (Reads.litR W 29 (cellV d).toArray 1 5 (recs cellV [d]) (by simp [recs]) (by simp [recs, cellV])) (fun y hy => by rw [List.mem_singleton.1 hy]; exact hd.1.1) (by omega)
  have HN : rightS t s = true → s.2.1 = false → s.2.2.1 = cell0 ∧ s.2.2.2 = cell0 := fun e1 e3 => rightS_no e1 e3
  have HM : rightS t s = true → cellsB t [d] = true → Hid (∀ W, Calls Try.prog 25 #[.int .i64 t, statA s, cellA d] W (NewPost (.bool (mayB t s d)) W)) ∧ Hid (∀ W, Calls Try.prog 26 #[.int .i64 t, statA s, cellA d] W (NewPost (.bool (mayB t s d)) W)) := fun e1 e2 => by
    have key : near s.2.2.1 ∧ near s.2.2.2 := by
      cases e3 : s.2.1 with
      | true => obtain ⟨r1, r2, -⟩ := rightS_has e1 e3; exact ⟨right_near r1, right_near r2⟩
      | false => obtain ⟨e4, e5⟩ := HN e1 e3; rw [e4, e5]; exact ⟨near0, near0⟩
    have r3 := right_near ((cellsB_iff.1 e2).1 d (by simp))
    exact ⟨Lib.hid fun W => may_any key.1 key.2 r3, Lib.hid fun W => rmay_any key.1 key.2 r3⟩
  clear HN
  have HMH := Lib.hid HM
  have HA := Lib.hid h
  have H8 := Lib.hid h8
  clear HM h h8 hs hd
  generalize rightS t s = R at *
  generalize cellsB t [d] = q at *
  generalize putS b t s = PV at *
  generalize mayB t s d = M at *
  obtain ⟨nn, bb, ⟨p1, p2, p3, p4, p5⟩, ⟨q1, q2, q3, q4, q5⟩⟩ := s
  obtain ⟨d1, d2, d3, d4, d5⟩ := d
  dsimp only at k1 k2 k3
  have R1 : Hid (∀ W, Calls Try.prog 16 #[.int .i64 t, .agg #[.int .i64 nn, .bool bb, .bool p1, .int .i64 p2, .string (bstr p3), .int .i64 p4, .int .i64 p5, .bool q1, .int .i64 q2, .string (bstr q3), .int .i64 q4, .int .i64 q5]] W (NewPost (.bool R) W)) := Lib.hid R1
  have R2 : Hid (∀ W, Calls Try.prog 17 #[.int .i64 t, .agg #[.int .i64 nn, .bool bb, .bool p1, .int .i64 p2, .string (bstr p3), .int .i64 p4, .int .i64 p5, .bool q1, .int .i64 q2, .string (bstr q3), .int .i64 q4, .int .i64 q5]] W (NewPost (.bool R) W)) := Lib.hid R2
  have P1 : Hid (∀ W, New w W → Calls Try.prog 18 #[.slice A b.length c, .int .i64 t, .agg #[.int .i64 nn, .bool bb, .bool p1, .int .i64 p2, .string (bstr p3), .int .i64 p4, .int .i64 p5, .bool q1, .int .i64 q2, .string (bstr q3), .int .i64 q4, .int .i64 q5]] W (BytesPost PV W)) := P1
  have P2 : Hid (∀ W, New w W → Calls Try.prog 19 #[.slice A b.length c, .int .i64 t, .agg #[.int .i64 nn, .bool bb, .bool p1, .int .i64 p2, .string (bstr p3), .int .i64 p4, .int .i64 p5, .bool q1, .int .i64 q2, .string (bstr q3), .int .i64 q4, .int .i64 q5]] W (BytesPost PV W)) := P2
  have CW : Hid (∀ W : World, Calls Try.prog 11 #[.int .i64 t, .slice (some ⟨W.heap.size, 0, none⟩) 1 1] (W.alloc (.cells #[.bool d1, .int .i64 d2, .string (bstr d3), .int .i64 d4, .int .i64 d5] 29)) (NewPost (.bool q) (W.alloc (.cells #[.bool d1, .int .i64 d2, .string (bstr d3), .int .i64 d4, .int .i64 d5] 29)))) := Lib.hid CW
  have HMH : Hid (R = true → q = true → Hid (∀ W, Calls Try.prog 25 #[.int .i64 t, .agg #[.int .i64 nn, .bool bb, .bool p1, .int .i64 p2, .string (bstr p3), .int .i64 p4, .int .i64 p5, .bool q1, .int .i64 q2, .string (bstr q3), .int .i64 q4, .int .i64 q5], .agg #[.bool d1, .int .i64 d2, .string (bstr d3), .int .i64 d4, .int .i64 d5]] W (NewPost (.bool M) W)) ∧ Hid (∀ W, Calls Try.prog 26 #[.int .i64 t, .agg #[.int .i64 nn, .bool bb, .bool p1, .int .i64 p2, .string (bstr p3), .int .i64 p4, .int .i64 p5, .bool q1, .int .i64 q2, .string (bstr q3), .int .i64 q4, .int .i64 q5], .agg #[.bool d1, .int .i64 d2, .string (bstr d3), .int .i64 d4, .int .i64 d5]] W (NewPost (.bool M) W))) := HMH
  show Calls Try.prog 4 #[.int .i64 t, .agg #[.int .i64 nn, .bool bb, .bool p1, .int .i64 p2, .string (bstr p3), .int .i64 p4, .int .i64 p5, .bool q1, .int .i64 q2, .string (bstr q3), .int .i64 q4, .int .i64 q5], .agg #[.bool d1, .int .i64 d2, .string (bstr d3), .int .i64 d4, .int .i64 d5], .slice A b.length c] w (SmallPost w)
  have B0 := cells_alloc2 (x := .cells #[.bool d1, .int .i64 d2, .string (bstr d3), .int .i64 d4, .int .i64 d5] 29) (Blk.new w 31 #[.int .i64 nn, .bool bb, .bool p1, .int .i64 p2, .string (bstr p3), .int .i64 p4, .int .i64 p5, .bool q1, .int .i64 q2, .string (bstr q3), .int .i64 q4, .int .i64 q5])
  have B1 := Blk.new (w.alloc (.cells #[.int .i64 nn, .bool bb, .bool p1, .int .i64 p2, .string (bstr p3), .int .i64 p4, .int .i64 p5, .bool q1, .int .i64 q2, .string (bstr q3), .int .i64 q4, .int .i64 q5] 31)) 29 #[.bool d1, .int .i64 d2, .string (bstr d3), .int .i64 d4, .int .i64 d5]
  simp only [World.size_alloc] at B1
  have b0 := new2 w (.cells #[.int .i64 nn, .bool bb, .bool p1, .int .i64 p2, .string (bstr p3), .int .i64 p4, .int .i64 p5, .bool q1, .int .i64 q2, .string (bstr q3), .int .i64 q4, .int .i64 q5] 31) (.cells #[.bool d1, .int .i64 d2, .string (bstr d3), .int .i64 d4, .int .i64 d5] 29)
  have t1 : decide (2000 < (p3.length : Int)) = false := by simp; omega
  have t2 : decide (2000 < (q3.length : Int)) = false := by simp; omega
  have t3 : decide (2000 < (d3.length : Int)) = false := by simp; omega
  have t4 : decide (500 < (b.length : Int)) = false := by simp; omega
  have z1 := bstr_size p3
  have z2 := bstr_size q3
  have z3 := bstr_size d3
  go_enter Try.func4, Try.ntmps4
  go_wp2_with fail
  refine (small15_any _).mono ?_
  rintro e w1 ⟨rfl, b1⟩
  have B0 := B0.below b1 (by simp; omega)
  have B1 := B1.below b1 (by simp)
  have hz01 := b1.size
  simp only [World.size_alloc] at hz01
  have b1 := New.trans b0 b1
  clear b0
  obtain ⟨x0, x1, x2, x3, x4, x5, x6, x7, x8, x9, x10, x11⟩ := cells12 B0
  obtain ⟨y0, y1, y2, y3, y4⟩ := cells5 B1
  go_upto_region 4 with (fail)
  clear t1 t2 t3 t4 z1 z2 z3 x0 x1 x2 x3 x4 x5 x6 x7 x8 x9 x10 x11 y0 y1 y2 y3 y4 k1 k2 k3
  refine wp_region_up New [(true, 0), (true, 1), (true, 3), (true, 4), (false, 2), (false, 5), (true, 6), (true, 7), (true, 8), (true, 9), (true, 10), (true, 13), (true, 14), (true, 15), (false, 11), (true, 12), (false, 16), (true, 17), (true, 18), (true, 19)]
    New.refl New.trans (by kernel_rfl) (by kernel_rfl) (by kernel_rfl) (by kernel_rfl) ?_
  have hU := New.drew w1
  have F := Lib.hid (fun (W : World) (hW : New w1 W) => B0.below hW B0.lt)
  repeat (first
    | (refine up_skip rfl rfl ?_; simp only [Act.put, List.setIfInBounds_toArray, List.set_cons_zero, List.set_cons_succ])
    | (refine up_quiet rfl rfl (v := ?_) (fun W hQ => ?_) ?_; rotate_left; (obtain ⟨x0, x1, x2, x3, x4, x5, x6, x7, x8, x9, x10, x11⟩ := cells12 (F.out W (New.trans hU hQ)); go_simp <;> with_reducible rfl); simp only [Act.put, List.setIfInBounds_toArray, List.set_cons_zero, List.set_cons_succ]))
  refine up_call rfl rfl (fun K0 hK0 => ?_)
  go_simp
  (with_reducible refine (R1.out _).mono ?_)
  rintro e u ⟨rfl, b⟩
  refine hK0 _ _ b ?_
  replace hU := New.trans hU b
  clear hK0 b
  refine up_call rfl rfl (fun K0 hK0 => ?_)
  go_simp
  (with_reducible refine (R2.out _).mono ?_)
  rintro e u ⟨rfl, b⟩
  refine hK0 _ _ b ?_
  replace hU := New.trans hU b
  clear hK0 b
  repeat (first
    | (refine up_skip rfl rfl ?_; simp only [Act.put, List.setIfInBounds_toArray, List.set_cons_zero, List.set_cons_succ])
    | (refine up_quiet rfl rfl (v := ?_) (fun W hQ => ?_) ?_; rotate_left; (obtain ⟨x0, x1, x2, x3, x4, x5, x6, x7, x8, x9, x10, x11⟩ := cells12 (F.out W (New.trans hU hQ)); go_simp <;> with_reducible rfl); simp only [Act.put, List.setIfInBounds_toArray, List.set_cons_zero, List.set_cons_succ]))
  refine up_call rfl rfl (fun K0 hK0 => ?_)
  go_simp
  (with_reducible refine (P1.out _ (New.trans b1 hU)).mono ?_)
  rintro e u ⟨A2, n2, c2, rfl, o2, b⟩
  refine hK0 _ _ b ?_
  replace hU := New.trans hU b
  have q2 : n2 ≤ 200000 := by have := o2.len; rw [nums_length] at this; omega
  clear hK0 b
  repeat (first
    | (refine up_skip rfl rfl ?_; simp only [Act.put, List.setIfInBounds_toArray, List.set_cons_zero, List.set_cons_succ])
    | (refine up_str elB.ht (by kernel_rfl) (by kernel_rfl) rfl rfl rfl o2.reads (New.refl _) ?_; simp only [Act.put, List.setIfInBounds_toArray, List.set_cons_zero, List.set_cons_succ])
    | (refine up_quiet rfl rfl (v := ?_) (fun W hQ => ?_) ?_; rotate_left; (obtain ⟨x0, x1, x2, x3, x4, x5, x6, x7, x8, x9, x10, x11⟩ := cells12 (F.out W (New.trans hU hQ)); go_simp <;> with_reducible rfl); simp only [Act.put, List.setIfInBounds_toArray, List.set_cons_zero, List.set_cons_succ]))
  refine up_call rfl rfl (fun K0 hK0 => ?_)
  go_simp
  (with_reducible refine (P2.out _ (New.trans b1 hU)).mono ?_)
  rintro e u ⟨A3, n3, c3, rfl, o3, b⟩
  refine hK0 _ _ b ?_
  replace hU := New.trans hU b
  have q3 : n3 ≤ 200000 := by have := o3.len; rw [nums_length] at this; omega
  clear hK0 b
  repeat (first
    | (refine up_skip rfl rfl ?_; simp only [Act.put, List.setIfInBounds_toArray, List.set_cons_zero, List.set_cons_succ])
    | (refine up_str elB.ht (by kernel_rfl) (by kernel_rfl) rfl rfl rfl o3.reads (New.refl _) ?_; simp only [Act.put, List.setIfInBounds_toArray, List.set_cons_zero, List.set_cons_succ])
    | (refine up_quiet rfl rfl (v := ?_) (fun W hQ => ?_) ?_; rotate_left; (obtain ⟨x0, x1, x2, x3, x4, x5, x6, x7, x8, x9, x10, x11⟩ := cells12 (F.out W (New.trans hU hQ)); go_simp <;> with_reducible rfl); simp only [Act.put, List.setIfInBounds_toArray, List.set_cons_zero, List.set_cons_succ]))
  refine up_nil ?_
  have B0 := F.out _ hU
  have B1 := B1.below hU B1.lt
  have b4 := New.trans b1 hU
  have hz14 := hU.size
  rename World => w4
  clear F R2 P1 P2 o2 o3 q2 q3
  have GD := getA_data (t := t) (S := some b)
  generalize hga : getA t (some b) = GA at *
  obtain ⟨⟨gn, gb, ⟨u1, u2, u3, u4, u5⟩, ⟨v1, v2, v3, v4, v5⟩⟩, S2⟩ := GA
  have HGA := Lib.hid hga
  clear hga GD
  go_wp2_with fail
  refine (over_any (Reads.later HA.out b4) (by omega) H8.out).mono ?_
  rintro e w5 ⟨gx, rfl, hgx, C5, b5⟩
  have cx := CurS.of C5
  have b05 := New.trans b4 b5
  have hz0 := b1.size
  have hz4 := b4.size
  have hz45 := b5.size
  have hlx := cx.lt
  have B0 := B0.below b5 B0.lt
  have B1 := B1.below b5 B1.lt
  have ry : RCurS (w5.alloc (.cells #[.slice A b.length c, .bool false] 42)) w.heap.size w5.heap.size (some b) := ⟨A, c, Blk.new _ _ _, hc, hcm, (HA.out.below b05).alloc b05.size _, b05.size, H8.out⟩
  have al : New w5 (w5.alloc (.cells #[.slice A b.length c, .bool false] 42)) := (Below.refl _ _).alloc (Nat.le_refl _) _
  have cx := cx.below al
  have B0 := B0.below al B0.lt
  have B1 := B1.below al B1.lt
  have b06 := New.trans b05 al
  have X1 := sget_any (t := t) cx (by simp; omega)
  rw [HGA.out] at X1
  have X1 := Lib.hid X1
  clear C5 b4 b5 al b05
  go_wp2_with fail
  refine X1.out.mono ?_
  rintro e w6 ⟨rfl, cx, g6⟩
  rw [show statA (gn, gb, (u1, u2, u3, u4, u5), (v1, v2, v3, v4, v5)) = .agg #[.int .i64 gn, .bool gb, .bool u1, .int .i64 u2, .string (bstr u3), .int .i64 u4, .int .i64 u5, .bool v1, .int .i64 v2, .string (bstr v3), .int .i64 v4, .int .i64 v5] from rfl]
  have hz6 := g6.size
  simp only [World.size_alloc] at hz6
  have B0 := B0.grown g6 (by intro e; injection e with e; omega)
  have B1 := B1.grown g6 (by intro e; injection e with e; omega)
  have ry := ry.keep g6 (by omega) (by omega)
  have b06 : New w w6 := Far.below b06 g6 (by omega) (Nat.le_refl _)
  have al : New w6 (w6.alloc (.cells #[.int .i64 gn, .bool gb, .bool u1, .int .i64 u2, .string (bstr u3), .int .i64 u4, .int .i64 u5, .bool v1, .int .i64 v2, .string (bstr v3), .int .i64 v4, .int .i64 v5] 31)) := (Below.refl _ _).alloc (Nat.le_refl _) _
  have BX := Blk.new w6 31 #[.int .i64 gn, .bool gb, .bool u1, .int .i64 u2, .string (bstr u3), .int .i64 u4, .int .i64 u5, .bool v1, .int .i64 v2, .string (bstr v3), .int .i64 v4, .int .i64 v5]
  have B0 := B0.below al B0.lt
  have B1 := B1.below al B1.lt
  have cx := cx.below al
  have ry := ry.below al
  have b07 := New.trans b06 al
  have RY0 := ry.blk
  have X2 := rstget_any (t := t) ry (by simp; omega)
  rw [HGA.out] at X2
  have X2 := Lib.hid X2
  clear X1 g6 al b06
  go_wp2_with fail
  refine X2.out.mono ?_
  rintro e w7 ⟨rfl, ry, g7⟩
  rw [show statA (gn, gb, (u1, u2, u3, u4, u5), (v1, v2, v3, v4, v5)) = .agg #[.int .i64 gn, .bool gb, .bool u1, .int .i64 u2, .string (bstr u3), .int .i64 u4, .int .i64 u5, .bool v1, .int .i64 v2, .string (bstr v3), .int .i64 v4, .int .i64 v5] from rfl]
  have hz7 := g7.size
  simp only [World.size_alloc] at hz7
  have hgy : w5.heap.size ≠ gx := by omega
  have B0 := B0.grown g7 (by intro e; injection e with e; omega)
  have B1 := B1.grown g7 (by intro e; injection e with e; omega)
  have BX := BX.grown g7 (by intro e; injection e with e; omega)
  obtain ⟨cy, BY0⟩ := ry.blk
  obtain ⟨cy', BY1⟩ := RY0
  have cx := cx.keep g7 BY1 (by omega) (by decide)
  have b07 : New w w7 := Far.below b07 g7 (by omega) (Nat.le_refl _)
  have al : New w7 (w7.alloc (.cells #[.int .i64 gn, .bool gb, .bool u1, .int .i64 u2, .string (bstr u3), .int .i64 u4, .int .i64 u5, .bool v1, .int .i64 v2, .string (bstr v3), .int .i64 v4, .int .i64 v5] 31)) := (Below.refl _ _).alloc (Nat.le_refl _) _
  have BY := Blk.new w7 31 #[.int .i64 gn, .bool gb, .bool u1, .int .i64 u2, .string (bstr u3), .int .i64 u4, .int .i64 u5, .bool v1, .int .i64 v2, .string (bstr v3), .int .i64 v4, .int .i64 v5]
  have B0 := B0.below al B0.lt
  have B1 := B1.below al B1.lt
  have BX := BX.below al BX.lt
  have cx := cx.below al
  have ry := ry.below al
  have b08 := New.trans b07 al
  obtain ⟨y0, y1, y2, y3, y4⟩ := cells5 B1
  clear X2 g7 al b07 BY0 BY1
  have CW7 := CW.out (w7.alloc (.cells #[.int .i64 gn, .bool gb, .bool u1, .int .i64 u2, .string (bstr u3), .int .i64 u4, .int .i64 u5, .bool v1, .int .i64 v2, .string (bstr v3), .int .i64 v4, .int .i64 v5] 31))
  rw [World.size_alloc] at CW7
  have CW7 := Lib.hid CW7
  go_wp2_with fail
  refine CW7.out.mono ?_
  rintro e w8 ⟨rfl, b8⟩
  have al : New (w7.alloc (.cells #[.int .i64 gn, .bool gb, .bool u1, .int .i64 u2, .string (bstr u3), .int .i64 u4, .int .i64 u5, .bool v1, .int .i64 v2, .string (bstr v3), .int .i64 v4, .int .i64 v5] 31)) ((w7.alloc (.cells #[.int .i64 gn, .bool gb, .bool u1, .int .i64 u2, .string (bstr u3), .int .i64 u4, .int .i64 u5, .bool v1, .int .i64 v2, .string (bstr v3), .int .i64 v4, .int .i64 v5] 31)).alloc (.cells #[.bool d1, .int .i64 d2, .string (bstr d3), .int .i64 d4, .int .i64 d5] 29)) := (Below.refl _ _).alloc (Nat.le_refl _) _
  have b8 := New.trans al b8
  have B0 := B0.below b8 B0.lt
  have B1 := B1.below b8 B1.lt
  have BX := BX.below b8 BX.lt
  have BY := BY.below b8 BY.lt
  have cx := cx.below b8
  have ry := ry.below b8
  have b09 := New.trans b08 b8
  clear al b8 b08 y0 y1 y2 y3 y4 CW7
  obtain ⟨x0, x1, x2, x3, x4, x5, x6, x7, x8, x9, x10, x11⟩ := cells12 B0
  go_wp2_with fail
  refine (R1.out _).mono ?_
  rintro e w9 ⟨rfl, b9⟩
  have B0 := B0.below b9 B0.lt
  have B1 := B1.below b9 B1.lt
  have BX := BX.below b9 BX.lt
  have BY := BY.below b9 BY.lt
  have cx := cx.below b9
  have ry := ry.below b9
  have b010 := New.trans b09 b9
  clear b9 b09 x0 x1 x2 x3 x4 x5 x6 x7 x8 x9 x10 x11 CW R1
  obtain ⟨AR, cR, BR, -⟩ := ry
  have F := Lib.hid (fun (W : World) (hW : New w9 W) => And.intro (B0.below hW B0.lt) (And.intro (B1.below hW B1.lt) (And.intro (BX.below hW BX.lt) (And.intro (BY.below hW BY.lt) (BR.below hW BR.lt)))))
  have EP : ∀ W, (binOp .eql 31 (.agg #[.int .i64 gn, .bool gb, .bool u1, .int .i64 u2, .string (bstr u3), .int .i64 u4, .int .i64 u5, .bool v1, .int .i64 v2, .string (bstr v3), .int .i64 v4, .int .i64 v5]) (.agg #[.int .i64 gn, .bool gb, .bool u1, .int .i64 u2, .string (bstr u3), .int .i64 u4, .int .i64 u5, .bool v1, .int .i64 v2, .string (bstr v3), .int .i64 v4, .int .i64 v5])).run Try.prog W = .ok (.bool true) W := fun W => eqS_self (gn, gb, (u1, u2, u3, u4, u5), (v1, v2, v3, v4, v5)) W
  have CX := Lib.hid cx
  clear B0 B1 BX BY BR cx
  go_wp2_with fail
  refine wp_region_up New [(true, 0), (true, 1), (true, 2), (true, 3), (true, 4), (true, 5), (true, 6), (true, 7), (true, 9), (true, 10), (true, 11), (true, 12), (true, 13), (false, 8), (true, 14), (true, 15), (true, 16), (true, 17), (true, 19), (true, 20), (true, 21), (true, 22), (false, 18), (true, 23), (true, 24), (true, 25), (true, 26), (true, 27), (true, 28), (true, 29), (true, 30), (true, 31), (true, 32), (true, 33), (true, 34), (true, 35), (true, 37), (true, 38), (true, 39), (false, 36), (false, 40), (true, 41), (true, 42), (true, 43), (true, 44)]
    New.refl New.trans (by kernel_rfl) (by kernel_rfl) (by kernel_rfl) (by kernel_rfl) ?_
  have hU := New.drew w9
  repeat (first
    | (refine up_skip rfl rfl ?_; simp only [Act.put, List.setIfInBounds_toArray, List.set_cons_zero, List.set_cons_succ])
    | (refine up_quiet rfl rfl (v := ?_) (fun W hQ => ?_) ?_; rotate_left; (obtain ⟨B0, B1, BX, BY, BR⟩ := F.out W (New.trans hU hQ); obtain ⟨x0, x1, x2, x3, x4, x5, x6, x7, x8, x9, x10, x11⟩ := cells12 B0; obtain ⟨e0, e1, e2, e3, e4, e5, e6, e7, e8, e9, e10, e11⟩ := cells12 BX; obtain ⟨f0, f1, f2, f3, f4, f5, f6, f7, f8, f9, f10, f11⟩ := cells12 BY; obtain ⟨y0, y1, y2, y3, y4⟩ := cells5 B1; have r0 := BR.cell 0; have r1 := BR.cell 1; simp at r0 r1; clear B0 B1 BX BY BR; go_simp <;> with_reducible rfl); simp only [Act.put, List.setIfInBounds_toArray, List.set_cons_zero, List.set_cons_succ]))
  refine up_call rfl rfl (fun K0 hK0 => ?_)
  go_simp
  (with_reducible refine (leftS (CX.out.below hU)).mono ?_)
  rintro e u ⟨rfl, rfl⟩
  refine hK0 _ _ (New.refl _) ?_
  clear hK0
  repeat (first
    | (refine up_skip rfl rfl ?_; simp only [Act.put, List.setIfInBounds_toArray, List.set_cons_zero, List.set_cons_succ])
    | (refine up_quiet rfl rfl (v := ?_) (fun W hQ => ?_) ?_; rotate_left; (obtain ⟨B0, B1, BX, BY, BR⟩ := F.out W (New.trans hU hQ); obtain ⟨x0, x1, x2, x3, x4, x5, x6, x7, x8, x9, x10, x11⟩ := cells12 B0; obtain ⟨e0, e1, e2, e3, e4, e5, e6, e7, e8, e9, e10, e11⟩ := cells12 BX; obtain ⟨f0, f1, f2, f3, f4, f5, f6, f7, f8, f9, f10, f11⟩ := cells12 BY; obtain ⟨y0, y1, y2, y3, y4⟩ := cells5 B1; have r0 := BR.cell 0; have r1 := BR.cell 1; simp at r0 r1; clear B0 B1 BX BY BR; go_simp <;> with_reducible rfl); simp only [Act.put, List.setIfInBounds_toArray, List.set_cons_zero, List.set_cons_succ]))
  refine up_call rfl rfl (fun K0 hK0 => ?_)
  go_simp
  (with_reducible refine (badS (CX.out.below hU)).mono ?_)
  rintro e u ⟨rfl, rfl⟩
  refine hK0 _ _ (New.refl _) ?_
  clear hK0
  cases q <;> cases R
  all_goals try
    (have HMM := HMH.out (by trivial) (by trivial)
     obtain ⟨M1, M2⟩ := HMM)
  all_goals
    clear HMH
    repeat (first
      | (refine up_skip rfl rfl ?_; simp only [Act.put, List.setIfInBounds_toArray, List.set_cons_zero, List.set_cons_succ])
      | (refine up_quiet rfl rfl (v := ?_) (fun W hQ => ?_) ?_; rotate_left; (obtain ⟨B0, B1, BX, BY, BR⟩ := F.out W (New.trans hU hQ); obtain ⟨x0, x1, x2, x3, x4, x5, x6, x7, x8, x9, x10, x11⟩ := cells12 B0; obtain ⟨e0, e1, e2, e3, e4, e5, e6, e7, e8, e9, e10, e11⟩ := cells12 BX; obtain ⟨f0, f1, f2, f3, f4, f5, f6, f7, f8, f9, f10, f11⟩ := cells12 BY; obtain ⟨y0, y1, y2, y3, y4⟩ := cells5 B1; have r0 := BR.cell 0; have r1 := BR.cell 1; simp at r0 r1; clear B0 B1 BX BY BR; go_simp <;> with_reducible rfl); simp only [Act.put, List.setIfInBounds_toArray, List.set_cons_zero, List.set_cons_succ]))
    try (
      refine up_call rfl rfl (fun K0 hK0 => ?_)
      go_simp
      (with_reducible refine (M1.out _).mono ?_)
      rintro e u ⟨rfl, b⟩
      refine hK0 _ _ b ?_
      replace hU := New.trans hU b
      clear hK0 b
      refine up_call rfl rfl (fun K0 hK0 => ?_)
      go_simp
      (with_reducible refine (M2.out _).mono ?_)
      rintro e u ⟨rfl, b⟩
      refine hK0 _ _ b ?_
      replace hU := New.trans hU b
      clear hK0 b)
    repeat (first
      | (refine up_skip rfl rfl ?_; simp only [Act.put, List.setIfInBounds_toArray, List.set_cons_zero, List.set_cons_succ])
      | (refine up_quiet rfl rfl (v := ?_) (fun W hQ => ?_) ?_; rotate_left; (obtain ⟨B0, B1, BX, BY, BR⟩ := F.out W (New.trans hU hQ); obtain ⟨x0, x1, x2, x3, x4, x5, x6, x7, x8, x9, x10, x11⟩ := cells12 B0; obtain ⟨e0, e1, e2, e3, e4, e5, e6, e7, e8, e9, e10, e11⟩ := cells12 BX; obtain ⟨f0, f1, f2, f3, f4, f5, f6, f7, f8, f9, f10, f11⟩ := cells12 BY; obtain ⟨y0, y1, y2, y3, y4⟩ := cells5 B1; have r0 := BR.cell 0; have r1 := BR.cell 1; simp at r0 r1; clear B0 B1 BX BY BR; go_simp <;> with_reducible rfl); simp only [Act.put, List.setIfInBounds_toArray, List.set_cons_zero, List.set_cons_succ]))
    refine up_nil ?_
    go_wp2
    go_ret
    exact ⟨by simp, New.trans b010 hU⟩

set_option maxRecDepth 100000 in
open Go.WideShapes Go.ChangeShapes in
theorem statPuts_contract {H : Type} {enc : TypeId × Value → H} (W : World) (base : Nat) (args : Array Value) (ds : List (DataW H)) (ps : List MemPlace)
    (hval : ∀ (j : Nat) t v, Try.f4.params[j]? = some t → args[j]? = some v → Value.okWide Try.prog W .any base t v)
    (hA : DataW.TrodAll enc Try.prog W 0 (fun _ => true) true Try.f4.params.toList args.toList ds ps) (hlt : ∀ p ∈ ps, p.block < W.heap.size)
    (hsz : (DataW.weightsEach Try.prog Try.f4.params.toList ds).all (· ≤ reachBytes) = true) :
    Calls Try.prog 4 args W fun e W' => e = .returned (.bool true) ∧ Below W.heap.size W W' := by
  rw [Try.params4] at hA hval hsz
  obtain ⟨v0, v1, v2, v3, d0, d1, d2, d3, p0, p1, p2, p3, rfl, rfl, rfl, h0, h1, h2, h3⟩ := trodAll_four hA
  obtain ⟨t, rfl, wt, wt'⟩ := open_i64 (hval 0 _ _ rfl rfl) h0
  -- s: v1 d1 p1 h1, hval 1
  -- d: v2 d2 p2 h2, hval 2
  obtain ⟨A_b, c_b, b, rfl, hc_b, hm_b, hr_b, hl_b⟩ := open_B (hval 3 _ _ rfl rfl) h3 (fun p hp => hlt p (by simp [hp])) (sized_at hsz (j := 3) rfl rfl)
  obtain ⟨s, rfl, ⟨hs1, hs2⟩, hs3⟩ := open_St (hval 1 _ _ rfl rfl) h1 (fun p hp => hlt p (by simp [hp])) (sized_at hsz (j := 1) rfl rfl)
  obtain ⟨d, rfl, hd⟩ := open_C (hval 2 _ _ rfl rfl) h2 (fun p hp => hlt p (by simp [hp])) (sized_at hsz (j := 2) rfl rfl)
  by_cases k1 : s.2.2.1.2.2.1.length ≤ 2000 ∧ s.2.2.2.2.2.1.length ≤ 2000 ∧ d.2.2.1.length ≤ 2000 ∧ b.length ≤ 500
  · exact statPuts_walk hr_b (by omega) hl_b hc_b (by simp only [maxLen]; omega) ⟨CellFine.data hs1, CellFine.data hs2⟩ hd k1.1 k1.2.1 k1.2.2.1
  · exact statPuts_big k1 (by omega) hs1.1.1 hs2.1.1 hd.1.1

end Go.Proofs.Ythdkbfffjlkbpaa
