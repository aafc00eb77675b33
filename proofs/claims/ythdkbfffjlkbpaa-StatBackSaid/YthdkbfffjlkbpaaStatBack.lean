/- StatBack returns true whatever comes in, and leaves all that was there as it was. -/
import Derived.Test.YthdkbfffjlkbpaaStatPuts
import Derived.Test.YthdkbfffjlkbpaaBun7

namespace Go.Proofs.Ythdkbfffjlkbpaa
open Go.RowKit Go.Hm
attribute [local go_sem] Oper.semAt_some
set_option maxHeartbeats 1000000 in
set_option maxRecDepth 100000 in
theorem statBack_big {w : World} {t : Int} {s : StatS} {A : Option Addr} {n c : Nat} (hk : ¬ (s.2.2.1.2.2.1.length ≤ 2000 ∧ s.2.2.2.2.2.1.length ≤ 2000 ∧ n ≤ 500)) (hn : n ≤ 9223372036854775807)
    (l1 : s.2.2.1.2.2.1.length ≤ 140737488351232) (l2 : s.2.2.2.2.2.1.length ≤ 140737488351232) :
    Calls Try.prog 7 #[.int .i64 t, statA s, .slice A n c] w (SmallPost w) := by
  obtain ⟨nn, bb, ⟨p1, p2, p3, p4, p5⟩, ⟨q1, q2, q3, q4, q5⟩⟩ := s
  dsimp only at hk l1 l2
  show Calls Try.prog 7 #[.int .i64 t, .agg #[.int .i64 nn, .bool bb, .bool p1, .int .i64 p2, .string (bstr p3), .int .i64 p4, .int .i64 p5, .bool q1, .int .i64 q2, .string (bstr q3), .int .i64 q4, .int .i64 q5], .slice A n c] w (SmallPost w)
  have B0 := Blk.new w 31 #[.int .i64 nn, .bool bb, .bool p1, .int .i64 p2, .string (bstr p3), .int .i64 p4, .int .i64 p5, .bool q1, .int .i64 q2, .string (bstr q3), .int .i64 q4, .int .i64 q5]
  have b0 : New w (w.alloc (.cells #[.int .i64 nn, .bool bb, .bool p1, .int .i64 p2, .string (bstr p3), .int .i64 p4, .int .i64 p5, .bool q1, .int .i64 q2, .string (bstr q3), .int .i64 q4, .int .i64 q5] 31)) := (Below.refl _ _).alloc (Nat.le_refl _) _
  have z1 := bstr_size p3
  have z2 := bstr_size q3
  have hk : decide (2000 < (p3.length : Int)) = true ∨ decide (2000 < (q3.length : Int)) = true ∨ decide (500 < (n : Int)) = true := by simp; omega
  generalize t1 : decide (2000 < (p3.length : Int)) = k1 at *
  generalize t2 : decide (2000 < (q3.length : Int)) = k2 at *
  generalize t4 : decide (500 < (n : Int)) = k4 at *
  go_enter Try.func7, Try.ntmps7
  go_wp2_with fail
  refine (small15_any _).mono ?_
  rintro e w1 ⟨rfl, b1⟩
  have B0 := B0.below b1 (by simp)
  have b1 := New.trans b0 b1
  clear b0
  obtain ⟨x0, x1, x2, x3, x4, x5, x6, x7, x8, x9, x10, x11⟩ := cells12 B0
  cases k1 <;> cases k2 <;> cases k4
  all_goals first
    | (exfalso; simp at hk; done)
    | (go_wp2
       go_ret
       exact ⟨rfl, b1⟩)
set_option maxHeartbeats 1000000 in
set_option maxRecDepth 100000 in
theorem neqS_same (s : StatS) (w : World) : (binOp .neq 31 (statA s) (statA s)).run Try.prog w = .ok (.bool false) w := by
  obtain ⟨nn, bb, ⟨p1, p2, p3, p4, p5⟩, ⟨q1, q2, q3, q4, q5⟩⟩ := s
  show (binOp .neq 31 (.agg #[.int .i64 nn, .bool bb, .bool p1, .int .i64 p2, .string (bstr p3), .int .i64 p4, .int .i64 p5, .bool q1, .int .i64 q2, .string (bstr q3), .int .i64 q4, .int .i64 q5]) (.agg #[.int .i64 nn, .bool bb, .bool p1, .int .i64 p2, .string (bstr p3), .int .i64 p4, .int .i64 p5, .bool q1, .int .i64 q2, .string (bstr q3), .int .i64 q4, .int .i64 q5])).run Try.prog w = _
  go_simp
theorem sB15 : Try.prog.underlying 35 = some (.slice (Try.prog.elem 35)) := by kernel_rfl
theorem zB15 (w : World) : (sizeOf (Try.prog.elem 35)).run Try.prog w = .ok 1 w := by kernel_rfl
theorem bslice_h (A : Option Addr) (n c m : Nat) (hc : m ≤ c) (w : World) : (Instr.sliceAt 35 (.slice A n c) none (some (.int .i64 (m : Int))) none).run Try.prog w = .ok (.slice A m c) w := by
  rw [run_sliceAt_slice w _ _ _ _ _ sB15, run_slice_h w _ A n c sB15 .i64 (m : Int) (by omega) (by omega), zB15]
  cases A <;> simp [Result.andThen, sliced, Addr.add]
theorem putS_lt {t : Int} {s : StatS} (hs : statData s) : ∀ x ∈ putS [] t s, x < 256 := by
  have hE : ∀ x ∈ endsL t s, x < 256 := plB_lt fun c hc => by
    simp at hc
    rcases hc with rfl | rfl
    · exact hs.1.1.2
    · exact hs.2.1.2
  have hv := fun n => vp_byteS n n (Nat.le_refl _)
  unfold putS
  intro x hx
  split at hx
  · split at hx
    · simp only [List.nil_append, List.mem_append, List.mem_singleton] at hx
      rcases hx with ((hx | rfl) | hx) | hx
      · exact hv _ x hx
      · omega
      · exact hv _ x hx
      · exact hE x hx
    · simp only [List.nil_append, List.mem_append, List.mem_singleton] at hx
      rcases hx with hx | rfl
      · exact hv _ x hx
      · omega
  · simp at hx
set_option maxHeartbeats 4000000 in
set_option maxRecDepth 100000 in
theorem statBack_walk {w : World} {t : Int} {s : StatS} {A : Option Addr} {n c : Nat} {b : List Nat} (h : Reads w w.heap.size 1 A n (nums .u8 b)) (hn : n ≤ 500) (h8 : ∀ x ∈ b, x < 256) (hc : n ≤ c)
    (hs : statData s) (k1 : s.2.2.1.2.2.1.length ≤ 2000) (k2 : s.2.2.2.2.2.1.length ≤ 2000) :
    Calls Try.prog 7 #[.int .i64 t, statA s, .slice A n c] w (SmallPost w) := by
  obtain rfl : n = b.length := h.len
  have R1 := fun (W : World) => sright_any (w := W) (t := t) hs.fine
  have P1 : Hid (∀ W, Calls Try.prog 18 #[.slice none 0 0, .int .i64 t, statA s] W (BytesPost (putS [] t s) W)) := Lib.hid (fun W => sput_any (w := W) (c := 0) (t := t) Reads.none_ (by omega) hs)
  have hpl := putS_len (l := []) (t := t) (s := s)
  have hpb : ∀ x ∈ putS [] t s, x < 256 := putS_lt hs
  have GP := fun (e : rightS t s = true) => getA_put e hs [] (by simp)
  rw [List.append_nil] at GP
  have GN := fun (e : (getA t (some b)).2 = none) => getA_none e
  have GB := fun (tt : StatS) (r : List Nat) (e : getA t (some b) = (tt, some r)) => getA_back h8 e
  have GD := getA_data (t := t) (S := some b)
  have HA := Lib.hid h
  have H8 := Lib.hid h8
  have HPB := Lib.hid hpb
  have HGP := Lib.hid GP
  have HGN := Lib.hid GN
  have HGB := Lib.hid GB
  have HGD := Lib.hid GD
  clear h h8 hs hpb GP GN GB GD
  generalize rightS t s = R at *
  generalize putS [] t s = PV at *
  have EQS := fun (W : World) => neqS_same s W
  obtain ⟨nn, bb, ⟨p1, p2, p3, p4, p5⟩, ⟨q1, q2, q3, q4, q5⟩⟩ := s
  dsimp only at k1 k2
  have R1 : Hid (∀ W, Calls Try.prog 16 #[.int .i64 t, .agg #[.int .i64 nn, .bool bb, .bool p1, .int .i64 p2, .string (bstr p3), .int .i64 p4, .int .i64 p5, .bool q1, .int .i64 q2, .string (bstr q3), .int .i64 q4, .int .i64 q5]] W (NewPost (.bool R) W)) := Lib.hid R1
  have P1 : Hid (∀ W, Calls Try.prog 18 #[.slice none 0 0, .int .i64 t, .agg #[.int .i64 nn, .bool bb, .bool p1, .int .i64 p2, .string (bstr p3), .int .i64 p4, .int .i64 p5, .bool q1, .int .i64 q2, .string (bstr q3), .int .i64 q4, .int .i64 q5]] W (BytesPost PV W)) := P1
  have EQS : Hid (∀ W, (binOp .neq 31 (.agg #[.int .i64 nn, .bool bb, .bool p1, .int .i64 p2, .string (bstr p3), .int .i64 p4, .int .i64 p5, .bool q1, .int .i64 q2, .string (bstr q3), .int .i64 q4, .int .i64 q5]) (.agg #[.int .i64 nn, .bool bb, .bool p1, .int .i64 p2, .string (bstr p3), .int .i64 p4, .int .i64 p5, .bool q1, .int .i64 q2, .string (bstr q3), .int .i64 q4, .int .i64 q5])).run Try.prog W = .ok (.bool false) W) := Lib.hid EQS
  show Calls Try.prog 7 #[.int .i64 t, .agg #[.int .i64 nn, .bool bb, .bool p1, .int .i64 p2, .string (bstr p3), .int .i64 p4, .int .i64 p5, .bool q1, .int .i64 q2, .string (bstr q3), .int .i64 q4, .int .i64 q5], .slice A b.length c] w (SmallPost w)
  have B0 := Blk.new w 31 #[.int .i64 nn, .bool bb, .bool p1, .int .i64 p2, .string (bstr p3), .int .i64 p4, .int .i64 p5, .bool q1, .int .i64 q2, .string (bstr q3), .int .i64 q4, .int .i64 q5]
  have b0 : New w (w.alloc (.cells #[.int .i64 nn, .bool bb, .bool p1, .int .i64 p2, .string (bstr p3), .int .i64 p4, .int .i64 p5, .bool q1, .int .i64 q2, .string (bstr q3), .int .i64 q4, .int .i64 q5] 31)) := (Below.refl _ _).alloc (Nat.le_refl _) _
  have t1 : decide (2000 < (p3.length : Int)) = false := by simp; omega
  have t2 : decide (2000 < (q3.length : Int)) = false := by simp; omega
  have t4 : decide (500 < (b.length : Int)) = false := by simp; omega
  have z1 := bstr_size p3
  have z2 := bstr_size q3
  go_enter Try.func7, Try.ntmps7
  go_wp2_with fail
  refine (small15_any _).mono ?_
  rintro e w1 ⟨rfl, b1⟩
  have B0 := B0.below b1 (by simp)
  have hz01 := b1.size
  simp only [World.size_alloc] at hz01
  have b1 := New.trans b0 b1
  clear b0
  obtain ⟨x0, x1, x2, x3, x4, x5, x6, x7, x8, x9, x10, x11⟩ := cells12 B0
  go_wp2_with fail
  refine (P1.out _).mono ?_
  rintro e w2 ⟨A2, n2, c2, rfl, o2, b2⟩
  have qn : n2 ≤ 200000 := by have := o2.len; rw [nums_length] at this; simp only [List.length_nil] at hpl; omega
  have O2 := over_any (c := c2) o2.reads (by omega) HPB.out
  have B0 := B0.below b2 B0.lt
  have b02 := New.trans b1 b2
  have hb12 := b2.size
  clear b2 b1 o2 x0 x1 x2 x3 x4 x5 x6 x7 x8 x9 x10 x11 t1 t2 t4 z1 z2 k1 k2
  go_wp2_with fail
  refine O2.mono ?_
  rintro e w3 ⟨gx, rfl, hgx, C3, b3⟩
  have cx := CurS.of C3
  have hlx := cx.lt
  have b03 := New.trans b02 b3
  have B0 := B0.below b3 B0.lt
  have hb0 : w.heap.size < w2.heap.size := by omega
  have hb23 := b3.size
  clear O2 C3 b3 P1
  go_wp2_with fail
  refine (over_any (Reads.later HA.out b03) (by omega) H8.out).mono ?_
  rintro e w4 ⟨gy, rfl, hgy, C4, b4⟩
  have cy := CurS.of C4
  have cx := cx.below b4
  have b04 := New.trans b03 b4
  have B0 := B0.below b4 B0.lt
  cases R with
  | false =>
    obtain ⟨x0, x1, x2, x3, x4, x5, x6, x7, x8, x9, x10, x11⟩ := cells12 B0
    go_wp2_with fail
    refine (R1.out _).mono ?_
    rintro e wz ⟨rfl, b5⟩
    have cy := cy.below b5
    have bz := New.trans b04 b5
    have hgz : w.heap.size ≤ gy := by omega
    clear x0 x1 x2 x3 x4 x5 x6 x7 x8 x9 x10 x11 B0 b5 cx HGP R1 EQS
    have X2 := Lib.hid (sget_any (t := t) cy (by simp; omega))
    generalize hga : getA t (some b) = GA at *
    obtain ⟨⟨gn, gb, ⟨u1, u2, u3, u4, u5⟩, ⟨v1, v2, v3, v4, v5⟩⟩, S2⟩ := GA
    have HGA := Lib.hid hga
    clear hga
    go_wp2_with fail
    refine X2.out.mono ?_
    rintro e w6 ⟨rfl, cy, g6⟩
    rw [show statA (gn, gb, (u1, u2, u3, u4, u5), (v1, v2, v3, v4, v5)) = .agg #[.int .i64 gn, .bool gb, .bool u1, .int .i64 u2, .string (bstr u3), .int .i64 u4, .int .i64 u5, .bool v1, .int .i64 v2, .string (bstr v3), .int .i64 v4, .int .i64 v5] from rfl]
    have b06 : New w w6 := Far.below bz g6 hgz (Nat.le_refl _)
    have al : New w6 (w6.alloc (.cells #[.int .i64 gn, .bool gb, .bool u1, .int .i64 u2, .string (bstr u3), .int .i64 u4, .int .i64 u5, .bool v1, .int .i64 v2, .string (bstr v3), .int .i64 v4, .int .i64 v5] 31)) := (Below.refl _ _).alloc (Nat.le_refl _) _
    have BX := Blk.new w6 31 #[.int .i64 gn, .bool gb, .bool u1, .int .i64 u2, .string (bstr u3), .int .i64 u4, .int .i64 u5, .bool v1, .int .i64 v2, .string (bstr v3), .int .i64 v4, .int .i64 v5]
    have cy := cy.below al
    have b07 := New.trans b06 al
    have BD := Lib.hid (badS cy)
    clear X2 g6 al b06 bz
    cases S2 with
    | none =>
      go_wp2_with fail
      refine BD.out.mono ?_
      rintro e w7 ⟨rfl, rfl⟩
      have e := HGN.out (by trivial)
      simp only [stat0, cell0, Prod.mk.injEq] at e
      obtain ⟨rfl, rfl, ⟨rfl, rfl, rfl, rfl, rfl⟩, rfl, rfl, rfl, rfl, rfl⟩ := e
      obtain ⟨x0, x1, x2, x3, x4, x5, x6, x7, x8, x9, x10, x11⟩ := cells12 BX
      have EQ0 : ∀ W, (binOp .eql 31 (.agg #[.int .i64 0, .bool false, .bool false, .int .i64 0, .string (bstr []), .int .i64 0, .int .i64 0, .bool false, .int .i64 0, .string (bstr []), .int .i64 0, .int .i64 0]) (.agg #[.int .i64 0, .bool false, .bool false, .int .i64 0, .string ⟨#[]⟩, .int .i64 0, .int .i64 0, .bool false, .int .i64 0, .string ⟨#[]⟩, .int .i64 0, .int .i64 0])).run Try.prog W = .ok (.bool true) W := fun W => eqS_self stat0 W
      go_wp2_with fail
      go_ret
      exact ⟨rfl, b07⟩
    | some r =>
      obtain ⟨hrt, hpt⟩ := HGB.out _ _ rfl
      have GD := HGD.out
      have P2 := fun (W : World) => sput_any (w := W) (c := 0) (t := t) (l := []) (n := 0) (A := none) Reads.none_ (by omega) GD
      have R2 := fun (W : World) => sright_any (w := W) (t := t) GD.fine
      rw [hrt] at R2
      clear GD
      generalize putS [] t (gn, gb, (u1, u2, u3, u4, u5), (v1, v2, v3, v4, v5)) = PT at *
      have P2 : Hid (∀ W, Calls Try.prog 18 #[.slice none 0 0, .int .i64 t, .agg #[.int .i64 gn, .bool gb, .bool u1, .int .i64 u2, .string (bstr u3), .int .i64 u4, .int .i64 u5, .bool v1, .int .i64 v2, .string (bstr v3), .int .i64 v4, .int .i64 v5]] W (BytesPost PT W)) := Lib.hid P2
      have R2 : Hid (∀ W, Calls Try.prog 16 #[.int .i64 t, .agg #[.int .i64 gn, .bool gb, .bool u1, .int .i64 u2, .string (bstr u3), .int .i64 u4, .int .i64 u5, .bool v1, .int .i64 v2, .string (bstr v3), .int .i64 v4, .int .i64 v5]] W (NewPost (.bool true) W)) := Lib.hid R2
      have hpl2 := congrArg List.length hpt
      rw [List.length_append] at hpl2
      have HPT := Lib.hid hpt
      have Hlen := Lib.hid hpl2
      clear hpt hrt hpl2
      obtain ⟨x0, x1, x2, x3, x4, x5, x6, x7, x8, x9, x10, x11⟩ := cells12 BX
      go_wp2_with fail
      refine BD.out.mono ?_
      rintro e w7 ⟨rfl, rfl⟩
      go_wp2_with fail
      refine (P2.out _).mono ?_
      rintro e w8 ⟨A3, n3, c3, rfl, o3, b8⟩
      have hn3 : n3 = PT.length := by have := o3.len; rw [nums_length] at this; exact this
      have BX := BX.below b8 BX.lt
      have b08 := New.trans b07 b8
      have CY := Lib.hid (cy.below b8)
      have r3 := o3.reads
      have hle : n3 ≤ b.length := by have := Hlen.out; omega
      have hsub : (b.length : Int) - (r.length : Int) = (n3 : Int) := by have := Hlen.out; omega
      have W1 : IntKind.i64.wrap (n3 : Int) = (n3 : Int) := by rw [IntKind.wrap_i64]; omega
      have hln : decide ((n3 : Int) ≤ (b.length : Int)) = true := decide_eq_true (by omega)
      have SL := fun W => bslice_h A b.length c n3 (by omega) W
      have rT : Reads w w.heap.size 1 A n3 (nums .u8 PT) := by
        have h1 := HA.out.take hle
        have h2 : (nums .u8 b).take (n3 * 1) = nums .u8 PT := by
          rw [Nat.mul_one, ← HPT.out, hn3, nums_append, List.take_left' (nums_length _ _)]
        rw [h2] at h1
        exact h1
      have RT := Lib.hid rT
      have R3 := Lib.hid r3
      have F := Lib.hid (fun (W : World) (hW : New w8 W) => BX.below hW BX.lt)
      clear x0 x1 x2 x3 x4 x5 x6 x7 x8 x9 x10 x11 BX cy b8 o3 BD P2 rT r3 hn3
      go_wp2_with fail
      refine wp_region_up New [(true, 0), (true, 1), (true, 2), (true, 3), (false, 4), (true, 5), (true, 6), (true, 7), (true, 8), (true, 9), (true, 10), (true, 11), (true, 12), (true, 13), (true, 14), (true, 15), (true, 16), (true, 17), (true, 18), (false, 19), (true, 20), (true, 21), (true, 22), (true, 23), (true, 24), (true, 25), (true, 26), (true, 27), (true, 28), (true, 29), (true, 30), (true, 31), (true, 32), (true, 33)]
        New.refl New.trans (by kernel_rfl) (by kernel_rfl) (by kernel_rfl) (by kernel_rfl) ?_
      have hU := New.drew w8
      repeat (first
        | (refine up_skip rfl rfl ?_; simp only [Act.put, List.setIfInBounds_toArray, List.set_cons_zero, List.set_cons_succ])
        | (refine up_quiet rfl rfl (v := ?_) (fun W hQ => ?_) ?_; rotate_left; (obtain ⟨x0, x1, x2, x3, x4, x5, x6, x7, x8, x9, x10, x11⟩ := cells12 (F.out W (New.trans hU hQ)); go_simp <;> with_reducible rfl); simp only [Act.put, List.setIfInBounds_toArray, List.set_cons_zero, List.set_cons_succ]))
      refine up_call rfl rfl (fun K0 hK0 => ?_)
      go_simp
      (with_reducible refine (R2.out _).mono ?_)
      rintro e u ⟨rfl, b⟩
      refine hK0 _ _ b ?_
      replace hU := New.trans hU b
      clear hK0 b
      repeat (first
        | (refine up_skip rfl rfl ?_; simp only [Act.put, List.setIfInBounds_toArray, List.set_cons_zero, List.set_cons_succ])
        | (refine up_quiet rfl rfl (v := ?_) (fun W hQ => ?_) ?_; rotate_left; (obtain ⟨x0, x1, x2, x3, x4, x5, x6, x7, x8, x9, x10, x11⟩ := cells12 (F.out W (New.trans hU hQ)); go_simp <;> with_reducible rfl); simp only [Act.put, List.setIfInBounds_toArray, List.set_cons_zero, List.set_cons_succ]))
      refine up_call rfl rfl (fun K0 hK0 => ?_)
      go_simp
      (with_reducible refine (leftS (CY.out.below hU)).mono ?_)
      rintro e u ⟨rfl, rfl⟩
      refine hK0 _ _ (New.refl _) ?_
      clear hK0
      simp only [Option.getD_some]
      repeat (first
        | (refine up_skip rfl rfl ?_; simp only [Act.put, List.setIfInBounds_toArray, List.set_cons_zero, List.set_cons_succ])
        | (refine up_str elB.ht (by kernel_rfl) (by kernel_rfl) rfl rfl rfl R3.out hU ?_; simp only [Act.put, List.setIfInBounds_toArray, List.set_cons_zero, List.set_cons_succ])
        | (refine up_str elB.ht (by kernel_rfl) (by kernel_rfl) rfl rfl rfl RT.out (New.trans b08 hU) ?_; simp only [Act.put, List.setIfInBounds_toArray, List.set_cons_zero, List.set_cons_succ])
        | (refine up_quiet rfl rfl (v := ?_) (fun W hQ => ?_) ?_; rotate_left; (obtain ⟨x0, x1, x2, x3, x4, x5, x6, x7, x8, x9, x10, x11⟩ := cells12 (F.out W (New.trans hU hQ)); go_simp <;> with_reducible rfl); simp only [Act.put, List.setIfInBounds_toArray, List.set_cons_zero, List.set_cons_succ]))
      refine up_nil ?_
      go_wp2
      go_ret
      exact ⟨by simp, New.trans b08 hU⟩
  | true =>
    have X1 := sget_any (t := t) (cx.below (New.refl _)) (by simp only [Option.getD_some]; simp only [List.length_nil] at hpl; omega)
    rw [HGP.out (by trivial)] at X1
    obtain ⟨x0, x1, x2, x3, x4, x5, x6, x7, x8, x9, x10, x11⟩ := cells12 B0
    go_wp2_with fail
    refine (R1.out _).mono ?_
    rintro e w5 ⟨rfl, b5⟩
    have cy := cy.below b5
    have cx := cx.below b5
    have B0 := B0.below b5 B0.lt
    have X1 := sget_any (t := t) cx (by simp only [Option.getD_some]; simp only [List.length_nil] at hpl; omega)
    rw [HGP.out (by trivial)] at X1
    have X1 := Lib.hid X1
    have b05 := New.trans b04 b5
    have hxb := cx.blk
    have hz5 := cx.lt
    have hz5' := cy.lt
    clear b5 x0 x1 x2 x3 x4 x5 x6 x7 x8 x9 x10 x11 R1
    go_wp2_with fail
    refine X1.out.mono ?_
    rintro e w6 ⟨rfl, cx, g6⟩
    rw [show statA (nn, bb, (p1, p2, p3, p4, p5), (q1, q2, q3, q4, q5)) = .agg #[.int .i64 nn, .bool bb, .bool p1, .int .i64 p2, .string (bstr p3), .int .i64 p4, .int .i64 p5, .bool q1, .int .i64 q2, .string (bstr q3), .int .i64 q4, .int .i64 q5] from rfl]
    obtain ⟨cs, hxb⟩ := hxb
    have cy := cy.keep g6 hxb (by omega) (by decide)
    have B0 := B0.grown g6 (by intro e; injection e with e; omega)
    have b06 : New w w6 := Far.below b05 g6 (by omega) (Nat.le_refl _)
    have al : New w6 (w6.alloc (.cells #[.int .i64 nn, .bool bb, .bool p1, .int .i64 p2, .string (bstr p3), .int .i64 p4, .int .i64 p5, .bool q1, .int .i64 q2, .string (bstr q3), .int .i64 q4, .int .i64 q5] 31)) := (Below.refl _ _).alloc (Nat.le_refl _) _
    have BX := Blk.new w6 31 #[.int .i64 nn, .bool bb, .bool p1, .int .i64 p2, .string (bstr p3), .int .i64 p4, .int .i64 p5, .bool q1, .int .i64 q2, .string (bstr q3), .int .i64 q4, .int .i64 q5]
    have B0 := B0.below al B0.lt
    have cx := cx.below al
    have cy := cy.below al
    have bz := New.trans b06 al
    have hgz : w.heap.size ≤ gy := by omega
    obtain ⟨x0, x1, x2, x3, x4, x5, x6, x7, x8, x9, x10, x11⟩ := cells12 B0
    obtain ⟨y0, y1, y2, y3, y4, y5, y6, y7, y8, y9, y10, y11⟩ := cells12 BX
    have EQ := EQS.out
    have EN := Lib.hid (endS_any cx)
    clear X1 g6 al b06 b05 cx HGP EQS
    go_wp2_with fail
    refine EN.out.mono ?_
    rintro e wz ⟨rfl, rfl⟩
    clear x0 x1 x2 x3 x4 x5 x6 x7 x8 x9 x10 x11 y0 y1 y2 y3 y4 y5 y6 y7 y8 y9 y10 y11 B0 BX EN EQ
    have X2 := Lib.hid (sget_any (t := t) cy (by simp; omega))
    generalize hga : getA t (some b) = GA at *
    obtain ⟨⟨gn, gb, ⟨u1, u2, u3, u4, u5⟩, ⟨v1, v2, v3, v4, v5⟩⟩, S2⟩ := GA
    have HGA := Lib.hid hga
    clear hga
    go_wp2_with fail
    refine X2.out.mono ?_
    rintro e w6 ⟨rfl, cy, g6⟩
    rw [show statA (gn, gb, (u1, u2, u3, u4, u5), (v1, v2, v3, v4, v5)) = .agg #[.int .i64 gn, .bool gb, .bool u1, .int .i64 u2, .string (bstr u3), .int .i64 u4, .int .i64 u5, .bool v1, .int .i64 v2, .string (bstr v3), .int .i64 v4, .int .i64 v5] from rfl]
    have b06 : New w w6 := Far.below bz g6 hgz (Nat.le_refl _)
    have al : New w6 (w6.alloc (.cells #[.int .i64 gn, .bool gb, .bool u1, .int .i64 u2, .string (bstr u3), .int .i64 u4, .int .i64 u5, .bool v1, .int .i64 v2, .string (bstr v3), .int .i64 v4, .int .i64 v5] 31)) := (Below.refl _ _).alloc (Nat.le_refl _) _
    have BX := Blk.new w6 31 #[.int .i64 gn, .bool gb, .bool u1, .int .i64 u2, .string (bstr u3), .int .i64 u4, .int .i64 u5, .bool v1, .int .i64 v2, .string (bstr v3), .int .i64 v4, .int .i64 v5]
    have cy := cy.below al
    have b07 := New.trans b06 al
    have BD := Lib.hid (badS cy)
    clear X2 g6 al b06 bz
    cases S2 with
    | none =>
      go_wp2_with fail
      refine BD.out.mono ?_
      rintro e w7 ⟨rfl, rfl⟩
      have e := HGN.out (by trivial)
      simp only [stat0, cell0, Prod.mk.injEq] at e
      obtain ⟨rfl, rfl, ⟨rfl, rfl, rfl, rfl, rfl⟩, rfl, rfl, rfl, rfl, rfl⟩ := e
      obtain ⟨x0, x1, x2, x3, x4, x5, x6, x7, x8, x9, x10, x11⟩ := cells12 BX
      have EQ0 : ∀ W, (binOp .eql 31 (.agg #[.int .i64 0, .bool false, .bool false, .int .i64 0, .string (bstr []), .int .i64 0, .int .i64 0, .bool false, .int .i64 0, .string (bstr []), .int .i64 0, .int .i64 0]) (.agg #[.int .i64 0, .bool false, .bool false, .int .i64 0, .string ⟨#[]⟩, .int .i64 0, .int .i64 0, .bool false, .int .i64 0, .string ⟨#[]⟩, .int .i64 0, .int .i64 0])).run Try.prog W = .ok (.bool true) W := fun W => eqS_self stat0 W
      go_wp2_with fail
      go_ret
      exact ⟨rfl, b07⟩
    | some r =>
      obtain ⟨hrt, hpt⟩ := HGB.out _ _ rfl
      have GD := HGD.out
      have P2 := fun (W : World) => sput_any (w := W) (c := 0) (t := t) (l := []) (n := 0) (A := none) Reads.none_ (by omega) GD
      have R2 := fun (W : World) => sright_any (w := W) (t := t) GD.fine
      rw [hrt] at R2
      clear GD
      generalize putS [] t (gn, gb, (u1, u2, u3, u4, u5), (v1, v2, v3, v4, v5)) = PT at *
      have P2 : Hid (∀ W, Calls Try.prog 18 #[.slice none 0 0, .int .i64 t, .agg #[.int .i64 gn, .bool gb, .bool u1, .int .i64 u2, .string (bstr u3), .int .i64 u4, .int .i64 u5, .bool v1, .int .i64 v2, .string (bstr v3), .int .i64 v4, .int .i64 v5]] W (BytesPost PT W)) := Lib.hid P2
      have R2 : Hid (∀ W, Calls Try.prog 16 #[.int .i64 t, .agg #[.int .i64 gn, .bool gb, .bool u1, .int .i64 u2, .string (bstr u3), .int .i64 u4, .int .i64 u5, .bool v1, .int .i64 v2, .string (bstr v3), .int .i64 v4, .int .i64 v5]] W (NewPost (.bool true) W)) := Lib.hid R2
      have hpl2 := congrArg List.length hpt
      rw [List.length_append] at hpl2
      have HPT := Lib.hid hpt
      have Hlen := Lib.hid hpl2
      clear hpt hrt hpl2
      obtain ⟨x0, x1, x2, x3, x4, x5, x6, x7, x8, x9, x10, x11⟩ := cells12 BX
      go_wp2_with fail
      refine BD.out.mono ?_
      rintro e w7 ⟨rfl, rfl⟩
      go_wp2_with fail
      refine (P2.out _).mono ?_
      rintro e w8 ⟨A3, n3, c3, rfl, o3, b8⟩
      have hn3 : n3 = PT.length := by have := o3.len; rw [nums_length] at this; exact this
      have BX := BX.below b8 BX.lt
      have b08 := New.trans b07 b8
      have CY := Lib.hid (cy.below b8)
      have r3 := o3.reads
      have hle : n3 ≤ b.length := by have := Hlen.out; omega
      have hsub : (b.length : Int) - (r.length : Int) = (n3 : Int) := by have := Hlen.out; omega
      have W1 : IntKind.i64.wrap (n3 : Int) = (n3 : Int) := by rw [IntKind.wrap_i64]; omega
      have hln : decide ((n3 : Int) ≤ (b.length : Int)) = true := decide_eq_true (by omega)
      have SL := fun W => bslice_h A b.length c n3 (by omega) W
      have rT : Reads w w.heap.size 1 A n3 (nums .u8 PT) := by
        have h1 := HA.out.take hle
        have h2 : (nums .u8 b).take (n3 * 1) = nums .u8 PT := by
          rw [Nat.mul_one, ← HPT.out, hn3, nums_append, List.take_left' (nums_length _ _)]
        rw [h2] at h1
        exact h1
      have RT := Lib.hid rT
      have R3 := Lib.hid r3
      have F := Lib.hid (fun (W : World) (hW : New w8 W) => BX.below hW BX.lt)
      clear x0 x1 x2 x3 x4 x5 x6 x7 x8 x9 x10 x11 BX cy b8 o3 BD P2 rT r3 hn3
      go_wp2_with fail
      refine wp_region_up New [(true, 0), (true, 1), (true, 2), (true, 3), (false, 4), (true, 5), (true, 6), (true, 7), (true, 8), (true, 9), (true, 10), (true, 11), (true, 12), (true, 13), (true, 14), (true, 15), (true, 16), (true, 17), (true, 18), (false, 19), (true, 20), (true, 21), (true, 22), (true, 23), (true, 24), (true, 25), (true, 26), (true, 27), (true, 28), (true, 29), (true, 30), (true, 31), (true, 32), (true, 33)]
        New.refl New.trans (by kernel_rfl) (by kernel_rfl) (by kernel_rfl) (by kernel_rfl) ?_
      have hU := New.drew w8
      repeat (first
        | (refine up_skip rfl rfl ?_; simp only [Act.put, List.setIfInBounds_toArray, List.set_cons_zero, List.set_cons_succ])
        | (refine up_quiet rfl rfl (v := ?_) (fun W hQ => ?_) ?_; rotate_left; (obtain ⟨x0, x1, x2, x3, x4, x5, x6, x7, x8, x9, x10, x11⟩ := cells12 (F.out W (New.trans hU hQ)); go_simp <;> with_reducible rfl); simp only [Act.put, List.setIfInBounds_toArray, List.set_cons_zero, List.set_cons_succ]))
      refine up_call rfl rfl (fun K0 hK0 => ?_)
      go_simp
      (with_reducible refine (R2.out _).mono ?_)
      rintro e u ⟨rfl, b⟩
      refine hK0 _ _ b ?_
      replace hU := New.trans hU b
      clear hK0 b
      repeat (first
        | (refine up_skip rfl rfl ?_; simp only [Act.put, List.setIfInBounds_toArray, List.set_cons_zero, List.set_cons_succ])
        | (refine up_quiet rfl rfl (v := ?_) (fun W hQ => ?_) ?_; rotate_left; (obtain ⟨x0, x1, x2, x3, x4, x5, x6, x7, x8, x9, x10, x11⟩ := cells12 (F.out W (New.trans hU hQ)); go_simp <;> with_reducible rfl); simp only [Act.put, List.setIfInBounds_toArray, List.set_cons_zero, List.set_cons_succ]))
      refine up_call rfl rfl (fun K0 hK0 => ?_)
      go_simp
      (with_reducible refine (leftS (CY.out.below hU)).mono ?_)
      rintro e u ⟨rfl, rfl⟩
      refine hK0 _ _ (New.refl _) ?_
      clear hK0
      simp only [Option.getD_some]
      repeat (first
        | (refine up_skip rfl rfl ?_; simp only [Act.put, List.setIfInBounds_toArray, List.set_cons_zero, List.set_cons_succ])
        | (refine up_str elB.ht (by kernel_rfl) (by kernel_rfl) rfl rfl rfl R3.out hU ?_; simp only [Act.put, List.setIfInBounds_toArray, List.set_cons_zero, List.set_cons_succ])
        | (refine up_str elB.ht (by kernel_rfl) (by kernel_rfl) rfl rfl rfl RT.out (New.trans b08 hU) ?_; simp only [Act.put, List.setIfInBounds_toArray, List.set_cons_zero, List.set_cons_succ])
        | (refine up_quiet rfl rfl (v := ?_) (fun W hQ => ?_) ?_; rotate_left; (obtain ⟨x0, x1, x2, x3, x4, x5, x6, x7, x8, x9, x10, x11⟩ := cells12 (F.out W (New.trans hU hQ)); go_simp <;> with_reducible rfl); simp only [Act.put, List.setIfInBounds_toArray, List.set_cons_zero, List.set_cons_succ]))
      refine up_nil ?_
      go_wp2
      go_ret
      exact ⟨by simp, New.trans b08 hU⟩

set_option maxRecDepth 100000 in
open Go.WideShapes Go.ChangeShapes in
theorem statBack_contract {H : Type} {enc : TypeId × Value → H} (W : World) (base : Nat) (args : Array Value) (ds : List (DataW H)) (ps : List MemPlace)
    (hval : ∀ (j : Nat) t v, Try.f7.params[j]? = some t → args[j]? = some v → Value.okWide Try.prog W .any base t v)
    (hA : DataW.TrodAll enc Try.prog W 0 (fun _ => true) true Try.f7.params.toList args.toList ds ps) (hlt : ∀ p ∈ ps, p.block < W.heap.size)
    (hsz : (DataW.weightsEach Try.prog Try.f7.params.toList ds).all (· ≤ reachBytes) = true) :
    Calls Try.prog 7 args W fun e W' => e = .returned (.bool true) ∧ Below W.heap.size W W' := by
  rw [Try.params7] at hA hval hsz
  obtain ⟨v0, v1, v2, d0, d1, d2, p0, p1, p2, rfl, rfl, rfl, h0, h1, h2⟩ := trodAll_three hA
  obtain ⟨t, rfl, wt, wt'⟩ := open_i64 (hval 0 _ _ rfl rfl) h0
  -- s: v1 d1 p1 h1, hval 1
  obtain ⟨A_b, c_b, b, rfl, hc_b, hm_b, hr_b, hl_b⟩ := open_B (hval 2 _ _ rfl rfl) h2 (fun p hp => hlt p (by simp [hp])) (sized_at hsz (j := 2) rfl rfl)
  obtain ⟨s, rfl, ⟨hs1, hs2⟩, hs3⟩ := open_St (hval 1 _ _ rfl rfl) h1 (fun p hp => hlt p (by simp [hp])) (sized_at hsz (j := 1) rfl rfl)
  by_cases k1 : s.2.2.1.2.2.1.length ≤ 2000 ∧ s.2.2.2.2.2.1.length ≤ 2000 ∧ b.length ≤ 500
  · exact statBack_walk hr_b (by omega) hl_b hc_b ⟨CellFine.data hs1, CellFine.data hs2⟩ k1.1 k1.2.1
  · exact statBack_big k1 (by omega) hs1.1.1 hs2.1.1

end Go.Proofs.Ythdkbfffjlkbpaa
