/- CellTwice returns true whatever comes in, and leaves all that was there as it was. -/
import Derived.Test.YtcnaameebbcmhaaSmall07
import Derived.Test.YtcnaameebbcmhaaFew07
import Derived.Test.YtcnaameebbcmhaaTwice
import Derived.Test.YtcnaameebbcmhaaTrod7

namespace Go.Proofs.Ytcnaameebbcmhaa
open Go.RowKit Go.Hm
theorem ints_snoc (l : List Int) (k : Nat) (h : k < l.length) : ints .i64 (l.take (k + 1)) = ints .i64 (l.take k) ++ [.int .i64 (l.getD k 0)] := by
  rw [take_snoc l k 0 h]
  simp [ints]
theorem both_at {l s : List Int} {k : Nat} (hk : k < s.length) : (bothL l s).getD k 0 = l.getD (s.getD k 0).toNat 0 := by
  rw [bothL, List.getD_eq_getElem?_getD, List.getElem?_map, List.getElem?_eq_getElem hk, List.getD_eq_getElem?_getD (l := s), List.getElem?_eq_getElem hk]
  rfl
set_option maxHeartbeats 4000000 in
set_option maxRecDepth 100000 in
theorem cellTwice_walk {w : World} {Ac : Option Addr} {cc : Nat} {L : List ColS} {r : Int} {Ad : Option Addr} {cd : Nat} {D : List ColD} {Al : Option Addr} {nl cl : Nat} {l : List Int} {fr to_ : Int} {As : Option Addr} {ns cs : Nat} {s : List Int} {f2 t2 : Int}
    (h : TabIn w Ac cc L Ad D) (hl : Reads w w.heap.size 1 Al nl (ints .i64 l)) (hcl : nl ≤ cl) (hnl : nl ≤ 4611686018427387903) (hb : fr ≤ 9223372036854775807 ∧ -9223372036854775808 ≤ fr ∧ to_ ≤ 9223372036854775807 ∧ -9223372036854775808 ≤ to_)
    (hs : Reads w w.heap.size 1 As ns (ints .i64 s)) (hcs : ns ≤ cs) (hns : ns ≤ 4611686018427387903) (hb2 : f2 ≤ 9223372036854775807 ∧ -9223372036854775808 ≤ f2 ∧ t2 ≤ 9223372036854775807 ∧ -9223372036854775808 ≤ t2) :
    Calls Try.prog 6 #[.agg #[.slice Ac L.length cc, .int .i64 r, .slice Ad D.length cd], .slice Al nl cl, .int .i64 fr, .int .i64 to_, .slice As ns cs, .int .i64 f2, .int .i64 t2] w (SmallPost w) := by
  obtain rfl := hl.lenI
  obtain rfl := hs.lenI
  obtain ⟨W0, hW0⟩ : ∃ W, W = w.alloc (.cells #[.slice Ac L.length cc, .int .i64 r, .slice Ad D.length cd] 35) := ⟨_, rfl⟩
  have b0 : New w W0 := by rw [hW0]; exact (Below.refl _ _).alloc (Nat.le_refl _) _
  have B0 : Blk W0 w.heap.size 35 #[.slice Ac L.length cc, .int .i64 r, .slice Ad D.length cd] := by rw [hW0]; exact Blk.new _ _ _
  have T := Lib.hid (fun (W : World) (hW : New W0 W) => h.later (New.trans b0 hW))
  have rl := Lib.hid (fun (W : World) (hW : New W0 W) => Reads.later hl (New.trans b0 hW))
  have rs := Lib.hid (fun (W : World) (hW : New W0 W) => Reads.later hs (New.trans b0 hW))
  have F := Lib.hid (fun (W : World) (hW : New W0 W) => ccells (B0.below hW B0.lt))
  have SM := Lib.hid (small07_any W0)
  have HW := Lib.hid hW0
  have fL := projL_fine (er := 0) (L := L) (l := l) h.fine
  have fD := fun (D' : List ColD) (hh : D'.map (·.2.2) = projC 0 D l fr to_) => projC_fine (fun d hd y hy => (h.within d hd).2.1 y hy) hh
  have fL2 := projL_fine (er := 0) (L := L) (l := bothL l s) h.fine
  have fD2 := fun (D' : List ColD) (hh : D'.map (·.2.2) = projC 0 D (bothL l s) (fr + f2) (fr + t2)) => projC_fine (fun d hd y hy => (h.within d hd).2.1 y hy) hh
  have fL := Lib.hid fL
  have fD := Lib.hid fD
  have fL2 := Lib.hid fL2
  have fD2 := Lib.hid fD2
  clear h B0 hW0 hl hs
  go_enter Try.func6, Try.ntmps6
  go_wp2_with fail
  rw [← HW.out]
  refine SM.out.mono ?_
  rintro e w1 ⟨rfl, b1⟩
  have P := Lib.hid (few07_any (r := r) (cd := cd) (T.out w1 b1))
  obtain ⟨x0, x1, x2⟩ := F.out w1 b1
  go_wp2_with fail
  refine P.out.mono ?_
  rintro e w2 ⟨bb, rfl, b2⟩
  have b2 := New.trans b1 b2
  clear x0 x1 x2 P SM HW b1
  cases bb with
  | false =>
    go_wp2
    go_ret
    exact ⟨rfl, New.trans b0 b2⟩
  | true =>
    by_cases h80 : 80 < l.length
    · have t1 : decide (80 < (l.length : Int)) = true := by simp; omega
      go_wp2
      go_ret
      exact ⟨rfl, New.trans b0 b2⟩
    by_cases h81 : 80 < s.length
    · have t1 : decide (80 < (l.length : Int)) = false := by simp; omega
      have t2 : decide (80 < (s.length : Int)) = true := by simp; omega
      go_wp2
      go_ret
      exact ⟨rfl, New.trans b0 b2⟩
    have t1 : decide (80 < (l.length : Int)) = false := by simp; omega
    have t2' : decide (80 < (s.length : Int)) = false := by simp; omega
    have hnl2 : l.length ≤ 100000 := by omega
    have hns2 : s.length ≤ 100000 := by omega
    have PJ := Lib.hid (fun (W : World) (hW : New W0 W) (A : Option Addr) (n c : Nat) (l : List Int) (f t : Int) (hl : Reads W W.heap.size 1 A n (ints .i64 l)) (hc : n ≤ c) (hn : n ≤ 100000) hb => Calls.mono (project_any (r := r) (cd := cd) (fr := f) (to_ := t) (T.out W hW).cols (T.out W hW).fine (T.out W hW).cap (T.out W hW).few (T.out W hW).data (T.out W hW).few2 (T.out W hW).within hl hc hn hb) (fun e w' hh => hh.u))
    have P := PJ.out w2 b2 _ _ _ _ fr to_ (rl.out w2 b2) hcl hnl2 hb
    have HE := Lib.hid (projEr_ok (L := L) (r := r) (D := D) (l := l) (fr := fr) (to_ := to_))
    generalize projEr L r D l fr to_ = er at *
    obtain ⟨x0, x1, x2⟩ := F.out w2 b2
    have P := Lib.hid P
    go_wp2_with fail
    refine P.out.mono ?_
    rintro e w3 hp
    clear P x0 x1 x2
    by_cases he : er = 0
    · subst he
      obtain ⟨k1, k2, k3, k4, k5⟩ := HE.out.1 rfl
      obtain ⟨Ax, Bx, cx, kx, Dx, rfl, ox, mx, b3⟩ := hp.own
      have sh := tab_shape k1
      have hw : IntKind.i64.wrap (to_ - fr) = to_ - fr := by rw [IntKind.wrap_i64]; omega
      have nX : (projL 0 L l).length = l.length := by simp [projL]
      have CK := tab_proj k1 k2 k3 k4 k5 (show Dx.map (·.2.2) = _ from mx)
      have ndx : Dx.length ≤ 100000 := by have := congrArg List.length mx; simp [projC] at this; omega
      have TX := ox.tabIn (by omega) ndx fL.out (fD.out Dx mx)
      have eL : projL 0 L l = l.map (fun c => L.getD c.toNat ([], 0, false)) := rfl
      have er' : projR 0 fr to_ = to_ - fr := rfl
      rw [er']
      rw [← eL] at CK
      have PX := fun (W : World) (hW : New w3 W) (hs : Reads W W.heap.size 1 As s.length (ints .i64 s)) => Calls.mono (project_any (r := to_ - fr) (cd := kx) (fr := f2) (to_ := t2) (TX.later hW).cols (TX.later hW).fine (TX.later hW).cap (TX.later hW).few (TX.later hW).data (TX.later hW).few2 (TX.later hW).within hs hcs hns2 hb2) (fun e w' hh => hh.u)
      have CX := Lib.hid (fun (W : World) (hW : New w3 W) => check_any (r := to_ - fr) (cd := kx) (TX.later hW).cols (TX.later hW).fine (TX.later hW).cap (TX.later hW).few (TX.later hW).data (TX.later hW).few2 (TX.later hW).within)
      rw [CK] at CX
      have E7 := Lib.hid (projEr_7 (l := s) (fr := f2) (to_ := t2) CK)
      have EO := Lib.hid (projEr_ok (L := projL 0 L l) (r := to_ - fr) (D := Dx) (l := s) (fr := f2) (to_ := t2))
      rw [nX] at EO
      have KK := Lib.hid (And.intro k1 (And.intro k2 (And.intro k3 (And.intro k4 (And.intro k5 sh)))))
      have MX := Lib.hid mx
      generalize projEr (projL 0 L l) (to_ - fr) Dx s f2 t2 = er2 at *
      have PX := Lib.hid PX
      have NX := Lib.hid nX
      rw [nX] at *
      clear HE eL er' CK TX k1 k2 k3 k4 k5 sh mx hp nX ox fL fD
      have b03 := New.trans b2 b3
      obtain ⟨w4, hw4⟩ : ∃ W, W = w3.alloc (.cells #[.slice Ax l.length cx, .int .i64 (to_ - fr), .slice Bx Dx.length kx] 35) := ⟨_, rfl⟩
      have b34 : New w3 w4 := by rw [hw4]; exact (Below.refl _ _).alloc (Nat.le_refl _) _
      have X4 : Blk w4 w3.heap.size 35 #[.slice Ax l.length cx, .int .i64 (to_ - fr), .slice Bx Dx.length kx] := by rw [hw4]; exact Blk.new _ _ _
      have b4 := New.trans b03 b34
      obtain ⟨x0, x1, x2⟩ := ccells X4
      rw [hw4] at x0 x1 x2
      have HW4 := Lib.hid hw4
      clear hw4 b3 b03
      go_wp2_with fail
      rw [← HW4.out]
      refine (CX.out w4 b34).mono ?_
      rintro e w5 ⟨rfl, b45⟩
      clear x0 x1 x2 HW4 CX
      have b35 := New.trans b34 b45
      have b5 := New.trans b4 b45
      obtain ⟨x0, x1, x2⟩ := ccells (X4.below b45 X4.lt)
      go_wp2_with fail
      refine (PX.out w5 b35 (rs.out w5 b5)).mono ?_
      rintro e w6 hp
      clear x0 x1 x2 PX X4 b34 b45 b35
      rcases E7.out with he2 | he2
      · subst he2
        obtain ⟨_, g2, g3, g4, g5⟩ := EO.out.1 rfl
        obtain ⟨k1, k2, k3, k4, k5, k6, k7, k8, k9, _⟩ := KK.out
        obtain ⟨Ay, By, cy, ky, Dy, rfl, oy, my, b56⟩ := hp.own
        have eL : projL 0 (projL 0 L l) s = projL 0 L (bothL l s) := both_cols g2
        have eC : projC 0 Dx s f2 t2 = projC 0 D (bothL l s) (fr + f2) (fr + t2) := both_cut (show Dx.map (·.2.2) = _ from MX.out) g2 k3 g3 g4 g5
        have eR : projR 0 f2 t2 = t2 - f2 := rfl
        rw [eL] at oy
        rw [eC] at my
        rw [eL, eR]
        have E3 := (projEr_ok (L := L) (r := r) (D := D) (l := bothL l s) (fr := fr + f2) (to_ := fr + t2)).2 ⟨k1, both_places k2 g2, by omega, by omega, by omega⟩
        have P3 := fun (W : World) (hW : New W0 W) (A : Option Addr) (c : Nat) (hl : Reads W W.heap.size 1 A s.length (ints .i64 (bothL l s))) (hc : s.length ≤ c) => PJ.out W hW A s.length c (bothL l s) (fr + f2) (fr + t2) hl hc hns2 (by omega)
        rw [E3] at P3
        have nL : (projL 0 L (bothL l s)).length = s.length := by simp [projL, bothL]
        have nD : ∀ D' : List ColD, D'.map (·.2.2) = projC 0 D (bothL l s) (fr + f2) (fr + t2) → D'.length ≤ 100000 := by
          intro D' hh
          have := congrArg List.length hh
          simp [projC, bothL] at this
          omega
        have TI := Lib.hid (fun (W : World) (B : Nat) (A : Option Addr) (c : Nat) (A2 : Option Addr) (c2 : Nat) (D' : List ColD) (o : TabOwn W B A c (projL 0 L (bothL l s)) A2 c2 D') (hm : D'.map (·.2.2) = projC 0 D (bothL l s) (fr + f2) (fr + t2)) => o.tabIn (by omega) (nD D' hm) fL2.out (fD2.out D' hm))
        have hw1 : IntKind.i64.wrap (fr + f2) = fr + f2 := by rw [IntKind.wrap_i64]; omega
        have hw2 : IntKind.i64.wrap (fr + t2) = fr + t2 := by rw [IntKind.wrap_i64]; omega
        have eR3 : projR 0 (fr + f2) (fr + t2) = t2 - f2 := by show fr + t2 - (fr + f2) = t2 - f2; omega
        have HB := Lib.hid (fun (k : Nat) (hk : k < s.length) => show 0 ≤ s.getD k 0 ∧ s.getD k 0 < (l.length : Int) from places_mem g2 (mem_getDT 0 hk))
        have NL := Lib.hid nL
        rw [eR3] at P3
        generalize projL 0 L (bothL l s) = LY at *
        generalize projC 0 D (bothL l s) (fr + f2) (fr + t2) = CY at *
        have P3 := Lib.hid P3
        have MY := Lib.hid my
        have NY := Lib.hid (nD Dy my)
        clear hp g2 g3 g4 g5 k1 k2 k3 k4 k5 k6 k7 k8 k9 E3 eL eC eR eR3 nL nD my PJ E7 EO KK MX hw fL2 fD2
        obtain ⟨w7, hw7⟩ : ∃ W, W = w6.alloc (.cells #[.slice Ay LY.length cy, .int .i64 (t2 - f2), .slice By Dy.length ky] 35) := ⟨_, rfl⟩
        have b67 : New w6 w7 := by rw [hw7]; exact (Below.refl _ _).alloc (Nat.le_refl _) _
        have Y7 : Blk w7 w6.heap.size 35 #[.slice Ay LY.length cy, .int .i64 (t2 - f2), .slice By Dy.length ky] := by rw [hw7]; exact Blk.new _ _ _
        have b7 := New.trans b5 (New.trans b56 b67)
        have HW7 := Lib.hid hw7
        have oy7 := oy.later b67
        clear hw7 oy
        go_wp2_with fail
        rw [← HW7.out]
        go_loopw [21, 22] (fun b i wr => ∃ (k : Nat) (A : Option Addr) (c : Nat), i = .int .i64 (k : Int) ∧ k ≤ s.length ∧ b = .slice A k c ∧ Own wr w7.heap.size 3 (.slice A k c) (ints .i64 ((bothL l s).take k)) ∧ New w7 wr) (fun _ i _ => s.length - (intOf i).toNat)
        case atStart => exact ⟨0, none, 0, rfl, by omega, rfl, by simpa [ints] using (Own.nil_ (w := w7)), New.refl _⟩
        case round =>
          obtain ⟨k, A, c, rfl, hk, rfl, o, hb7⟩ := hrel
          have b0r := New.trans b7 hb7
          by_cases hlt : k < s.length
          · obtain ⟨ads, es, _, q0⟩ := (rs.out wr b0r).int hlt
            obtain ⟨h1, h2⟩ := HB.out k hlt
            obtain ⟨j, hj⟩ := Int.eq_ofNat_of_zero_le h1
            have hjl : j < l.length := by omega
            obtain ⟨adl, el, _, q1⟩ := (rl.out wr b0r).int hjl
            subst es el
            rw [hj] at q0
            have hx : (bothL l s).getD k 0 = l.getD j 0 := by rw [both_at hlt, hj, Int.toNat_natCast]
            have HS := Lib.hid (ints_snoc (bothL l s) k (by rw [bothL, List.length_map]; exact hlt))
            rw [hx] at HS
            have hxl : (ints .i64 ((bothL l s).take k)).length = k := by rw [ints_length, List.length_take, bothL, List.length_map]; omega
            have HX := Lib.hid hxl
            clear h1 h2 hj hx hxl
            generalize l.getD j 0 = x at *
            have i1 : (k : Int) < (s.length : Int) := by omega
            have i2 : (j : Int) < (l.length : Int) := by omega
            have hz := hb7.size
            go_wp2_with (refine wpList_push elI rfl (.tmp 117) (.tmp 125) rfl (W := w7) (B := w7.heap.size) o rfl rfl hb7 (Nat.le_refl _) hz rfl (by rw [HX.out]; omega) (by rw [HX.out]; simp only [maxLen]; omega) ?_
                         rw [HX.out]
                         intro A9 c9 w9 _ _ o9 _ b9 _ _)
            go_roundw
            case rel => exact ⟨k + 1, _, _, by go_num, by omega, rfl, by rw [HS.out]; exact o9, b9⟩
            case measure => simp [intOf]; omega
          · obtain rfl : k = s.length := by omega
            have hfull : (bothL l s).take s.length = bothL l s := by rw [List.take_of_length_le (by rw [bothL, List.length_map]; omega)]
            rw [hfull] at o
            have Pz := Lib.hid (P3.out wr b0r A c o.reads (o.cap).1)
            obtain ⟨x0, x1, x2⟩ := F.out wr b0r
            clear hfull o hlt
            go_wp2_with fail
            refine Pz.out.mono ?_
            rintro e w8 hp
            obtain ⟨Az, Bz, cz, kz, Dz, rfl, oz, mz, b8⟩ := hp.own
            have MZ := Lib.hid mz
            clear hp x0 x1 x2 mz Pz
            obtain ⟨w9, hw9⟩ : ∃ W, W = w8.alloc (.cells #[.slice Az LY.length cz, .int .i64 (t2 - f2), .slice Bz Dz.length kz] 35) := ⟨_, rfl⟩
            have b89 : New w8 w9 := by rw [hw9]; exact (Below.refl _ _).alloc (Nat.le_refl _) _
            have Z9 : Blk w9 w8.heap.size 35 #[.slice Az LY.length cz, .int .i64 (t2 - f2), .slice Bz Dz.length kz] := by rw [hw9]; exact Blk.new _ _ _
            have b79 := New.trans hb7 (New.trans b8 b89)
            have Y9 := Y7.below b79 Y7.lt
            have P := Lib.hid (same_any (r := t2 - f2) (k1 := ky) (k2 := kz) (TI.out _ _ _ _ _ _ _ (oy7.later b79) MY.out) (TI.out _ _ _ _ _ _ _ (oz.later b89) MZ.out) (MY.out.trans MZ.out.symm))
            obtain ⟨x0, x1, x2⟩ := ccells Z9
            obtain ⟨y0, y1, y2⟩ := ccells Y9
            rw [hw9] at x0 x1 x2 y0 y1 y2
            have HW9 := Lib.hid hw9
            have bend := New.trans b0 (New.trans b7 b79)
            clear hw9 Z9 Y9 oz TI oy7
            go_wp2_with fail
            rw [← HW9.out]
            refine P.out.mono ?_
            rintro e w10 ⟨rfl, b10⟩
            clear x0 x1 x2 y0 y1 y2
            go_wp2
            go_ret
            exact ⟨by simp, New.trans bend b10⟩
      · subst he2
        obtain ⟨Ay, By, cy, ky, Dy, rfl, oy, my, b56⟩ := hp.own
        have bend := New.trans b0 (New.trans b5 b56)
        clear hp oy my EO KK MX PJ
        go_wp2
        go_ret
        exact ⟨by simp, New.trans bend ((Below.refl _ _).alloc (Nat.le_refl _) _)⟩
    · have e1 : (er != 0) = true := by simpa using he
      rw [projL, projR, projC, if_neg he, if_neg he, if_neg he] at hp
      obtain ⟨Ax, Bx, cx, kx, Dx, rfl, ox, mx, b3⟩ := hp.own
      have bend := New.trans b0 (New.trans b2 b3)
      obtain ⟨w4, hw4⟩ : ∃ W, W = w3.alloc (.cells #[.slice Ax 0 cx, .int .i64 0, .slice Bx Dx.length kx] 35) := ⟨_, rfl⟩
      have X4 : Blk w4 w3.heap.size 35 #[.slice Ax 0 cx, .int .i64 0, .slice Bx Dx.length kx] := by rw [hw4]; exact Blk.new _ _ _
      obtain ⟨x0, x1, x2⟩ := ccells X4
      rw [hw4] at x0 x1 x2
      clear hp ox mx HE PJ hw4 X4
      go_wp2
      go_ret
      exact ⟨by simp, New.trans bend ((Below.refl _ _).alloc (Nat.le_refl _) _)⟩

set_option maxRecDepth 100000 in
open Go.WideShapes Go.ChangeShapes in
theorem cellTwice_contract {H : Type} {enc : TypeId × Value → H} (W : World) (base : Nat) (args : Array Value) (ds : List (DataW H)) (ps : List MemPlace)
    (hval : ∀ (j : Nat) t v, Try.f6.params[j]? = some t → args[j]? = some v → Value.okWide Try.prog W .any base t v)
    (hA : DataW.TrodAll enc Try.prog W 0 (fun _ => true) true Try.f6.params.toList args.toList ds ps) (hlt : ∀ p ∈ ps, p.block < W.heap.size)
    (hsz : (DataW.weightsEach Try.prog Try.f6.params.toList ds).all (· ≤ reachBytes) = true) :
    Calls Try.prog 6 args W fun e W' => e = .returned (.bool true) ∧ Below W.heap.size W W' := by
  rw [Try.params6] at hA hval hsz
  obtain ⟨v0, v1, v2, v3, v4, v5, v6, d0, d1, d2, d3, d4, d5, d6, p0, p1, p2, p3, p4, p5, p6, rfl, rfl, rfl, h0, h1, h2, h3, h4, h5, h6⟩ := trodAll_seven hA
  -- t: v0 d0 p0 h0, hval 0
  obtain ⟨A_l, c_l, l, rfl, hc_l, hm_l, hr_l, hl_l⟩ := open_I (hval 1 _ _ rfl rfl) h1 (fun p hp => hlt p (by simp [hp])) (sized_at hsz (j := 1) rfl rfl)
  obtain ⟨f, rfl, wf, wf'⟩ := open_i64 (hval 2 _ _ rfl rfl) h2
  obtain ⟨g, rfl, wg, wg'⟩ := open_i64 (hval 3 _ _ rfl rfl) h3
  obtain ⟨A_s, c_s, s, rfl, hc_s, hm_s, hr_s, hl_s⟩ := open_I (hval 4 _ _ rfl rfl) h4 (fun p hp => hlt p (by simp [hp])) (sized_at hsz (j := 4) rfl rfl)
  obtain ⟨p, rfl, wp, wp'⟩ := open_i64 (hval 5 _ _ rfl rfl) h5
  obtain ⟨q, rfl, wq, wq'⟩ := open_i64 (hval 6 _ _ rfl rfl) h6
  obtain ⟨Ac, cc, L, r, Ad, cd, D, rfl, hT, _, _⟩ := open_Tb (hval 0 _ _ rfl rfl) h0 (fun p hp => hlt p (by simp [hp])) (sized_at hsz (j := 0) rfl rfl)
  exact cellTwice_walk hT hr_l hc_l (by omega) (by omega) hr_s hc_s (by omega) (by omega)

end Go.Proofs.Ytcnaameebbcmhaa
