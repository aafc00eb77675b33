/- CellProjects returns true whatever comes in, and leaves all that was there as it was. -/
import Derived.Test.YtcnaameebbcmhaaSmall07
import Derived.Test.YtcnaameebbcmhaaFew07
import Derived.Test.YtcnaameebbcmhaaTab

namespace Go.Hm
open Go Go.RowKit
theorem row_set5x {w : World} {base : Nat} {e : TypeId} {g n c : Nat} {xs : List Value} (h : w.ownsRow base e 5 (.slice (some ⟨g, 0, none⟩) n c) n xs) (m : Nat) (u0 u1 u2 u3 u4 : Value) :
    ∃ W, W = ((((w.setCell ⟨g, m, none⟩ u0).setCell ⟨g, m + 1, none⟩ u1).setCell ⟨g, m + 2, none⟩ u2).setCell ⟨g, m + 3, none⟩ u3).setCell ⟨g, m + 4, none⟩ u4 ∧ w.grownBy W (some g) ∧
      ∀ {n' c' : Nat} {base' : Nat} {ys : List Value}, w.ownsRow base' e 5 (.slice (some ⟨g, 0, none⟩) n' c') n' ys → ∃ ys', W.ownsRow base' e 5 (.slice (some ⟨g, 0, none⟩) n' c') n' ys' := by
  obtain ⟨h0, g0⟩ := h.stored m u0
  obtain ⟨h1, g1⟩ := h0.stored (m + 1) u1
  obtain ⟨h2, g2⟩ := h1.stored (m + 2) u2
  obtain ⟨h3, g3⟩ := h2.stored (m + 3) u3
  obtain ⟨h4, g4⟩ := h3.stored (m + 4) u4
  refine ⟨_, rfl, (((g0.trans g1).trans g2).trans g3).trans g4, fun k => ?_⟩
  obtain ⟨k0, _⟩ := k.stored m u0
  obtain ⟨k1, _⟩ := k0.stored (m + 1) u1
  obtain ⟨k2, _⟩ := k1.stored (m + 2) u2
  obtain ⟨k3, _⟩ := k2.stored (m + 3) u3
  obtain ⟨k4, _⟩ := k3.stored (m + 4) u4
  exact ⟨_, k4⟩

end Go.Hm

namespace Go.Proofs.Ytcnaameebbcmhaa
open Go.RowKit Go.Hm
/-- Rows of cells of the call's own, whatever is in them. -/
def RowsAny (w : World) (B : Nat) (D : List ColD) : Prop := ∀ d ∈ D, ∃ xs, w.ownsRow B 25 5 (.slice d.1 d.2.2.length d.2.1) d.2.2.length xs
theorem RowsAny.of {w : World} {B : Nat} {D : List ColD} (h : RowsIn w B D) : RowsAny w B D := fun d hd => ⟨_, h d hd⟩
theorem RowsAny.later {w w' : World} {B : Nat} {D : List ColD} (h : RowsAny w B D) (hb : New w w') : RowsAny w' B D := fun d hd => by
  obtain ⟨xs, h⟩ := h d hd
  exact ⟨xs, row_later h hb⟩
theorem RowsAny.set {w W : World} {B g : Nat} {D : List ColD} (h : RowsAny w B D) (hg : w.grownBy W (some g))
    (hs : ∀ {n' c' : Nat} {base' : Nat} {ys : List Value}, w.ownsRow base' 25 5 (.slice (some ⟨g, 0, none⟩) n' c') n' ys → ∃ ys', W.ownsRow base' 25 5 (.slice (some ⟨g, 0, none⟩) n' c') n' ys') : RowsAny W B D := by
  intro d hd
  obtain ⟨xs, hr⟩ := h d hd
  by_cases e : Value.ownBlock (.slice d.1 d.2.2.length d.2.1) = some g
  · rcases hr.2 with ⟨hv, _⟩ | ⟨g', cap, cur, hv, _⟩
    · rw [hv] at e; simp [Value.ownBlock] at e
    · rw [hv] at e hr ⊢
      have : g' = g := by simpa [Value.ownBlock] using e
      subst this
      exact hs hr
  · exact ⟨xs, World.ownsRow.kept hr hg (.inr e)⟩
/-- What holds while the first table's cells are turned. -/
structure TurnInv (W0 wr : World) (gx gy B BY : Nat) (r : Int) (Ax : Option Addr) (cx : Nat) (L : List ColS) (Bx : Option Addr) (kx : Nat) (Dx : List ColD) (Ay : Option Addr) (cy : Nat) (By : Option Addr) (ky : Nat) (Dy : List ColD) : Prop where
  new : New W0 wr
  bx : Blk wr gx 35 #[.slice Ax L.length cx, .int .i64 r, .slice Bx Dx.length kx]
  bY : Blk wr gy 35 #[.slice Ay L.length cy, .int .i64 r, .slice By Dy.length ky]
  data : wr.ownsRow B 44 1 (.slice Bx Dx.length kx) Dx.length (recs dataV Dx)
  rows : RowsAny wr B Dx
  low : ∀ d ∈ Dx, ∀ g, Value.ownBlock (.slice d.1 d.2.2.length d.2.1) = some g → g < BY
  other : TabOwn wr BY Ay cy L By ky Dy
theorem TurnInv.set {W0 wr W : World} {gx gy B BY : Nat} {r : Int} {Ax : Option Addr} {cx : Nat} {L : List ColS} {Bx : Option Addr} {kx : Nat} {Dx : List ColD} {Ay : Option Addr} {cy : Nat} {By : Option Addr} {ky : Nat} {Dy : List ColD} {g n c : Nat} {xs : List Value}
    (h : TurnInv W0 wr gx gy B BY r Ax cx L Bx kx Dx Ay cy By ky Dy) (hr : wr.ownsRow B 25 5 (.slice (some ⟨g, 0, none⟩) n c) n xs) (hB : W0.heap.size ≤ B) (hg : wr.grownBy W (some g)) (hlow : g < BY)
    (hs : ∀ {n' c' : Nat} {base' : Nat} {ys : List Value}, wr.ownsRow base' 25 5 (.slice (some ⟨g, 0, none⟩) n' c') n' ys → ∃ ys', W.ownsRow base' 25 5 (.slice (some ⟨g, 0, none⟩) n' c') n' ys') :
    TurnInv W0 W gx gy B BY r Ax cx L Bx kx Dx Ay cy By ky Dy := by
  obtain ⟨cs, G⟩ := row_blk hr
  have hgB : B ≤ g := (World.ownsRow.lt hr _ rfl).1
  have nx := Blk.ne_ h.bx G (by decide)
  have ny := Blk.ne_ h.bY G (by decide)
  exact ⟨h.new.grown hg h.new.size (fun k hk => by injection hk with hk; omega), h.bx.grown hg (by simpa using nx), h.bY.grown hg (by simpa using ny), World.ownsRow.kept h.data hg (.inr (row_blk_ne h.data G (by decide))), h.rows.set hg hs, h.low, h.other.far hg hlow⟩
set_option maxHeartbeats 4000000 in
set_option maxRecDepth 100000 in
theorem cellProjects_walk {w : World} {Ac : Option Addr} {cc : Nat} {L : List ColS} {r : Int} {Ad : Option Addr} {cd : Nat} {D : List ColD} {Al : Option Addr} {nl cl : Nat} {l : List Int} {fr to_ : Int}
    (h : TabIn w Ac cc L Ad D) (hl : Reads w w.heap.size 1 Al nl (ints .i64 l)) (hcl : nl ≤ cl) (hnl : nl ≤ 4611686018427387903) (hb : fr ≤ 9223372036854775807 ∧ -9223372036854775808 ≤ fr ∧ to_ ≤ 9223372036854775807 ∧ -9223372036854775808 ≤ to_) :
    Calls Try.prog 5 #[.agg #[.slice Ac L.length cc, .int .i64 r, .slice Ad D.length cd], .slice Al nl cl, .int .i64 fr, .int .i64 to_] w (SmallPost w) := by
  obtain ⟨W0, hW0⟩ : ∃ W, W = w.alloc (.cells #[.slice Ac L.length cc, .int .i64 r, .slice Ad D.length cd] 35) := ⟨_, rfl⟩
  have b0 : New w W0 := by rw [hW0]; exact (Below.refl _ _).alloc (Nat.le_refl _) _
  have B0 : Blk W0 w.heap.size 35 #[.slice Ac L.length cc, .int .i64 r, .slice Ad D.length cd] := by rw [hW0]; exact Blk.new _ _ _
  have T := Lib.hid (fun (W : World) (hW : New W0 W) => h.later (New.trans b0 hW))
  have rl := Lib.hid (fun (W : World) (hW : New W0 W) => Reads.later hl (New.trans b0 hW))
  have F := Lib.hid (fun (W : World) (hW : New W0 W) => ccells (B0.below hW B0.lt))
  have SM := Lib.hid (small07_any W0)
  have HW := Lib.hid hW0
  have fL := Lib.hid (fun er => projL_fine (er := er) (L := L) (l := l) h.fine)
  have fD := Lib.hid (fun er (D' : List ColD) (hh : D'.map (·.2.2) = projC er D l fr to_) => projC_fine (fun d hd y hy => (h.within d hd).2.1 y hy) hh)
  have hlen := hl.lenI
  have HLN := Lib.hid hlen
  clear h B0 hW0 hl hlen
  go_enter Try.func5, Try.ntmps5
  go_wp2_with fail
  rw [← HW.out]
  refine SM.out.mono ?_
  rintro e w1 ⟨rfl, b1⟩
  have P := Lib.hid (few07_any (r := r) (cd := cd) (T.out w1 b1))
  obtain ⟨x0, x1, x2⟩ := F.out w1 b1
  go_wp2_with fail
  refine P.out.mono ?_
  rintro e w2 ⟨bb, rfl, b2⟩
  have b2 := New.trans b1 b2
  clear x0 x1 x2 P SM HW b1
  cases bb with
  | false =>
    go_wp2
    go_ret
    exact ⟨rfl, New.trans b0 b2⟩
  | true =>
    by_cases h80 : 80 < nl
    · have t1 : decide (80 < (nl : Int)) = true := by simp; omega
      go_wp2
      go_ret
      exact ⟨rfl, New.trans b0 b2⟩
    · have t1 : decide (80 < (nl : Int)) = false := by simp; omega
      have hnl2 : nl ≤ 100000 := by omega
      have PJ := fun (W : World) (hW : New W0 W) => Calls.mono (project_any (r := r) (cd := cd) (fr := fr) (to_ := to_) (T.out W hW).cols (T.out W hW).fine (T.out W hW).cap (T.out W hW).few (T.out W hW).data (T.out W hW).few2 (T.out W hW).within (rl.out W hW) hcl hnl2 hb) (fun e w' hh => hh.u)
      have RJ := fun (W : World) (hW : New W0 W) => Calls.mono (rproject_any (r := r) (cd := cd) (cl := cl) (fr := fr) (to_ := to_) (T.out W hW) (rl.out W hW) hnl2) (fun e w' hh => hh.u)
      generalize projEr L r D l fr to_ = er at *
      have nL : (projL er L l).length ≤ 100000 := by
        unfold projL
        split
        · rw [List.length_map, ← HLN.out]; exact hnl2
        · simp
      have nD : ∀ (D' : List ColD), D'.map (·.2.2) = projC er D l fr to_ → D'.length ≤ 100000 := by
        intro D' hh
        have := congrArg List.length hh
        rw [List.length_map] at this
        rw [this]
        unfold projC
        split
        · rw [List.length_map, ← HLN.out]; exact hnl2
        · simp
      have fL := fL.out er
      have fD := fD.out er
      generalize projL er L l = LX at *
      generalize projR er fr to_ = rX at *
      generalize projC er D l fr to_ = CX at *
      have TI := Lib.hid (fun (W : World) (B : Nat) (A : Option Addr) (c : Nat) (A2 : Option Addr) (c2 : Nat) (D' : List ColD) (o : TabOwn W B A c LX A2 c2 D') (hm : D'.map (·.2.2) = CX) => o.tabIn nL (nD D' hm) fL (fD D' hm))
      have PJ := Lib.hid PJ
      have RJ := Lib.hid RJ
      clear nL fL fD HLN rl
      obtain ⟨x0, x1, x2⟩ := F.out w2 b2
      go_wp2_with fail
      refine (PJ.out w2 b2).mono ?_
      rintro e w3 hp
      obtain ⟨Ax, Bx, cx, kx, Dx, rfl, ox, mx, b3⟩ := hp.own
      clear hp x0 x1 x2 t1
      have MX := Lib.hid mx
      have ND := nD Dx mx
      clear mx
      obtain ⟨w4, hw4⟩ : ∃ W, W = w3.alloc (.cells #[.slice Ax LX.length cx, .int .i64 rX, .slice Bx Dx.length kx] 35) := ⟨_, rfl⟩
      have b34 : New w3 w4 := by rw [hw4]; exact (Below.refl _ _).alloc (Nat.le_refl _) _
      have X4 : Blk w4 w3.heap.size 35 #[.slice Ax LX.length cx, .int .i64 rX, .slice Bx Dx.length kx] := by rw [hw4]; exact Blk.new _ _ _
      have b4 := New.trans (New.trans b2 b3) b34
      have ox4 := ox.later b34
      obtain ⟨x0, x1, x2⟩ := F.out w4 b4
      rw [hw4] at x0 x1 x2
      have HW4 := Lib.hid hw4
      clear hw4 ox
      go_wp2_with fail
      rw [← HW4.out]
      refine (RJ.out w4 b4).mono ?_
      rintro e w5 hp
      obtain ⟨Ay, By, cy, ky, Dy, rfl, oy, my, b5⟩ := hp.own
      clear hp x0 x1 x2 HW4 RJ
      have ND2 := nD Dy my
      have MY := Lib.hid my
      clear my
      obtain ⟨w6, hw6⟩ : ∃ W, W = w5.alloc (.cells #[.slice Ay LX.length cy, .int .i64 rX, .slice By Dy.length ky] 35) := ⟨_, rfl⟩
      have b56 : New w5 w6 := by rw [hw6]; exact (Below.refl _ _).alloc (Nat.le_refl _) _
      have Y6 : Blk w6 w5.heap.size 35 #[.slice Ay LX.length cy, .int .i64 rX, .slice By Dy.length ky] := by rw [hw6]; exact Blk.new _ _ _
      have b46 := New.trans b5 b56
      have b6 := New.trans b4 b46
      have X6 := X4.below b46 X4.lt
      have ox6 := ox4.later b46
      have oy6 := oy.later b56
      have low := Lib.hid (fun (d : ColD) (hd : d ∈ Dx) (g : Nat) (e : Value.ownBlock (.slice d.1 d.2.2.length d.2.1) = some g) => (World.ownsRow.lt (ox4.rows d hd) _ e).2)
      have P := Lib.hid (same_any (r := rX) (k1 := kx) (k2 := ky) (TI.out _ _ _ _ _ _ _ ox6 MX.out) (TI.out _ _ _ _ _ _ _ oy6 MY.out) (MX.out.trans MY.out.symm))
      obtain ⟨x0, x1, x2⟩ := ccells X6
      obtain ⟨y0, y1, y2⟩ := ccells Y6
      rw [hw6] at x0 x1 x2 y0 y1 y2
      have HW6 := Lib.hid hw6
      have hzB : W0.heap.size ≤ w2.heap.size := b2.size
      clear hw6 X4 ox4 oy
      go_wp2_with fail
      rw [← HW6.out]
      refine P.out.mono ?_
      rintro e w7 ⟨rfl, b7⟩
      clear x0 x1 x2 y0 y1 y2 P HW6
      have I7 : TurnInv W0 w7 w3.heap.size w5.heap.size w2.heap.size w4.heap.size rX Ax cx LX Bx kx Dx Ay cy By ky Dy := ⟨New.trans b6 b7, X6.below b7 X6.lt, Y6.below b7 Y6.lt, (ox6.later b7).data, RowsAny.of (ox6.later b7).rows, low.out, oy6.later b7⟩
      clear X6 Y6 ox6 oy6 low b3 b34 b4 b5 b56 b46 b6 b7
      go_wp2
      go_loopw [16, 17] (fun i j wr => ∃ k : Nat, i = .int .i64 (k : Int) ∧ k ≤ Dx.length ∧ TurnInv W0 wr w3.heap.size w5.heap.size w2.heap.size w4.heap.size rX Ax cx LX Bx kx Dx Ay cy By ky Dy) (fun i _ _ => Dx.length - (intOf i).toNat)
      case atStart => exact ⟨0, rfl, by omega, I7⟩
      case round =>
        clear I7
        obtain ⟨k, rfl, hk, I⟩ := hrel
        obtain ⟨x0, x1, x2⟩ := ccells I.bx
        by_cases hlt : k < Dx.length
        · obtain ⟨ad, ea, hbk, c0⟩ := (Reads.of_own I.data).colD hlt
          subst ea
          have hmem := mem_getDT (none, 0, []) hlt
          have HM := Lib.hid hmem
          have HK := Lib.hid (fun (wr : World) (I : TurnInv W0 wr w3.heap.size w5.heap.size w2.heap.size w4.heap.size rX Ax cx LX (some ad) kx Dx Ay cy By ky Dy) => show wr.cell? (ad.add k) = some (.slice (Dx.getD k (none, 0, [])).1 (Dx.getD k (none, 0, [])).2.2.length (Dx.getD k (none, 0, [])).2.1) by
            obtain ⟨ad', ea, _, c0⟩ := (Reads.of_own I.data).colD hlt
            obtain rfl := Option.some.inj ea
            exact c0)
          have hlen : (Dx.getD k (none, 0, [])).2.2.length ≤ 9223372036854775807 := by
            obtain ⟨xs, hr⟩ := I.rows _ hmem
            obtain ⟨_, _, e3, q5, q6⟩ := row_slice hr
            simp only [maxLen] at q6
            omega
          have i1 : (k : Int) < (Dx.length : Int) := by omega
          generalize (Dx.getD k (none, 0, [])) = d at *
          clear hmem
          go_wp2
          clear x0 x1 x2 c0
          go_loopw [17] (fun j wr => ∃ m : Nat, j = .int .i64 (m : Int) ∧ m ≤ d.2.2.length ∧ TurnInv W0 wr w3.heap.size w5.heap.size w2.heap.size w4.heap.size rX Ax cx LX (some ad) kx Dx Ay cy By ky Dy) (fun j _ => d.2.2.length - (intOf j).toNat)
          case atStart => exact ⟨0, rfl, by omega, I⟩
          case round =>
            clear I
            obtain ⟨m, rfl, hm, I⟩ := hrel
            obtain ⟨x0, x1, x2⟩ := ccells I.bx
            have c0 := HK.out wr I
            by_cases hlm : m < d.2.2.length
            · obtain ⟨xs, hr⟩ := I.rows _ HM.out
              obtain ⟨g, cap, hv, hbg, hgl⟩ := World.ownsRow.form hr (by omega)
              have hd1 : d.1 = some ⟨g, 0, none⟩ ∧ d.2.1 = cap := by injection hv with e1 _ e2; exact ⟨e1, e2⟩
              obtain ⟨hd1, hd2⟩ := hd1
              have hlow := I.low _ HM.out g (by rw [hd1]; rfl)
              rw [hd1] at hr c0
              have hxl := hr.1
              have f0 := hr.frozenAt (m * 5)
              have f1 := hr.frozenAt (m * 5 + 1)
              have f2 := hr.frozenAt (m * 5 + 2)
              have f3 := hr.frozenAt (m * 5 + 3)
              have f4 := hr.frozenAt (m * 5 + 4)
              obtain ⟨u0, e0⟩ : ∃ u, wr.cell? ⟨g, m * 5, none⟩ = some u := ⟨_, (hr.cellAt (m * 5) (by omega)).trans (List.getElem?_eq_getElem (by omega))⟩
              obtain ⟨u1, e1⟩ : ∃ u, wr.cell? ⟨g, m * 5 + 1, none⟩ = some u := ⟨_, (hr.cellAt (m * 5 + 1) (by omega)).trans (List.getElem?_eq_getElem (by omega))⟩
              obtain ⟨u2, e2⟩ : ∃ u, wr.cell? ⟨g, m * 5 + 2, none⟩ = some u := ⟨_, (hr.cellAt (m * 5 + 2) (by omega)).trans (List.getElem?_eq_getElem (by omega))⟩
              obtain ⟨u3, e3⟩ : ∃ u, wr.cell? ⟨g, m * 5 + 3, none⟩ = some u := ⟨_, (hr.cellAt (m * 5 + 3) (by omega)).trans (List.getElem?_eq_getElem (by omega))⟩
              obtain ⟨u4, e4⟩ : ∃ u, wr.cell? ⟨g, m * 5 + 4, none⟩ = some u := ⟨_, (hr.cellAt (m * 5 + 4) (by omega)).trans (List.getElem?_eq_getElem (by omega))⟩
              obtain ⟨W8, hW8, g8, s8⟩ := row_set5x hr (m * 5) (.bool false) (.int .i64 (-7)) (.string ⟨#[]⟩) (.int .i64 0) (.int .i64 0)
              have I8 := I.set hr hzB g8 hlow s8
              have HW8 := Lib.hid hW8
              have i2 : (m : Int) < (d.2.2.length : Int) := by omega
              clear hW8 g8 s8 hr I hv hd1 hd2 hlow hxl
              go_wp2
              rw [← HW8.out]
              clear HW8 f0 f1 f2 f3 f4 e0 e1 e2 e3 e4 x0 x1 x2 c0
              go_roundw
              case rel => exact ⟨m + 1, by go_num, by omega, I8⟩
              case measure => simp [intOf]; omega
            · obtain rfl : m = d.2.2.length := by omega
              go_wp2
              go_roundw
              case rel => exact ⟨k + 1, by go_num, by omega, I⟩
              case measure => simp [intOf]; omega
        · obtain rfl : k = Dx.length := by omega
          clear hlt
          have bW := I.new
          obtain ⟨v0, v1, v2⟩ := F.out wr bW
          go_wp2_with fail
          refine (PJ.out wr bW).mono ?_
          rintro e w8 hp
          obtain ⟨Az, Bz, cz, kz, Dz, rfl, oz, mz, b8⟩ := hp.own
          clear hp x0 x1 x2 v0 v1 v2
          have MZ := Lib.hid mz
          have ND3 := nD Dz mz
          clear mz
          obtain ⟨w9, hw9⟩ : ∃ W, W = w8.alloc (.cells #[.slice Az LX.length cz, .int .i64 rX, .slice Bz Dz.length kz] 35) := ⟨_, rfl⟩
          have b89 : New w8 w9 := by rw [hw9]; exact (Below.refl _ _).alloc (Nat.le_refl _) _
          have Z9 : Blk w9 w8.heap.size 35 #[.slice Az LX.length cz, .int .i64 rX, .slice Bz Dz.length kz] := by rw [hw9]; exact Blk.new _ _ _
          have bw9 := New.trans b8 b89
          have Y9 := I.bY.below bw9 I.bY.lt
          have P := Lib.hid (same_any (r := rX) (k1 := kz) (k2 := ky) (TI.out _ _ _ _ _ _ _ (oz.later b89) MZ.out) (TI.out _ _ _ _ _ _ _ (I.other.later bw9) MY.out) (MZ.out.trans MY.out.symm))
          obtain ⟨x0, x1, x2⟩ := ccells Z9
          obtain ⟨y0, y1, y2⟩ := ccells Y9
          rw [hw9] at x0 x1 x2 y0 y1 y2
          have HW9 := Lib.hid hw9
          have bend := New.trans b0 (New.trans bW bw9)
          clear hw9 I Z9 Y9 oz PJ TI
          go_wp2_with fail
          rw [← HW9.out]
          refine P.out.mono ?_
          rintro e w10 ⟨rfl, b10⟩
          clear x0 x1 x2 y0 y1 y2
          go_wp2
          go_ret
          exact ⟨by simp, New.trans bend b10⟩

set_option maxRecDepth 100000 in
open Go.WideShapes Go.ChangeShapes in
theorem cellProjects_contract {H : Type} {enc : TypeId × Value → H} (W : World) (base : Nat) (args : Array Value) (ds : List (DataW H)) (ps : List MemPlace)
    (hval : ∀ (j : Nat) t v, Try.f5.params[j]? = some t → args[j]? = some v → Value.okWide Try.prog W .any base t v)
    (hA : DataW.TrodAll enc Try.prog W 0 (fun _ => true) true Try.f5.params.toList args.toList ds ps) (hlt : ∀ p ∈ ps, p.block < W.heap.size)
    (hsz : (DataW.weightsEach Try.prog Try.f5.params.toList ds).all (· ≤ reachBytes) = true) :
    Calls Try.prog 5 args W fun e W' => e = .returned (.bool true) ∧ Below W.heap.size W W' := by
  rw [Try.params5] at hA hval hsz
  obtain ⟨v0, v1, v2, v3, d0, d1, d2, d3, p0, p1, p2, p3, rfl, rfl, rfl, h0, h1, h2, h3⟩ := trodAll_four hA
  -- t: v0 d0 p0 h0, hval 0
  obtain ⟨A_l, c_l, l, rfl, hc_l, hm_l, hr_l, hl_l⟩ := open_I (hval 1 _ _ rfl rfl) h1 (fun p hp => hlt p (by simp [hp])) (sized_at hsz (j := 1) rfl rfl)
  obtain ⟨f, rfl, wf, wf'⟩ := open_i64 (hval 2 _ _ rfl rfl) h2
  obtain ⟨g, rfl, wg, wg'⟩ := open_i64 (hval 3 _ _ rfl rfl) h3
  obtain ⟨Ac, cc, L, r, Ad, cd, D, rfl, hT, _, _⟩ := open_Tb (hval 0 _ _ rfl rfl) h0 (fun p hp => hlt p (by simp [hp])) (sized_at hsz (j := 0) rfl rfl)
  exact cellProjects_walk hT hr_l hc_l (by omega) (by omega)

end Go.Proofs.Ytcnaameebbcmhaa
