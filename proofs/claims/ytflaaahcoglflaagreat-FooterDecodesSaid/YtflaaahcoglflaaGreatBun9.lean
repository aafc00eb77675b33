/- Texts merged, for a claim has at most 60 files: FooX, LayO, LayR, SmallFo, PlnC, PlnD, PlnE, PlnL, PlnN, PlnO, PlnP, StaK, StaL, SchGr, FooAA. -/
import Derived.BigQuiet
import Derived.Deep.QuietTactic
import Derived.Lib.SlBytesConst
import Derived.Lib.SmallJoins
import Derived.Outline
import Derived.Shelf.Abstract
import Derived.Test.YtflaaahcoglflaaGreatBun1
import Derived.Test.YtflaaahcoglflaaGreatBun2
import Derived.Test.YtflaaahcoglflaaGreatBun4
import Derived.Test.YtflaaahcoglflaaGreatBun5
import Derived.Test.YtflaaahcoglflaaGreatBun6
import Derived.Test.YtflaaahcoglflaaGreatBun7
import Derived.Test.YtflaaahcoglflaaGreatBun8
/- The contract of the answer's Same (layer 19), of two equal footers. -/

namespace Go.Proofs.YtflaaahcoglflaaGreat
open Go.RowKit Go.Hm
set_option maxHeartbeats 1000000 in
set_option maxRecDepth 100000 in
theorem neqPage {sz rw nn p2 p4 p5 q2 q4 q5 : Int} {bb p1 q1 : Bool} {p3 q3 : List Nat} (W : World) :
    (binOp .neq 41 (.agg #[.int .i64 sz, .int .i64 rw, .int .i64 nn, .bool bb, .bool p1, .int .i64 p2, .string (bstr p3), .int .i64 p4, .int .i64 p5, .bool q1, .int .i64 q2, .string (bstr q3), .int .i64 q4, .int .i64 q5]) (.agg #[.int .i64 sz, .int .i64 rw, .int .i64 nn, .bool bb, .bool p1, .int .i64 p2, .string (bstr p3), .int .i64 p4, .int .i64 p5, .bool q1, .int .i64 q2, .string (bstr q3), .int .i64 q4, .int .i64 q5])).run Tryz.prog W = .ok (.bool false) W := by
  go_simp
theorem map_at {α β : Type} {f : α → β} {l m : List α} (d : α) (h : l.map f = m.map f) {k : Nat} (hk : k < l.length) : k < m.length ∧ f (l.getD k d) = f (m.getD k d) := by
  have hl : l.length = m.length := by have := congrArg List.length h; simpa using this
  have hk2 : k < m.length := by omega
  refine ⟨hk2, ?_⟩
  have := congrArg (fun l => l[k]?) h
  simp only [List.getElem?_map, List.getElem?_eq_getElem hk, List.getElem?_eq_getElem hk2, Option.map_some, Option.some.injEq] at this
  rw [List.getD_eq_getElem?_getD, List.getElem?_eq_getElem hk, List.getD_eq_getElem?_getD, List.getElem?_eq_getElem hk2]
  exact this
set_option maxHeartbeats 4000000 in
set_option maxRecDepth 100000 in
theorem fsame_any {w : World} {A1 : Option Addr} {c1 : Nat} {L : List ColS} {r : Int} {B1 : Option Addr} {k1 : Nat} {G1 : List GrD} {A2 : Option Addr} {c2 : Nat} {B2 : Option Addr} {k2 : Nat} {G2 : List GrD}
    (h1 : FootIn w A1 c1 L B1 G1) (h2 : FootIn w A2 c2 L B2 G2) (hD : G1.map grP = G2.map grP) :
    Calls Tryz.prog 7 #[footA A1 c1 L r B1 k1 G1, footA A2 c2 L r B2 k2 G2] w (NewPost (.bool true) w) := by
  have hl : G1.length = G2.length := by have := congrArg List.length hD; simpa using this
  have HAT := Lib.hid (fun (k : Nat) (hk : k < G1.length) => (map_at grZ hD hk).2)
  show Calls Tryz.prog 7 #[.agg #[.slice A1 L.length c1, .int .i64 r, .slice B1 G1.length k1], .agg #[.slice A2 L.length c2, .int .i64 r, .slice B2 G2.length k2]] w (NewPost (.bool true) w)
  have X1 := (Blk.new w 27 #[.slice A1 L.length c1, .int .i64 r, .slice B1 G1.length k1]).alloc (.cells #[.slice A2 L.length c2, .int .i64 r, .slice B2 G2.length k2] 27)
  have X2 := Blk.new (w.alloc (.cells #[.slice A1 L.length c1, .int .i64 r, .slice B1 G1.length k1] 27)) 27 #[.slice A2 L.length c2, .int .i64 r, .slice B2 G2.length k2]
  have b0 := new2 w (.cells #[.slice A1 L.length c1, .int .i64 r, .slice B1 G1.length k1] 27) (.cells #[.slice A2 L.length c2, .int .i64 r, .slice B2 G2.length k2] 27)
  simp only [World.size_alloc] at X2
  obtain ⟨x0, x1, x2⟩ := ccells X1
  obtain ⟨y0, y1, y2⟩ := ccells X2
  have HG1 := Lib.hid h1.groups
  have HG2 := Lib.hid h2.groups
  have HCH1 := Lib.hid h1.chunks
  have HCH2 := Lib.hid h2.chunks
  have HPG1 := Lib.hid h1.pages
  have HPG2 := Lib.hid h2.pages
  have s1 := h1.few
  have s2 := h1.few2
  have s3 := h2.few2
  have P1 := Lib.hid (schemaEq_any (c := c1) (c2 := c2) (Reads.later h1.cols b0) (Reads.later h2.cols b0) s1)
  have e1 : ((G1.length : Int) != (G2.length : Int)) = false := by simp; omega
  have HL := Lib.hid hl
  clear h1 h2 hD hl
  go_enter Tryz.func7, Tryz.ntmps7
  go_wp2_with fail
  refine P1.out.mono ?_
  rintro e w3 ⟨rfl, b3⟩
  have X1 := X1.below b3 X1.lt
  have X2 := X2.below b3 X2.lt
  have b03 := New.trans b0 b3
  clear x0 x1 x2 y0 y1 y2 e1 P1 b0 b3
  go_wp2_with fail
  go_loopw [5] (fun i wr => ∃ k : Nat, i = .int .i64 (k : Int) ∧ k ≤ G1.length ∧ Blk wr w.heap.size 27 #[.slice A1 L.length c1, .int .i64 r, .slice B1 G1.length k1] ∧ Blk wr (w.heap.size + 1) 27 #[.slice A2 L.length c2, .int .i64 r, .slice B2 G2.length k2] ∧ New w wr) (fun i _ => G1.length - (intOf i).toNat)
  case atStart => exact ⟨0, rfl, by omega, X1, X2, b03⟩
  case round =>
    obtain ⟨k, rfl, hk, X1q, X2q, b⟩ := hrel
    clear X1 X2 b03
    obtain ⟨x0, x1, x2⟩ := ccells X1q
    obtain ⟨y0, y1, y2⟩ := ccells X2q
    by_cases hlt : k < G1.length
    · have hlt2 : k < G2.length := by have := HL.out; omega
      obtain ⟨ad1, rfl, -⟩ := (Reads.later HG1.out b).gr2 hlt
      obtain ⟨ad2, rfl, -⟩ := (Reads.later HG2.out b).gr2 hlt2
      have FG1 := Lib.hid (fun (W : World) (hW : New w W) => show W.cell? (ad1.add (k * 2)) = some (.int .i64 (G1.getD k grZ).1) ∧ W.cell? ⟨(ad1.add (k * 2)).block, (ad1.add (k * 2)).off + 1, none⟩ = some (.slice (G1.getD k grZ).2.1 (G1.getD k grZ).2.2.2.length (G1.getD k grZ).2.2.1) from by
        obtain ⟨al', e, _, f⟩ := (Reads.later HG1.out hW).gr2 hlt
        injection e with e
        subst e
        exact f)
      have FG2 := Lib.hid (fun (W : World) (hW : New w W) => show W.cell? (ad2.add (k * 2)) = some (.int .i64 (G2.getD k grZ).1) ∧ W.cell? ⟨(ad2.add (k * 2)).block, (ad2.add (k * 2)).off + 1, none⟩ = some (.slice (G2.getD k grZ).2.1 (G2.getD k grZ).2.2.2.length (G2.getD k grZ).2.2.1) from by
        obtain ⟨al', e, _, f⟩ := (Reads.later HG2.out hW).gr2 hlt2
        injection e with e
        subst e
        exact f)
      have hat := HAT.out k hlt
      have hgm1 := mem_getDF grZ hlt
      have hgm2 := mem_getDF grZ hlt2
      have hch1 := HCH1.out _ hgm1
      have hch2 := HCH2.out _ hgm2
      have hpg1 := HPG1.out _ hgm1
      have hpg2 := HPG2.out _ hgm2
      clear hgm1 hgm2
      generalize G1.getD k grZ = g1 at *
      generalize G2.getD k grZ = g2 at *
      obtain ⟨gr, Ac1, cc1, D1⟩ := g1
      obtain ⟨gr2, Ac2, cc2, D2⟩ := g2
      unfold grP at hat
      dsimp only at FG1 FG2 hch1 hch2 hpg1 hpg2 hat
      injection hat with hgr hat
      subst hgr
      have hDl : D1.length = D2.length := by have := congrArg List.length hat; simpa using this
      have HATk := Lib.hid (fun (j : Nat) (hj : j < D1.length) => (map_at chZ hat hj).2)
      have HC1 := Lib.hid hch1.1
      have HC2 := Lib.hid hch2.1
      have hcl1 := hch1.2
      have hcl2 := hch2.2
      have HP1 := Lib.hid hpg1
      have HP2 := Lib.hid hpg2
      have t1 : ((D1.length : Int) != (D2.length : Int)) = false := by simp; omega
      have hDle : D1.length ≤ D2.length := by omega
      clear hat hch1 hch2 hpg1 hpg2 hDl
      have ha : New wr (wr.alloc (.cells #[.int .i64 gr, .slice Ac1 D1.length cc1] 45)) := (Below.refl _ _).alloc (Nat.le_refl _) _
      have ha2 : New (wr.alloc (.cells #[.int .i64 gr, .slice Ac1 D1.length cc1] 45)) ((wr.alloc (.cells #[.int .i64 gr, .slice Ac1 D1.length cc1] 45)).alloc (.cells #[.int .i64 gr, .slice Ac2 D2.length cc2] 45)) := (Below.refl _ _).alloc (Nat.le_refl _) _
      have Y1 := Blk.new wr 45 #[.int .i64 gr, .slice Ac1 D1.length cc1]
      have Y2 := Blk.new (wr.alloc (.cells #[.int .i64 gr, .slice Ac1 D1.length cc1] 45)) 45 #[.int .i64 gr, .slice Ac2 D2.length cc2]
      have Y1 := Y1.below ha2 Y1.lt
      have ba := New.trans b ha
      have bc := New.trans ba ha2
      have X1a := X1q.below ha X1q.lt
      have X2a := X2q.below ha X2q.lt
      have X1c := X1a.below ha2 X1a.lt
      have X2c := X2a.below ha2 X2a.lt
      obtain ⟨y0', y1', y2'⟩ := ccells X2a
      obtain ⟨d0, d1⟩ := FG1.out _ b
      obtain ⟨e0, e1⟩ := FG2.out _ ba
      simp only [World.size_alloc] at Y2
      obtain ⟨z0, z1⟩ := cells2 Y1
      obtain ⟨v0, v1⟩ := cells2 Y2
      clear ha ha2 ba X1q X2q X1a X2a b
      go_wp2_with fail
      clear x0 x1 x2 y0 y1 y2 y0' y1' y2' d0 d1 e0 e1 z0 z1 v0 v1 t1
      generalize wr.heap.size = gB at *
      go_loopw [8] (fun i wr => ∃ j : Nat, i = .int .i64 (j : Int) ∧ j ≤ D1.length ∧ Blk wr w.heap.size 27 #[.slice A1 L.length c1, .int .i64 r, .slice (some ad1) G1.length k1] ∧ Blk wr (w.heap.size + 1) 27 #[.slice A2 L.length c2, .int .i64 r, .slice (some ad2) G2.length k2] ∧ Blk wr gB 45 #[.int .i64 gr, .slice Ac1 D1.length cc1] ∧ Blk wr (gB + 1) 45 #[.int .i64 gr, .slice Ac2 D2.length cc2] ∧ New w wr) (fun i _ => D1.length - (intOf i).toNat)
      case atStart => exact ⟨0, rfl, by omega, X1c, X2c, Y1, Y2, bc⟩
      case round =>
        obtain ⟨j, rfl, hj, X1q, X2q, Y1q, Y2q, b⟩ := hrel
        clear X1c X2c Y1 Y2 bc
        obtain ⟨z0, z1⟩ := cells2 Y1q
        obtain ⟨v0, v1⟩ := cells2 Y2q
        by_cases hlj : j < D1.length
        · have hlj2 : j < D2.length := by omega
          obtain ⟨ac1, rfl, hbc1, e0⟩ := (Reads.later HC1.out b).ch1 hlj
          obtain ⟨ac2, rfl, hbc2, f0⟩ := (Reads.later HC2.out b).ch1 hlj2
          have FE := Lib.hid (fun (W : World) (hW : New w W) => show W.cell? (ac1.add j) = some (.slice (D1.getD j chZ).1 (D1.getD j chZ).2.2.length (D1.getD j chZ).2.1) ∧ W.cell? (ac2.add j) = some (.slice (D2.getD j chZ).1 (D2.getD j chZ).2.2.length (D2.getD j chZ).2.1) from by
            obtain ⟨al', e, _, f⟩ := (Reads.later HC1.out hW).ch1 hlj
            injection e with e
            subst e
            obtain ⟨al', e', _, f'⟩ := (Reads.later HC2.out hW).ch1 hlj2
            injection e' with e'
            subst e'
            exact ⟨f, f'⟩)
          have hat := HATk.out j hlj
          have hx1 := HP1.out _ (mem_getDF chZ hlj)
          have hx2 := HP2.out _ (mem_getDF chZ hlj2)
          generalize D1.getD j chZ = xx1 at *
          generalize D2.getD j chZ = xx2 at *
          obtain ⟨Ax1, cx1, pl⟩ := xx1
          obtain ⟨Ax2, cx2, pl2⟩ := xx2
          dsimp only at hat e0 f0 FE hx1 hx2
          subst hat
          have HPL1 := Lib.hid hx1.1
          have HPL2 := Lib.hid hx2.1
          have hpn := hx1.2
          have t1 : ((pl.length : Int) != (pl.length : Int)) = false := by simp
          clear hx1 hx2 hbc1 hbc2
          go_wp2
          go_quiet (fail)
          have hb5 := fun q => New.trans b (new_drewN wr q)
          have X15 := fun q => X1q.below (new_drewN wr q) X1q.lt
          have X25 := fun q => X2q.below (new_drewN wr q) X2q.lt
          have Y15 := fun q => Y1q.below (new_drewN wr q) Y1q.lt
          have Y25 := fun q => Y2q.below (new_drewN wr q) Y2q.lt
          clear z0 z1 v0 v1 e0 f0 t1
          go_wp2_with fail
          go_loopw [9] (fun i wr => ∃ q : Nat, i = .int .i64 (q : Int) ∧ q ≤ pl.length ∧ Blk wr w.heap.size 27 #[.slice A1 L.length c1, .int .i64 r, .slice (some ad1) G1.length k1] ∧ Blk wr (w.heap.size + 1) 27 #[.slice A2 L.length c2, .int .i64 r, .slice (some ad2) G2.length k2] ∧ Blk wr gB 45 #[.int .i64 gr, .slice (some ac1) D1.length cc1] ∧ Blk wr (gB + 1) 45 #[.int .i64 gr, .slice (some ac2) D2.length cc2] ∧ New w wr) (fun i _ => pl.length - (intOf i).toNat)
          case atStart => exact ⟨0, rfl, by omega, X15 _, X25 _, Y15 _, Y25 _, hb5 _⟩
          case round =>
            clear hb5 X15 X25 Y15 Y25 X1q X2q Y1q Y2q b
            obtain ⟨q, rfl, hq, X1q, X2q, Y1q, Y2q, b⟩ := hrel
            obtain ⟨z0, z1⟩ := cells2 Y1q
            obtain ⟨v0, v1⟩ := cells2 Y2q
            obtain ⟨e0, f0⟩ := FE.out _ b
            by_cases hlq : q < pl.length
            · obtain ⟨ap1, rfl, hbp1, d0, d1, d2, d3, d4, d5, d6, d7, d8, d9, d10, d11, d12, d13⟩ := (Reads.later HPL1.out b).page14 hlq
              obtain ⟨ap2, rfl, hbp2, g0, g1, g2, g3, g4, g5, g6, g7, g8, g9, g10, g11, g12, g13⟩ := (Reads.later HPL2.out b).page14 hlq
              generalize pl.getD q pageZ = p at *
              obtain ⟨sz, rw, nn, bb, ⟨p1, p2, p3, p4, p5⟩, ⟨q1, q2, q3, q4, q5⟩⟩ := p
              dsimp only at d0 d1 d2 d3 d4 d5 d6 d7 d8 d9 d10 d11 d12 d13 g0 g1 g2 g3 g4 g5 g6 g7 g8 g9 g10 g11 g12 g13
              have NQ := fun (W : World) => neqPage (sz := sz) (rw := rw) (nn := nn) (p2 := p2) (p4 := p4) (p5 := p5) (q2 := q2) (q4 := q4) (q5 := q5) (bb := bb) (p1 := p1) (q1 := q1) (p3 := p3) (q3 := q3) W
              clear hbp1 hbp2
              go_wp2
              go_quiet (fail)
              have hb5 := fun q => New.trans b (new_drewN wr q)
              have X15 := fun q => X1q.below (new_drewN wr q) X1q.lt
              have X25 := fun q => X2q.below (new_drewN wr q) X2q.lt
              have Y15 := fun q => Y1q.below (new_drewN wr q) Y1q.lt
              have Y25 := fun q => Y2q.below (new_drewN wr q) Y2q.lt
              go_wp2
              go_roundw
              case rel => exact ⟨q + 1, by go_num, by omega, X15 _, X25 _, Y15 _, Y25 _, hb5 _⟩
              case measure => simp [intOf]; omega
            · obtain rfl : q = pl.length := by omega
              go_wp2
              go_roundw
              case rel => exact ⟨j + 1, by go_num, by omega, X1q, X2q, Y1q, Y2q, b⟩
              case measure => simp [intOf]; omega
        · obtain rfl : j = D1.length := by omega
          go_wp2
          go_roundw
          case rel => exact ⟨k + 1, by go_num, by omega, X1q, X2q, b⟩
          case measure => simp [intOf]; omega
    · obtain rfl : k = G1.length := by omega
      go_wp2
      go_ret
      exact ⟨rfl, b⟩

end Go.Proofs.YtflaaahcoglflaaGreat
/- Contracts of sort.Search with a closure that only draws, and of layout.Over and its answer. -/

namespace Go.Proofs.YtflaaahcoglflaaGreat
open Go.RowKit Go.Hm


end Go.Proofs.YtflaaahcoglflaaGreat
/- Contracts of the answer's Over and Spans. -/

namespace Go.Hm
/-- What a walk through the first k spans has seen. -/
def Seen (l : List (Int × Int)) (f t : Int) (k : Nat) (first : Int) (last : Nat) : Prop :=
  (first = -1 ∧ last = 0 ∧ ∀ i, i < k → ¬ hasS (l.getD i (0, 0)) f t) ∨
  (∃ a : Nat, first = (a : Int) ∧ a < last ∧ last ≤ k ∧ hasS (l.getD a (0, 0)) f t ∧ hasS (l.getD (last - 1) (0, 0)) f t ∧ (∀ i, i < a → ¬ hasS (l.getD i (0, 0)) f t) ∧ ∀ i, last ≤ i → i < k → ¬ hasS (l.getD i (0, 0)) f t)
theorem Seen.zero (l : List (Int × Int)) (f t : Int) : Seen l f t 0 (-1) 0 := .inl ⟨rfl, rfl, fun i h => by omega⟩
theorem Seen.no {l : List (Int × Int)} {f t : Int} {k : Nat} {first : Int} {last : Nat} (h : Seen l f t k first last) (hn : ¬ hasS (l.getD k (0, 0)) f t) : Seen l f t (k + 1) first last := by
  rcases h with ⟨h1, h2, h3⟩ | ⟨a, h1, h2, h3, h4, h5, h6, h7⟩
  · refine .inl ⟨h1, h2, fun i hi => ?_⟩
    by_cases e : i = k
    · subst e; exact hn
    · exact h3 i (by omega)
  · refine .inr ⟨a, h1, h2, by omega, h4, h5, h6, fun i hi hi2 => ?_⟩
    by_cases e : i = k
    · subst e; exact hn
    · exact h7 i hi (by omega)
theorem Seen.first {l : List (Int × Int)} {f t : Int} {k : Nat} {first : Int} {last : Nat} (h : Seen l f t k first last) (hf : first < 0) (hy : hasS (l.getD k (0, 0)) f t) : Seen l f t (k + 1) (k : Int) (k + 1) := by
  rcases h with ⟨h1, h2, h3⟩ | ⟨a, h1, _⟩
  · exact .inr ⟨k, rfl, by omega, by omega, hy, by simpa using hy, h3, fun i hi hi2 => by omega⟩
  · omega
theorem Seen.more {l : List (Int × Int)} {f t : Int} {k : Nat} {first : Int} {last : Nat} (h : Seen l f t k first last) (hf : ¬ first < 0) (hy : hasS (l.getD k (0, 0)) f t) : Seen l f t (k + 1) first (k + 1) := by
  rcases h with ⟨h1, h2, h3⟩ | ⟨a, h1, h2, h3, h4, h5, h6, h7⟩
  · omega
  · exact .inr ⟨a, h1, by omega, by omega, h4, by simpa using hy, h6, fun i hi hi2 => by omega⟩
theorem Seen.over {l : List (Int × Int)} (hu : UpS l) {f t : Int} {first : Int} {last : Nat} (h : Seen l f t l.length first last) : (first < 0 → IsOver l f t 0 0) ∧ (¬ first < 0 → ∃ a : Nat, first = (a : Int) ∧ IsOver l f t a last) := by
  rcases h with ⟨h1, h2, h3⟩ | ⟨a, h1, h2, h3, h4, h5, h6, h7⟩
  · exact ⟨fun _ => over_none h3, fun hh => by omega⟩
  · refine ⟨fun hh => by omega, fun _ => ⟨a, h1, by omega, h3, .inl h2, fun i hi => ⟨fun hh => has_between hu hh.1 (by omega) (by omega) h4 h5, fun hh => ?_⟩⟩⟩
    refine ⟨?_, ?_⟩
    · rcases Nat.lt_or_ge i a with h | h
      · exact absurd hh (h6 i h)
      · exact h
    · rcases Nat.lt_or_ge i last with h | h
      · exact h
      · exact absurd hh (h7 i h hi)
theorem has_maxmin {x : Int × Int} {f t : Int} (hx : x.1 < x.2) : (if x.1 < f then f else x.1) < (if t < x.2 then t else x.2) ↔ hasS x f t := by
  unfold hasS
  split <;> split <;> omega

end Go.Hm

namespace Go.Proofs.YtflaaahcoglflaaGreat
open Go.RowKit Go.Hm


end Go.Proofs.YtflaaahcoglflaaGreat
/- The small case of layer 19's statements. -/

namespace Go.Proofs.YtflaaahcoglflaaGreat
open Go Go.RowKit Go.Hm
def fG (n : Nat) : List GrD := [(3, some ⟨n + 1 + 1 + 1, 0, none⟩, 1, [(some ⟨n + 1 + 1, 0, none⟩, 2, [fpA, fpB])])]
theorem fG_is (n : Nat) : footP fL 3 (fG n) = fsm := rfl
theorem fG_page {n : Nat} : ∀ g ∈ fG n, ∀ x ∈ g.2.2.2, ∀ p ∈ x.2.2, PageFine p := foot_fine (L := fL) (r := 3) (G := fG n) (by rw [fG_is]; exact fsm_ok) (by rw [fG_is]; exact fsm_data)
theorem sB19 : Tryz.prog.underlying 22 = some (.slice (Tryz.prog.elem 22)) := by kernel_rfl
theorem zB19 (w : World) : (sizeOf (Tryz.prog.elem 22)).run Tryz.prog w = .ok 1 w := by kernel_rfl
theorem bslice_hF (A : Option Addr) (n c m : Nat) (hc : m ≤ c) (w : World) : (Instr.sliceAt 22 (.slice A n c) none (some (.int .i64 (m : Int))) none).run Tryz.prog w = .ok (.slice A m c) w := by
  rw [run_sliceAt_slice w _ _ _ _ _ sB19, run_slice_h w _ A n c sB19 .i64 (m : Int) (by omega) (by omega), zB19]
  cases A <;> simp [Result.andThen, sliced, Addr.add]
set_option maxHeartbeats 1000000 in
set_option maxRecDepth 100000 in
theorem fsm_in (w : World) : FootIn ((((((w.alloc (.cells #[.int .i64 0, .bool true, .bool false, .int .i64 1, .string ⟨#[]⟩, .int .i64 0, .int .i64 0, .bool false, .int .i64 2, .string ⟨#[]⟩, .int .i64 0, .int .i64 0] 37)).alloc (.cells #[.string ⟨#[97]⟩, .int .i64 0, .bool false] 39)).alloc (.cells #[.int .i64 5, .int .i64 2, .int .i64 0, .bool true, .bool false, .int .i64 1, .string ⟨#[]⟩, .int .i64 0, .int .i64 0, .bool false, .int .i64 2, .string ⟨#[]⟩, .int .i64 0, .int .i64 0, .int .i64 7, .int .i64 1, .int .i64 0, .bool true, .bool false, .int .i64 1, .string ⟨#[]⟩, .int .i64 0, .int .i64 0, .bool false, .int .i64 2, .string ⟨#[]⟩, .int .i64 0, .int .i64 0] 41)).alloc (.cells #[.slice (some ⟨w.heap.size + 1 + 1, 0, none⟩) 2 2] 42)).alloc (.cells #[.int .i64 3, .slice (some ⟨w.heap.size + 1 + 1 + 1, 0, none⟩) 1 1] 45)).alloc (.cells #[.slice (some ⟨w.heap.size + 1, 0, none⟩) 1 1, .int .i64 3, .slice (some ⟨w.heap.size + 1 + 1 + 1 + 1, 0, none⟩) 1 1] 27)) (some ⟨w.heap.size + 1, 0, none⟩) 1 fL (some ⟨w.heap.size + 1 + 1 + 1 + 1, 0, none⟩) (fG w.heap.size) ∧ New w ((((((w.alloc (.cells #[.int .i64 0, .bool true, .bool false, .int .i64 1, .string ⟨#[]⟩, .int .i64 0, .int .i64 0, .bool false, .int .i64 2, .string ⟨#[]⟩, .int .i64 0, .int .i64 0] 37)).alloc (.cells #[.string ⟨#[97]⟩, .int .i64 0, .bool false] 39)).alloc (.cells #[.int .i64 5, .int .i64 2, .int .i64 0, .bool true, .bool false, .int .i64 1, .string ⟨#[]⟩, .int .i64 0, .int .i64 0, .bool false, .int .i64 2, .string ⟨#[]⟩, .int .i64 0, .int .i64 0, .int .i64 7, .int .i64 1, .int .i64 0, .bool true, .bool false, .int .i64 1, .string ⟨#[]⟩, .int .i64 0, .int .i64 0, .bool false, .int .i64 2, .string ⟨#[]⟩, .int .i64 0, .int .i64 0] 41)).alloc (.cells #[.slice (some ⟨w.heap.size + 1 + 1, 0, none⟩) 2 2] 42)).alloc (.cells #[.int .i64 3, .slice (some ⟨w.heap.size + 1 + 1 + 1, 0, none⟩) 1 1] 45)).alloc (.cells #[.slice (some ⟨w.heap.size + 1, 0, none⟩) 1 1, .int .i64 3, .slice (some ⟨w.heap.size + 1 + 1 + 1 + 1, 0, none⟩) 1 1] 27)) := by
  obtain ⟨W1, h1⟩ : ∃ W, W = (w.alloc (.cells #[.int .i64 0, .bool true, .bool false, .int .i64 1, .string ⟨#[]⟩, .int .i64 0, .int .i64 0, .bool false, .int .i64 2, .string ⟨#[]⟩, .int .i64 0, .int .i64 0] 37)) := ⟨_, rfl⟩
  obtain ⟨W2, h2⟩ : ∃ W, W = W1.alloc (.cells #[.string ⟨#[97]⟩, .int .i64 0, .bool false] 39) := ⟨_, rfl⟩
  obtain ⟨W3, h3⟩ : ∃ W, W = W2.alloc (.cells #[.int .i64 5, .int .i64 2, .int .i64 0, .bool true, .bool false, .int .i64 1, .string ⟨#[]⟩, .int .i64 0, .int .i64 0, .bool false, .int .i64 2, .string ⟨#[]⟩, .int .i64 0, .int .i64 0, .int .i64 7, .int .i64 1, .int .i64 0, .bool true, .bool false, .int .i64 1, .string ⟨#[]⟩, .int .i64 0, .int .i64 0, .bool false, .int .i64 2, .string ⟨#[]⟩, .int .i64 0, .int .i64 0] 41) := ⟨_, rfl⟩
  obtain ⟨W4, h4⟩ : ∃ W, W = W3.alloc (.cells #[.slice (some ⟨w.heap.size + 1 + 1, 0, none⟩) 2 2] 42) := ⟨_, rfl⟩
  obtain ⟨W5, h5⟩ : ∃ W, W = W4.alloc (.cells #[.int .i64 3, .slice (some ⟨w.heap.size + 1 + 1 + 1, 0, none⟩) 1 1] 45) := ⟨_, rfl⟩
  obtain ⟨W6, h6⟩ : ∃ W, W = W5.alloc (.cells #[.slice (some ⟨w.heap.size + 1, 0, none⟩) 1 1, .int .i64 3, .slice (some ⟨w.heap.size + 1 + 1 + 1 + 1, 0, none⟩) 1 1] 27) := ⟨_, rfl⟩
  have e6 : ((((((w.alloc (.cells #[.int .i64 0, .bool true, .bool false, .int .i64 1, .string ⟨#[]⟩, .int .i64 0, .int .i64 0, .bool false, .int .i64 2, .string ⟨#[]⟩, .int .i64 0, .int .i64 0] 37)).alloc (.cells #[.string ⟨#[97]⟩, .int .i64 0, .bool false] 39)).alloc (.cells #[.int .i64 5, .int .i64 2, .int .i64 0, .bool true, .bool false, .int .i64 1, .string ⟨#[]⟩, .int .i64 0, .int .i64 0, .bool false, .int .i64 2, .string ⟨#[]⟩, .int .i64 0, .int .i64 0, .int .i64 7, .int .i64 1, .int .i64 0, .bool true, .bool false, .int .i64 1, .string ⟨#[]⟩, .int .i64 0, .int .i64 0, .bool false, .int .i64 2, .string ⟨#[]⟩, .int .i64 0, .int .i64 0] 41)).alloc (.cells #[.slice (some ⟨w.heap.size + 1 + 1, 0, none⟩) 2 2] 42)).alloc (.cells #[.int .i64 3, .slice (some ⟨w.heap.size + 1 + 1 + 1, 0, none⟩) 1 1] 45)).alloc (.cells #[.slice (some ⟨w.heap.size + 1, 0, none⟩) 1 1, .int .i64 3, .slice (some ⟨w.heap.size + 1 + 1 + 1 + 1, 0, none⟩) 1 1] 27)) = W6 := by rw [h6, h5, h4, h3, h2, h1]
  rw [e6]
  have s1 : W1.heap.size = w.heap.size + 1 := by rw [h1, World.size_alloc]
  have s2 : W2.heap.size = w.heap.size + 1 + 1 := by rw [h2, World.size_alloc, s1]
  have s3 : W3.heap.size = w.heap.size + 1 + 1 + 1 := by rw [h3, World.size_alloc, s2]
  have s4 : W4.heap.size = w.heap.size + 1 + 1 + 1 + 1 := by rw [h4, World.size_alloc, s3]
  have b1 : New w W1 := by rw [h1]; exact (Below.refl _ _).alloc (Nat.le_refl _) _
  have b2 : New W1 W2 := by rw [h2]; exact (Below.refl _ _).alloc (Nat.le_refl _) _
  have b3 : New W2 W3 := by rw [h3]; exact (Below.refl _ _).alloc (Nat.le_refl _) _
  have b4 : New W3 W4 := by rw [h4]; exact (Below.refl _ _).alloc (Nat.le_refl _) _
  have b5 : New W4 W5 := by rw [h5]; exact (Below.refl _ _).alloc (Nat.le_refl _) _
  have b6 : New W5 W6 := by rw [h6]; exact (Below.refl _ _).alloc (Nat.le_refl _) _
  have b46 := New.trans b5 b6
  have b36 := New.trans b4 b46
  have b26 := New.trans b3 b36
  have r2 : Reads W2 W2.heap.size 3 (some ⟨w.heap.size + 1, 0, none⟩) 1 (recs colV fL) := by
    have := Reads.litR W1 39 #[.string ⟨#[97]⟩, .int .i64 0, .bool false] 1 3 (recs colV fL) rfl rfl
    rw [s1, ← h2] at this
    exact this
  have r3 : Reads W3 W3.heap.size 14 (some ⟨w.heap.size + 1 + 1, 0, none⟩) 2 (recs pageV [fpA, fpB]) := by
    have := Reads.litR W2 41 #[.int .i64 5, .int .i64 2, .int .i64 0, .bool true, .bool false, .int .i64 1, .string ⟨#[]⟩, .int .i64 0, .int .i64 0, .bool false, .int .i64 2, .string ⟨#[]⟩, .int .i64 0, .int .i64 0, .int .i64 7, .int .i64 1, .int .i64 0, .bool true, .bool false, .int .i64 1, .string ⟨#[]⟩, .int .i64 0, .int .i64 0, .bool false, .int .i64 2, .string ⟨#[]⟩, .int .i64 0, .int .i64 0] 2 14 (recs pageV [fpA, fpB]) rfl rfl
    rw [s2, ← h3] at this
    exact this
  have r4 : Reads W4 W4.heap.size 1 (some ⟨w.heap.size + 1 + 1 + 1, 0, none⟩) 1 (recs chV [(some ⟨w.heap.size + 1 + 1, 0, none⟩, 2, [fpA, fpB])]) := by
    have := Reads.litR W3 42 #[.slice (some ⟨w.heap.size + 1 + 1, 0, none⟩) 2 2] 1 1 (recs chV [(some ⟨w.heap.size + 1 + 1, 0, none⟩, 2, [fpA, fpB])]) rfl rfl
    rw [s3, ← h4] at this
    exact this
  have r5 : Reads W5 W5.heap.size 2 (some ⟨w.heap.size + 1 + 1 + 1 + 1, 0, none⟩) 1 (recs grV (fG w.heap.size)) := by
    have := Reads.litR W4 45 #[.int .i64 3, .slice (some ⟨w.heap.size + 1 + 1 + 1, 0, none⟩) 1 1] 1 2 (recs grV (fG w.heap.size)) rfl rfl
    rw [s4, ← h5] at this
    exact this
  refine ⟨⟨Reads.later r2 b26, by decide, by decide, by decide, Reads.later r5 b6, by simp [fG], ?_, ?_⟩, New.trans b1 (New.trans b2 b26)⟩
  · intro g hg
    simp only [fG, List.mem_singleton] at hg
    subst hg
    exact ⟨Reads.later r4 b46, by simp⟩
  · intro g hg x hx
    simp only [fG, List.mem_singleton] at hg
    subst hg
    simp only [List.mem_singleton] at hx
    subst hx
    exact ⟨Reads.later r3 b36, by simp⟩
set_option maxHeartbeats 4000000 in
set_option maxRecDepth 100000 in
theorem small19_any (w : World) : Calls Tryz.prog 4 #[] w (SmallPost w) := by
  obtain ⟨FI, b06⟩ := fsm_in w
  have P1 := fencode_any (cc := 1) (cg := 1) (r := 3) FI fG_page
  rw [fG_is, fsm_enc] at P1
  have P1 : Hid (Calls Tryz.prog 8 #[.agg #[.slice (some ⟨w.heap.size + 1, 0, none⟩) 1 1, .int .i64 3, .slice (some ⟨w.heap.size + 1 + 1 + 1 + 1, 0, none⟩) 1 1]] ((((((w.alloc (.cells #[.int .i64 0, .bool true, .bool false, .int .i64 1, .string ⟨#[]⟩, .int .i64 0, .int .i64 0, .bool false, .int .i64 2, .string ⟨#[]⟩, .int .i64 0, .int .i64 0] 37)).alloc (.cells #[.string ⟨#[97]⟩, .int .i64 0, .bool false] 39)).alloc (.cells #[.int .i64 5, .int .i64 2, .int .i64 0, .bool true, .bool false, .int .i64 1, .string ⟨#[]⟩, .int .i64 0, .int .i64 0, .bool false, .int .i64 2, .string ⟨#[]⟩, .int .i64 0, .int .i64 0, .int .i64 7, .int .i64 1, .int .i64 0, .bool true, .bool false, .int .i64 1, .string ⟨#[]⟩, .int .i64 0, .int .i64 0, .bool false, .int .i64 2, .string ⟨#[]⟩, .int .i64 0, .int .i64 0] 41)).alloc (.cells #[.slice (some ⟨w.heap.size + 1 + 1, 0, none⟩) 2 2] 42)).alloc (.cells #[.int .i64 3, .slice (some ⟨w.heap.size + 1 + 1 + 1, 0, none⟩) 1 1] 45)).alloc (.cells #[.slice (some ⟨w.heap.size + 1, 0, none⟩) 1 1, .int .i64 3, .slice (some ⟨w.heap.size + 1 + 1 + 1 + 1, 0, none⟩) 1 1] 27)) (OptB (some (footL fsm)) ((((((w.alloc (.cells #[.int .i64 0, .bool true, .bool false, .int .i64 1, .string ⟨#[]⟩, .int .i64 0, .int .i64 0, .bool false, .int .i64 2, .string ⟨#[]⟩, .int .i64 0, .int .i64 0] 37)).alloc (.cells #[.string ⟨#[97]⟩, .int .i64 0, .bool false] 39)).alloc (.cells #[.int .i64 5, .int .i64 2, .int .i64 0, .bool true, .bool false, .int .i64 1, .string ⟨#[]⟩, .int .i64 0, .int .i64 0, .bool false, .int .i64 2, .string ⟨#[]⟩, .int .i64 0, .int .i64 0, .int .i64 7, .int .i64 1, .int .i64 0, .bool true, .bool false, .int .i64 1, .string ⟨#[]⟩, .int .i64 0, .int .i64 0, .bool false, .int .i64 2, .string ⟨#[]⟩, .int .i64 0, .int .i64 0] 41)).alloc (.cells #[.slice (some ⟨w.heap.size + 1 + 1, 0, none⟩) 2 2] 42)).alloc (.cells #[.int .i64 3, .slice (some ⟨w.heap.size + 1 + 1 + 1, 0, none⟩) 1 1] 45)).alloc (.cells #[.slice (some ⟨w.heap.size + 1, 0, none⟩) 1 1, .int .i64 3, .slice (some ⟨w.heap.size + 1 + 1 + 1 + 1, 0, none⟩) 1 1] 27)))) := Lib.hid P1
  have BF := Blk.new (((((w.alloc (.cells #[.int .i64 0, .bool true, .bool false, .int .i64 1, .string ⟨#[]⟩, .int .i64 0, .int .i64 0, .bool false, .int .i64 2, .string ⟨#[]⟩, .int .i64 0, .int .i64 0] 37)).alloc (.cells #[.string ⟨#[97]⟩, .int .i64 0, .bool false] 39)).alloc (.cells #[.int .i64 5, .int .i64 2, .int .i64 0, .bool true, .bool false, .int .i64 1, .string ⟨#[]⟩, .int .i64 0, .int .i64 0, .bool false, .int .i64 2, .string ⟨#[]⟩, .int .i64 0, .int .i64 0, .int .i64 7, .int .i64 1, .int .i64 0, .bool true, .bool false, .int .i64 1, .string ⟨#[]⟩, .int .i64 0, .int .i64 0, .bool false, .int .i64 2, .string ⟨#[]⟩, .int .i64 0, .int .i64 0] 41)).alloc (.cells #[.slice (some ⟨w.heap.size + 1 + 1, 0, none⟩) 2 2] 42)).alloc (.cells #[.int .i64 3, .slice (some ⟨w.heap.size + 1 + 1 + 1, 0, none⟩) 1 1] 45)) 27 #[.slice (some ⟨w.heap.size + 1, 0, none⟩) 1 1, .int .i64 3, .slice (some ⟨w.heap.size + 1 + 1 + 1 + 1, 0, none⟩) 1 1]
  have BS := Blk.new w 37 #[.int .i64 0, .bool true, .bool false, .int .i64 1, .string ⟨#[]⟩, .int .i64 0, .int .i64 0, .bool false, .int .i64 2, .string ⟨#[]⟩, .int .i64 0, .int .i64 0]
  simp only [World.size_alloc] at BF
  obtain ⟨z0, z1, z2, z3, z4, z5, z6, z7, z8, z9, z10, z11⟩ := cells12 BS
  go_enter Tryz.func4, Tryz.ntmps4
  go_wp2_with fail
  refine P1.out.mono ?_
  rintro e w1 ⟨A1, n1, c1, rfl, o1, b1⟩
  have BF := BF.below b1 BF.lt
  have FI := FI.later b1
  have b01 := New.trans b06 b1
  clear z0 z1 z2 z3 z4 z5 z6 z7 z8 z9 z10 z11 BS P1 b06 b1
  have hGp : ∀ g ∈ fG w.heap.size, ∀ x ∈ g.2.2.2, ∀ p ∈ x.2.2, PageFine p := fG_page
  have hGi := fG_is w.heap.size
  have hGl : (fG w.heap.size).length = 1 := rfl
  generalize fG w.heap.size = G at *
  generalize hg5 : w.heap.size + 1 + 1 + 1 + 1 + 1 = g5 at *
  generalize hac : (some ⟨w.heap.size + 1, 0, none⟩ : Option Addr) = Ac at *
  generalize hag : (some ⟨w.heap.size + 1 + 1 + 1 + 1, 0, none⟩ : Option Addr) = Ag at *
  clear hg5 hac hag
  have HGP := Lib.hid hGp
  have HGI := Lib.hid hGi
  have HGL := Lib.hid hGl
  obtain ⟨r, hr⟩ := fsm_bytes
  have hr9 : 9 ≤ (footL fsm).length := by rw [hr]; simp
  have hn1 : n1 = (footL fsm).length := by have := o1.len; rwa [nums_length] at this
  have h19 : 9 ≤ n1 := by omega
  have hc1 : n1 ≤ c1 := o1.cap.1
  have hlen := fsm_len
  have P2 := fdecode_any (c := c1) o1.reads (footL_byte fsm_ok fsm_data) (by omega)
  rw [fsm_dec] at P2
  have P2 := Lib.hid P2
  have HR := Lib.hid hr
  have hn1b : n1 ≤ 1000000 := by omega
  have HN1 := Lib.hid hn1
  clear hGp hGi hGl hr hn1 hr9 hlen
  go_wp2_with fail
  refine P2.out.mono ?_
  rintro e w2 ⟨Ac2, cc2, L2, r2, Ag2, cg2, G2, rfl, hP2, ⟨FI2, hcg2⟩, b2⟩
  unfold footA
  have o1 := o1.later b2
  have BF := BF.below b2 BF.lt
  have FI := FI.later b2
  have b02 := New.trans b01 b2
  have eP : footP L2 r2 G2 = ⟨L2, r2, G2.map grP⟩ := rfl
  rw [eP] at hP2
  have hPG : G2.map grP = G.map grP := by
    have h1 := congrArg FootS.groups hP2
    have h2 := congrArg FootS.groups HGI.out
    exact h1.trans h2.symm
  obtain rfl : L2 = fL := congrArg FootS.cols hP2
  obtain rfl : r2 = 3 := congrArg FootS.rows hP2
  have HPG := Lib.hid hPG
  clear P2 b01 b2 eP hP2 hPG hcg2
  obtain ⟨x0, x1, x2⟩ := ccells BF
  have HFG := Lib.hid (fun (W : World) (hW : New w2 W) => show Calls Tryz.prog 9 #[.agg #[.slice Ac 1 1, .int .i64 3, .slice Ag 1 1], .int .i64 0, .int .i64 0] W (SpansPost [(0, 2), (2, 3)] W) from by
    have := fspans_any (cc := 1) (r := 3) (cg := 1) (FI.later hW) (fun g hg x hx p hp => (HGP.out g hg x hx p hp).stat) (by rw [HGL.out]; exact Nat.le_refl _) (g := 0) (c := 0)
    rw [HGI.out, fsm_spans] at this
    unfold footA at this
    rw [HGL.out] at this
    exact this)
  have BX2 := Blk.new w2 27 #[.slice Ac2 fL.length cc2, .int .i64 3, .slice Ag2 G2.length cg2]
  have ba : New w2 (w2.alloc (.cells #[.slice Ac2 fL.length cc2, .int .i64 3, .slice Ag2 G2.length cg2] 27)) := (Below.refl _ _).alloc (Nat.le_refl _) _
  have BFa := BF.below ba BF.lt
  have b03 := New.trans b02 ba
  have P3 := Lib.hid (HFG.out _ ba)
  clear BF b02 x0 x1 x2
  obtain ⟨x0, x1, x2⟩ := ccells BFa
  go_wp2_with fail
  clear x0 x1 x2
  refine P3.out.mono ?_
  rintro e w3 ⟨A3, n3, c3, rfl, o3, b3⟩
  obtain rfl : n3 = 2 := (Reads.of_own o3).lenP
  have BF := BFa.below b3 BFa.lt
  have BX2 := BX2.below b3 BX2.lt
  have b23 := New.trans ba b3
  have b03 := New.trans b03 b3
  clear BFa P3 ba b3
  have FZ : FootIn w3 none 0 [] none [] := ⟨Reads.none_, by simp, by simp, by simp, Reads.none_, by simp, by simp, by simp⟩
  have P4 := fencode_any (cc := 0) (cg := 0) (r := 0) FZ (by simp)
  rw [show footP [] 0 [] = fz from rfl, fz_enc] at P4
  have P4 : Hid (Calls Tryz.prog 8 #[.agg #[.slice none 0 0, .int .i64 0, .slice none 0 0]] w3 (OptB (some [0, 0, 0]) w3)) := Lib.hid P4
  go_wp2_with fail
  refine P4.out.mono ?_
  rintro e w4 ⟨A4, n4, c4, rfl, o4, b4⟩
  have o3 := row_later o3 b4
  have BF := BF.below b4 BF.lt
  have BX2 := BX2.below b4 BX2.lt
  have b24 := New.trans b23 b4
  have b04 := New.trans b03 b4
  clear P4 FZ b23 b4 b03
  have k4 : n4 = 3 := by have := o4.len; simpa [nums] using this
  subst k4
  have o1b := o1.later b24
  have hE : Go.Hm.Own (w4.alloc (.cells #[] 5)) w4.heap.size 5 (.slice (some ⟨w4.heap.size, 0, none⟩) 0 0) (nums .u8 []) := Own.empty _ _
  have r1 : Reads (w4.alloc (.cells #[] 5)) (w4.alloc (.cells #[] 5)).heap.size 1 A1 n1 (nums .u8 (footL fsm)) := Reads.later o1b.reads ((Below.refl _ _).alloc (Nat.le_refl _) _)
  have ba : New w4 (w4.alloc (.cells #[] 5)) := (Below.refl _ _).alloc (Nat.le_refl _) _
  have hza : w4.heap.size ≤ (w4.alloc (.cells #[] 5)).heap.size := ba.size
  go_wp2_with (first
    | (refine wpList_pushesN elB rfl (.tmp 44) (.tmp 45) rfl (W := w4) (B := w4.heap.size) hE r1 rfl rfl ba (Nat.le_refl _) hza (by omega) (by simp only [maxLen]; omega) ?_
       simp only [Nat.zero_add, List.nil_append]
       intro A5 c5 w5 hc5 _ o5 g5' b5 _)
    | (refine wpList_pushN elB rfl (.tmp 46) (.tmp 47) rfl (W := w4) (B := w4.heap.size) o5 rfl rfl 0 rfl b5 (Nat.le_refl _) b5.size (by omega) (by simp only [maxLen]; omega) ?_
       intro A6 c6 w6 _ _ o6 g6 b6 _ _))
  have P7 := fdecode_any (c := c6) o6.reads (by intro x hx; rcases List.mem_append.1 hx with hx | hx; exact footL_byte fsm_ok fsm_data x hx; simp at hx; omega) (by omega)
  rw [fsm_no] at P7
  have P7 := Lib.hid P7
  clear hE r1 ba hza hc5 o5 g5' b5 o6 g6
  refine P7.out.mono ?_
  rintro e w7 ⟨rfl, b7⟩
  have b47 := New.trans b6 b7
  have ba : New w7 (w7.alloc (.cells #[.slice none 0 0, .int .i64 0, .slice none 0 0] 27)) := (Below.refl _ _).alloc (Nat.le_refl _) _
  have b48 := New.trans b47 ba
  have o3 := row_later o3 b48
  have o4 := o4.later b48
  have o1b := o1b.later b48
  have BF := BF.below b48 BF.lt
  have BX2 := BX2.below b48 BX2.lt
  have b08 := New.trans b04 b48
  have b28 := New.trans b24 b48
  clear P7 b6 b7 b47 ba b48 b04 b24 o1
  obtain ⟨ad3, rfl, -, f0, f1⟩ := (Reads.of_own o3).pair2 (i := 1) (by omega)
  have f0 : (w7.alloc (.cells #[.slice none 0 0, .int .i64 0, .slice none 0 0] 27)).cell? ⟨ad3.block, ad3.off + 2, none⟩ = some (.int .i64 2) := f0
  have f1 : (w7.alloc (.cells #[.slice none 0 0, .int .i64 0, .slice none 0 0] 27)).cell? ⟨ad3.block, ad3.off + 3, none⟩ = some (.int .i64 3) := f1
  have r9 : Reads (w7.alloc (.cells #[.slice none 0 0, .int .i64 0, .slice none 0 0] 27)) (w7.alloc (.cells #[.slice none 0 0, .int .i64 0, .slice none 0 0] 27)).heap.size 1 A1 9 (nums .u8 [1, 1, 97, 0, 0, 3, 1, 3, 2]) := by
    have := o1b.reads.take (k := 9) h19
    rw [HR.out] at this
    exact this
  have SH := fun W => bslice_hF A1 n1 c1 9 (by omega) W
  have X1 := run_strB (c := c1) r9
  have HS := f_b9
  have x9 : ¬ (n1 : Int) < 9 := by omega
  have LSm := Lib.hid (fun (W : World) (hW : New w2 W) => show Calls Tryz.prog 7 #[.agg #[.slice Ac 1 1, .int .i64 3, .slice Ag 1 1], .agg #[.slice Ac2 fL.length cc2, .int .i64 3, .slice Ag2 G2.length cg2]] W (NewPost (.bool true) W) from by
    have := fsame_any (r := 3) (c1 := 1) (k1 := 1) (c2 := cc2) (k2 := cg2) (FI.later hW) (FI2.later hW) HPG.out.symm
    unfold footA at this
    rw [HGL.out] at this
    exact this)
  have LPl := Lib.hid (fun (W : World) (hW : New w2 W) (g c p : Int) => show Calls Tryz.prog 10 #[.agg #[.slice Ac 1 1, .int .i64 3, .slice Ag 1 1], .int .i64 g, .int .i64 c, .int .i64 p] W (NewPost (.int .i64 (placeF fsm g c p)) W) from by
    have := place_any (cc := 1) (r := 3) (cg := 1) (FI.later hW) (fun g hg x hx p hp => (HGP.out g hg x hx p hp).stat) (g := g) (c := c) (p := p)
    rw [HGI.out] at this
    unfold footA at this
    rw [HGL.out] at this
    exact this)
  have LRt := Lib.hid (fun (W : World) (hW : New w2 W) => show Calls Tryz.prog 11 #[.agg #[.slice Ac 1 1, .int .i64 3, .slice Ag 1 1]] W (NewPost (.bool true) W) from by
    have := fright_any (cc := 1) (r := 3) (cg := 1) (FI.later hW) (fun g hg x hx p hp => (HGP.out g hg x hx p hp).stat)
    rw [HGI.out, rightF_yes fsm_ok] at this
    unfold footA at this
    rw [HGL.out] at this
    exact this)
  have LRo := Lib.hid (fun (W : World) => show Calls Tryz.prog 11 #[.agg #[.slice none 0 0, .int .i64 1, .slice none 0 0]] W (NewPost (.bool false) W) from by
    have := fright_any (w := W) (cc := 0) (r := 1) (cg := 0) (L := []) (Ac := none) (Ag := none) (G := []) ⟨Reads.none_, by simp, by simp, by simp, Reads.none_, by simp, by simp, by simp⟩ (by simp)
    rw [show rightF (footP [] 1 []) = false from rightF_no one_no] at this
    exact this)
  obtain ⟨pl1, pl2, pl3⟩ := fsm_place
  obtain ⟨x0, x1, x2⟩ := ccells BF
  obtain ⟨y0, y1, y2⟩ := ccells BX2
  go_wp2_with fail
  refine (LSm.out _ b28).mono ?_
  rintro e w9 ⟨rfl, b9⟩
  have o3 := row_later o3 b9
  obtain ⟨ad3', e3, -, f0, f1⟩ := (Reads.of_own o3).pair2 (i := 1) (by omega)
  injection e3 with e3
  subst e3
  have f0 : w9.cell? ⟨ad3.block, ad3.off + 2, none⟩ = some (.int .i64 2) := f0
  have f1 : w9.cell? ⟨ad3.block, ad3.off + 3, none⟩ = some (.int .i64 3) := f1
  have X2 := run_strB (c := c4) (o4.later b9).reads
  have HS2 := f_b3
  have BF9 := BF.below b9 BF.lt
  have b29 := New.trans b28 b9
  have b09 := New.trans b08 b9
  clear BF BX2 X1 HS SH r9 o3 x0 x1 x2 y0 y1 y2 b9 b08 b28 LSm
  obtain ⟨x0, x1, x2⟩ := ccells BF9
  go_wp2_with fail
  have P := LPl.out _ b29 0 0 1
  rw [pl1] at P
  refine P.mono ?_
  rintro e wa ⟨rfl, ba⟩
  have BFa := BF9.below ba BF9.lt
  have b2a := New.trans b29 ba
  have b0a := New.trans b09 ba
  clear P x0 x1 x2 BF9 ba b29 b09 f0 f1 X2 HS2
  obtain ⟨x0, x1, x2⟩ := ccells BFa
  go_wp2_with fail
  have P := LPl.out _ b2a 1 0 0
  rw [pl2] at P
  refine P.mono ?_
  rintro e wb ⟨rfl, bb⟩
  have BFb := BFa.below bb BFa.lt
  have b2b := New.trans b2a bb
  have b0b := New.trans b0a bb
  clear P x0 x1 x2 BFa bb b2a b0a
  obtain ⟨x0, x1, x2⟩ := ccells BFb
  go_wp2_with fail
  have P := LPl.out _ b2b 0 0 2
  rw [pl3] at P
  refine P.mono ?_
  rintro e wc ⟨rfl, bc⟩
  have BFc := BFb.below bc BFb.lt
  have b2c := New.trans b2b bc
  have b0c := New.trans b0b bc
  clear P x0 x1 x2 BFb bc b2b b0b
  obtain ⟨x0, x1, x2⟩ := ccells BFc
  go_wp2_with fail
  refine (LRt.out _ b2c).mono ?_
  rintro e wd ⟨rfl, bd⟩
  have b0d := New.trans b0c bd
  go_wp2_with fail
  refine (LRo.out _).mono ?_
  rintro e we ⟨rfl, be⟩
  have b0e := New.trans b0d be
  go_wp2
  go_ret
  exact ⟨rfl, b0e⟩

end Go.Proofs.YtflaaahcoglflaaGreat
/- The contract of hypostyleref09.fine. -/

namespace Go.Proofs.YtflaaahcoglflaaGreat
open Go.RowKit Go.Hm
theorem plOk_and {t : Int} {L : List CellS} : plOk t L = ((L.all fun c => rightB c t false) && (decide ((L.length : Int) ≤ 65536) && (decide (0 ≤ t) && decide (t ≤ 3)))) := by
  rw [Bool.eq_iff_iff, plOk_iff]
  simp only [Bool.and_eq_true, List.all_eq_true, decide_eq_true_eq]
  constructor
  · rintro ⟨⟨a, b, c⟩, d⟩
    exact ⟨d, by omega, a, b⟩
  · rintro ⟨d, c, a, b⟩
    exact ⟨⟨a, b, by omega⟩, d⟩
set_option maxHeartbeats 2000000 in
set_option maxRecDepth 100000 in
theorem rfine_any {w : World} {t : Int} {A : Option Addr} {n c : Nat} {L : List CellS} (h : Reads w w.heap.size 5 A n (recs cellV L)) (hL : ∀ y ∈ L, y.2.2.1.length ≤ 140737488351232) (hn : n ≤ 4611686018427387903) :
    Calls Tryz.prog 61 #[.int .i64 t, .slice A n c] w (NewPost (.bool (plOk t L)) w) := by
  obtain rfl := h.lenCell
  have HR := Lib.hid h
  have HL := Lib.hid hL
  clear h hL
  obtain ⟨M, hM⟩ : ∃ M, M = plOk t L := ⟨_, rfl⟩
  rw [← hM]
  rw [plOk_and] at hM
  have HM := Lib.hid hM
  clear hM
  go_enter Tryz.func61, Tryz.ntmps61
  go_wp2_with fail
  go_loopw [5] (fun i wr => ∃ k : Nat, k ≤ L.length ∧ i = .int .i64 (k : Int) ∧ New w wr ∧ Hid (∀ c ∈ L.take k, rightB c t false = true)) (fun i _ => L.length - (intOf i).toNat)
  case atStart => exact ⟨0, Nat.zero_le _, rfl, New.refl _, Lib.hid (by simp)⟩
  case round =>
    obtain ⟨k, hk, rfl, hW, hr⟩ := hrel
    by_cases hlt : k < L.length
    · obtain ⟨ad, rfl, hb, d0, d1, d2, d3, d4⟩ := (Reads.later HR.out hW).cell5 hlt
      have htk := take_snoc L k (false, 0, [], 0, 0) hlt
      have hmem : L.getD k (false, 0, [], 0, 0) ∈ L := by rw [List.getD_eq_getElem?_getD, List.getElem?_eq_getElem hlt]; exact List.getElem_mem hlt
      have hy := HL.out _ hmem
      have R1 := fun (W : World) => rcright_any (w := W) (b := (L.getD k (false, 0, [], 0, 0)).1) (n := (L.getD k (false, 0, [], 0, 0)).2.1) (s := (L.getD k (false, 0, [], 0, 0)).2.2.1) (x := (L.getD k (false, 0, [], 0, 0)).2.2.2.1) (y := (L.getD k (false, 0, [], 0, 0)).2.2.2.2) (cn := []) (t := t) (nu := false) hy
      have hno : rightB (L.getD k (false, 0, [], 0, 0)) t false = false → M = false := fun e => by
        rw [HM.out]
        have : (L.all fun c => rightB c t false) = false := Bool.eq_false_iff.2 fun e2 => by
          have := (List.all_eq_true.1 e2) _ hmem
          rw [e] at this
          cases this
        rw [this, Bool.false_and]
      have hyes : rightB (L.getD k (false, 0, [], 0, 0)) t false = true → ∀ c ∈ L.take (k + 1), rightB c t false = true := fun e c hc => by
        rw [htk] at hc
        rcases List.mem_append.1 hc with hc | hc
        · exact hr.out c hc
        · rw [List.mem_singleton.1 hc]; exact e
      clear htk hmem hy hr
      generalize L.getD k (false, 0, [], 0, 0) = y at *
      obtain ⟨y0, y1, y2, y3, y4⟩ := y
      dsimp only at R1 d0 d1 d2 d3 d4
      generalize rightB (y0, y1, y2, y3, y4) t false = m at *
      have R1 : Hid (∀ W, Calls Tryz.prog 62 #[.agg #[.bool y0, .int .i64 y1, .string (bstr y2), .int .i64 y3, .int .i64 y4], .agg #[.string ⟨#[]⟩, .int .i64 t, .bool false]] W (NewPost (.bool m) W)) := Lib.hid R1
      have hno := Lib.hid hno
      have hyes := Lib.hid hyes
      go_wp2_with fail
      refine (R1.out _).mono ?_
      rintro e w1 ⟨rfl, b1⟩
      have hl := New.trans hW b1
      cases m with
      | false =>
        have hm := hno.out (by trivial)
        have HM2 := Lib.hid hm
        clear hno hyes hm
        go_wp2_with fail
        go_ret
        exact ⟨by rw [HM2.out]; rfl, hl⟩
      | true =>
        have hy2 := hyes.out (by trivial)
        have HY2 := Lib.hid hy2
        clear hno hyes hy2
        go_wp2_with fail
        go_roundw
        case rel => exact ⟨k + 1, by omega, by go_num, hl, HY2⟩
        case measure => simp [intOf]; omega
    · obtain rfl : k = L.length := by omega
      have hr2 := hr.out
      rw [List.take_length] at hr2
      have HM2 : Hid (M = (decide ((L.length : Int) ≤ 65536) && (decide (0 ≤ t) && decide (t ≤ 3)))) := Lib.hid (by
        rw [HM.out, List.all_eq_true.2 hr2, Bool.true_and])
      clear hr hr2
      by_cases h1 : (L.length : Int) ≤ 65536
      all_goals have g1 := Lib.hid h1
      all_goals by_cases h0 : 0 ≤ t
      all_goals have g2 := Lib.hid h0
      all_goals
        go_wp2_with fail
        go_ret
        refine ⟨?_, hW⟩
        rw [HM2.out]
        have g1 := g1.out
        have g2 := g2.out
        first
          | (rw [decide_eq_true (show (L.length : Int) ≤ 65536 by omega)]
             first
               | (rw [decide_eq_true (show 0 ≤ t by omega)]; rfl)
               | (rw [decide_eq_false (show ¬ 0 ≤ t by omega)]; rfl))
          | (rw [decide_eq_false (show ¬ (L.length : Int) ≤ 65536 by omega)]; rfl)

end Go.Proofs.YtflaaahcoglflaaGreat
/- The contract of hypostyleref09.Encode. -/

namespace Go.Proofs.YtflaaahcoglflaaGreat
open Go.RowKit Go.Hm

end Go.Proofs.YtflaaahcoglflaaGreat
/- The contract of hypostyleref09.Encode, of every type. -/

namespace Go.Proofs.YtflaaahcoglflaaGreat
open Go.RowKit Go.Hm
theorem bits_snoc {L : List CellS} {k : Nat} (h : k < L.length) : bitsP (L.take (k + 1)) = bitsP (L.take k) ++ [u64N (L.getD k (false, 0, [], 0, 0)).2.1] := by
  unfold bitsP
  rw [take_snoc L k (false, 0, [], 0, 0) h, List.map_append]
  rfl

end Go.Proofs.YtflaaahcoglflaaGreat
/- The contract of hypostyleref09.one. -/

namespace Go.Proofs.YtflaaahcoglflaaGreat
open Go.RowKit Go.Hm
theorem ru64S_any {w : World} {B g : Nat} {S : St} (h : RCurS w B g S) : Calls Tryz.prog 36 #[.pointer (some ⟨g, 0, none⟩), .int .i64 8] w (RSPost (.returned (.int .u64 ((u64S S).1 : Int))) B g (u64S S).2 w) := by
  cases S with
  | none => exact rnum_bad (n := 8) h (.inl rfl) (by omega) (by omega)
  | some l =>
    unfold u64S
    dsimp only
    split
    · exact rnum_good 8 h ‹_› (by omega)
    · exact rnum_bad (n := 8) h (.inr (.inr (by simp; omega))) (by omega) (by omega)
def RRdPost (c : CellS) (B g : Nat) (S : St) (w : World) (e : Ending) (w' : World) : Prop := e = .returned (cellA c) ∧ RCurS w' B g S ∧ w.grownBy w' (some g)
set_option maxHeartbeats 4000000 in
set_option maxRecDepth 100000 in
theorem rone_any {w : World} {B g : Nat} {S : St} {t : Int} (h : RCurS w B g S) (ht : t = 0 ∨ t = 2 ∨ t = 3) :
    Calls Tryz.prog 60 #[.int .i64 t, .pointer (some ⟨g, 0, none⟩)] w (RRdPost (rdC t S).1 B g (rdC t S).2 w) := by
  have hlt := h.lt
  have hge := h.ge
  have ha : New w (w.alloc (.cells (cellV cell0).toArray 35)) := (Below.refl _ _).alloc (Nat.le_refl _) _
  have h0 := h.below ha
  have BZ : Blk (w.alloc (.cells (cellV cell0).toArray 35)) w.heap.size 35 (cellV cell0).toArray := Blk.new _ _ _
  have G0 : w.grownBy (w.alloc (.cells (cellV cell0).toArray 35)) (some g) := Far.of_new ha
  obtain ⟨X, hX⟩ : ∃ X, X = rdC t S := ⟨_, rfl⟩
  rw [← hX]
  unfold rdC at hX
  rcases ht with rfl | rfl | rfl
  · rw [if_pos rfl] at hX
    have C1 := Lib.hid (ru64S_any h0)
    have hw := i64_wrapZ (u64S_lt h.ok)
    generalize u64S S = Q at *
    obtain ⟨a, S1⟩ := Q
    dsimp only at *
    generalize i64Z a = z at *
    have HX := Lib.hid hX
    clear hX h h0 ha
    go_enter Tryz.func60, Tryz.ntmps60
    go_wp2_with fail
    refine C1.out.mono ?_
    rintro e w1 ⟨rfl, s1, g1⟩
    have hz1 := g1.size
    simp only [World.size_alloc] at hz1
    have BZ1 := BZ.grown g1 (by intro e; injection e with e; omega)
    have G1 := G0.trans g1
    go_wp2_with (refine wpList_storeG rfl 35 (.tmp 4) (.tmp 13) rfl w.heap.size _ rfl rfl BZ1 (by kernel_rfl) (by simp [cellV]) (by simp [Value.oneCell']) ?_
                 intro W5 BR G5
                 obtain ⟨s0, s1', s2, s3, s4⟩ := cells5 BR)
    have hX := HX.out
    subst hX
    exact bodyPost_ret (v := cellA (false, z, [], 0, 0)) (by simp [results, Tryz.results60, go_sem, s0, s1', s2, s3, s4, cellA, cellV, show bstr [] = ⟨#[]⟩ from rfl]) rfl ⟨rfl, s1.keep G5 (by omega) (by omega), grown_then G1 G5 (Nat.le_refl _)⟩
  · rw [if_neg (by decide), if_neg (by decide)] at hX
    have C1 := Lib.hid (rlenS_any (m := 65536) h0 (by omega) (by omega))
    have hle := lenS_le (m := 65536) S (by omega) h.ok
    generalize lenS 65536 S = Q at *
    obtain ⟨a, S1⟩ := Q
    dsimp only at *
    obtain ⟨Q2, hQ2⟩ : ∃ Q, Q = takeS (a : Int) S1 := ⟨_, rfl⟩
    rw [← hQ2] at hX
    have HQ2 := Lib.hid hQ2
    have HX := Lib.hid hX
    clear hX h h0 ha hQ2
    go_enter Tryz.func60, Tryz.ntmps60
    go_wp2_with fail
    refine C1.out.mono ?_
    rintro e w1 ⟨rfl, s1, g1⟩
    have hz1 := g1.size
    simp only [World.size_alloc] at hz1
    have BZ1 := BZ.grown g1 (by intro e; injection e with e; omega)
    have G1 := G0.trans g1
    have C2 := rtakeS_any (n := (a : Int)) s1 (by omega) (by omega)
    rw [← HQ2.out] at C2
    have C2 := Lib.hid C2
    clear C1 BZ G0 g1 s1
    go_wp2_with fail
    refine C2.out.mono ?_
    rintro e w2 ⟨A2, n2, c2, rfl, e2, k2, s2, g2⟩
    have hz2 := g2.size
    have BZ2 := BZ1.grown g2 (by intro e; injection e with e; omega)
    have G2 := G1.trans g2
    have q2 := run_strB (c := c2) k2.reads
    obtain ⟨x2, S2⟩ := Q2
    dsimp only at e2 k2 s2 q2
    subst e2
    clear C2 BZ1 G1 g2 HQ2
    go_wp2_with (refine wpList_storeG rfl 35 (.tmp 4) (.tmp 22) rfl w.heap.size _ rfl rfl BZ2 (by kernel_rfl) (by simp [cellV]) (by simp [Value.oneCell']) ?_
                 intro W5 BR G5
                 obtain ⟨s0, s1', s2', s3, s4⟩ := cells5 BR)
    have hX := HX.out
    subst hX
    exact bodyPost_ret (v := cellA (false, 0, x2, 0, 0)) (by simp [results, Tryz.results60, go_sem, s0, s1', s2', s3, s4, cellA, cellV]) rfl ⟨rfl, s2.keep G5 (by omega) (by omega), grown_then G2 G5 (Nat.le_refl _)⟩
  · rw [if_neg (by decide), if_pos rfl] at hX
    have C1 := Lib.hid (rgetS_any h0)
    have hlt1 := getS_lt h.ok
    have hok1 := getS_ok h.ok
    generalize getS S = Q at *
    obtain ⟨a, S1⟩ := Q
    dsimp only at *
    have hlt2 := getS_lt hok1
    obtain ⟨Q2, hQ2⟩ : ∃ Q, Q = getS S1 := ⟨_, rfl⟩
    rw [← hQ2] at hX hlt2
    have HQ2 := Lib.hid hQ2
    have Z1 := Lib.hid (fun (W : World) => rzag_any a W hlt1)
    have Z2 := Lib.hid (fun (W : World) => rzag_any Q2.1 W hlt2)
    have HX := Lib.hid hX
    clear hX h h0 ha hQ2
    go_enter Tryz.func60, Tryz.ntmps60
    go_wp2_with fail
    refine C1.out.mono ?_
    rintro e w1 ⟨rfl, s1, g1⟩
    have hz1 := g1.size
    simp only [World.size_alloc] at hz1
    have BZ1 := BZ.grown g1 (by intro e; injection e with e; omega)
    have G1 := G0.trans g1
    have C2 := rgetS_any s1
    rw [← HQ2.out] at C2
    have C2 := Lib.hid C2
    clear C1 BZ G0 g1 s1
    go_wp2_with fail
    refine C2.out.mono ?_
    rintro e w2 ⟨rfl, s2, g2⟩
    have hz2 := g2.size
    have BZ2 := BZ1.grown g2 (by intro e; injection e with e; omega)
    have G2 := G1.trans g2
    clear C2 BZ1 G1 g2 HQ2
    go_wp2_with fail
    refine (Z1.out _).mono ?_
    rintro e w3 ⟨rfl, rfl⟩
    go_wp2_with fail
    refine (Z2.out _).mono ?_
    rintro e w3 ⟨rfl, rfl⟩
    go_wp2_with (refine wpList_storeG rfl 35 (.tmp 4) (.tmp 32) rfl w.heap.size _ rfl rfl BZ2 (by kernel_rfl) (by simp [cellV]) (by simp [Value.oneCell']) ?_
                 intro W5 BR G5
                 obtain ⟨s0, s1', s2', s3, s4⟩ := cells5 BR)
    have hX := HX.out
    subst hX
    exact bodyPost_ret (v := cellA (false, 0, [], zag a, zag Q2.1)) (by simp [results, Tryz.results60, go_sem, s0, s1', s2', s3, s4, cellA, cellV, show bstr [] = ⟨#[]⟩ from rfl]) rfl ⟨rfl, s2.keep G5 (by omega) (by omega), grown_then G2 G5 (Nat.le_refl _)⟩

end Go.Proofs.YtflaaahcoglflaaGreat
/- The contract of hypostyleref09.Decode, of the types that are read cell by cell. -/

namespace Go.Proofs.YtflaaahcoglflaaGreat
open Go.RowKit Go.Hm
theorem RCurS.pushRow {w w' : World} {B g base sz n : Nat} {S : St} {e : TypeId} {v : Value} {xs : List Value} (h : RCurS w B g S) (o : w.ownsRow base e sz v n xs) (hB : B ≤ base) (hg : w.grownBy w' v.ownBlock) (he1 : e ≠ 61) : RCurS w' B g S := by
  cases hv : v.ownBlock with
  | none =>
    rw [hv] at hg
    exact h.below ((Turns.of_none (T := []) hg).new (by simp))
  | some g' =>
    obtain ⟨cs, hb⟩ := row_own o hv
    have hl := World.ownsRow.lt o g' hv
    rw [hv] at hg
    obtain ⟨cs2, hC⟩ := h.blk
    exact h.keep hg (by omega) (fun e' => by subst e'; exact Blk.ne_ hb hC he1 rfl)
set_option maxHeartbeats 1000000 in
set_option maxRecDepth 100000 in
theorem rpdecode_any {w : World} {A : Option Addr} {c m : Nat} {b : List Nat} {t : Int} {n : Nat} (h : Reads w w.heap.size 1 A m (nums .u8 b)) (h8 : ∀ x ∈ b, x < 256) (hc : m ≤ c) (hcm : c ≤ maxLen) (hm : m ≤ 140737488351232) (ht : t = 0 ∨ t = 2 ∨ t = 3) (hn : n ≤ 65536) :
    Calls Tryz.prog 50 #[.int .i64 t, .slice A m c, .int .i64 (n : Int)] w (PDec t b (n : Int) w) := by
  obtain rfl : m = b.length := h.len
  have RC := RCurS.new h hc hcm h8
  have hb0 : Below w.heap.size w (w.alloc (.cells #[.slice A b.length c, .bool false] 61)) := (Below.refl _ w).alloc (Nat.le_refl _) _
  have q1 : ¬ t < 0 := by omega
  have q2 : ¬ 3 < t := by omega
  have q3 : ¬ (65536 : Int) < (n : Int) := by omega
  have t1 : (t == 1) = false := beq_eq_false_iff_ne.2 (by omega)
  have H8 := Lib.hid h8
  have HT := Lib.hid ht
  clear h h8
  go_enter Tryz.func50, Tryz.ntmps50
  go_wp2_with fail
  go_loopw [8, 13] (fun v i wr => ∃ (k : Nat) (out : List CellS) (S : St) (AA : Option Addr) (cc : Nat), k ≤ n ∧ out.length = k ∧ i = .int .i64 (k : Int) ∧ v = .slice AA k cc ∧ wr.ownsRow w.heap.size 35 5 (.slice AA k cc) k (recs cellV out) ∧ RCurS wr w.heap.size w.heap.size S ∧ Below w.heap.size w wr ∧ Hid (rdL t n (some b) = (out ++ (rdL t (n - k) S).1, (rdL t (n - k) S).2)) ∧ Hid (∀ c ∈ out, cellData c)) (fun _ i _ => n - (intOf i).toNat)
  case atStart => exact ⟨0, [], some b, none, 0, Nat.zero_le _, rfl, rfl, rfl, by simpa [recs] using row_nil, RC, hb0, Lib.hid (by simp), Lib.hid (by simp)⟩
  case round =>
    obtain ⟨k, out, S, AA, cc, hk, hol, rfl, rfl, o, hs, hbl, hrd, hda⟩ := hrel
    have hz := hbl.size
    have hbad := hs.is
    have hb8 : St.ok (some b) := St.ok_some H8.out
    by_cases hgo : k < n ∧ S ≠ none
    · obtain ⟨hlt, hSn⟩ := hgo
      obtain ⟨s, rfl⟩ := Option.ne_none_iff_exists'.1 hSn
      have hok := hs.ok
      simp only [Option.isNone_some] at hbad
      have RD := Lib.hid (rone_any hs HT.out)
      have hdat := rd_data (t := t) hok
      have hst := hrd.out
      rw [show n - k = (n - (k + 1)) + 1 by omega, rdL] at hst
      dsimp only at hst
      obtain ⟨cs, hT⟩ := hs.blk
      have o' := o
      generalize rdC t (some s) = R at *
      obtain ⟨⟨y0, y1, y2, y3, y4⟩, S2⟩ := R
      dsimp only at *
      have HST := Lib.hid hst
      have HDT := Lib.hid hdat
      have HOL := Lib.hid hol
      have hlt' : (k : Int) < (n : Int) := by omega
      clear hst hdat hrd hSn hs hok hol
      go_wp2_with fail
      refine RD.out.mono ?_
      rintro e w3 ⟨rfl, s3, g3⟩
      rw [show cellA (y0, y1, y2, y3, y4) = .agg #[.bool y0, .int .i64 y1, .string (bstr y2), .int .i64 y3, .int .i64 y4] from rfl]
      have o3 := World.ownsRow.kept o' g3 (.inr (row_blk_ne o' hT (by decide)))
      have b3 : Below w.heap.size w w3 := hbl.grown g3 hz (fun k e => by injection e with e; omega)
      have hz3 := b3.size
      have S3 := Lib.hid s3
      clear hbad RD o o' g3 hbl s3 hT
      go_wp2_with (refine wpList_pushR elC9 rfl (.tmp 70) (.tmp 74) rfl (W := w) (B := w.heap.size) (base := w.heap.size) (n := k) o3 rfl rfl b3 (Nat.le_refl _) hz3 rfl (by simp [Value.oneCell']) (by omega) (by simp only [maxLen]; omega) ?_
                   intro A5 c5 w5 _ _ o5 g5 b5 _ _)
      have s5 := S3.out.pushRow o3 (Nat.le_refl _) g5 (by decide)
      go_roundw
      case rel => exact ⟨k + 1, out ++ [(y0, y1, y2, y3, y4)], S2, A5, c5, by omega, by rw [List.length_append, HOL.out]; rfl, by go_num, rfl, by rw [recs_append]; simpa [recs, cellV] using o5, s5, b5, Lib.hid (by rw [HST.out, List.append_assoc]; rfl), Lib.hid (fun c hc => by
          rcases List.mem_append.1 hc with hc | hc
          · exact hda.out c hc
          · rw [List.mem_singleton.1 hc]; exact HDT.out)⟩
      case measure => simp [intOf]; omega
    · have hfin : rdL t n (some b) = (out, S) := by
        rw [hrd.out]
        by_cases hkn : k < n
        · have : S = none := Classical.byContradiction fun e => hgo ⟨hkn, e⟩
          subst this
          rw [rdL_none, List.append_nil]
        · rw [show n - k = 0 by omega]
          simp [rdL]
      have hI := isPl_fin HT.out hn hb8 hfin hda.out
      have EN := Lib.hid (rendS_any hs)
      have AR := Lib.hid (rfine_any (t := t) (c := cc) (Reads.of_own o) (fun y hy => (hda.out y hy).1.1) (by omega))
      have hfe : plOk t out = (out.all fun c => rightB c t false) := by
        rw [Bool.eq_iff_iff, plOk_iff, List.all_eq_true]
        have := HT.out
        exact ⟨fun e => e.2, fun e => ⟨by omega, e⟩⟩
      rw [hfe] at AR
      have HI := Lib.hid hI
      clear hI hfin hrd hs hfe
      by_cases hkn : k < n
      · have hSn : S = none := Classical.byContradiction fun e => hgo ⟨hkn, e⟩
        subst hSn
        have hI := HI.out
        rw [if_neg (by simp)] at hI
        have HI := Lib.hid hI
        rw [show endS none = false from rfl] at EN
        simp only [Option.isNone_none] at hbad
        have hkn' : (k : Int) < (n : Int) := by omega
        clear hI hgo
        go_wp2_with fail
        refine EN.out.mono ?_
        rintro e w2 ⟨rfl, rfl⟩
        go_wp2_with fail
        refine AR.out.mono ?_
        rintro e w3 ⟨rfl, b3⟩
        go_wp2_with fail
        go_ret2
        exact ⟨none, HI.out, rfl, New.trans hbl b3⟩
      · obtain rfl : k = n := by omega
        clear hgo hbad
        go_wp2_with fail
        refine EN.out.mono ?_
        rintro e w2 ⟨rfl, rfl⟩
        go_wp2_with fail
        refine AR.out.mono ?_
        rintro e w3 ⟨rfl, b3⟩
        have o3 := row_later o b3
        have hl := New.trans hbl b3
        by_cases hS : S = some []
        · have hI := HI.out
          rw [show endS S = true from decide_eq_true hS]
          cases hall : (out.all fun c => rightB c t false) with
          | true =>
            rw [if_pos ⟨hS, hall⟩] at hI
            have HI := Lib.hid hI
            clear hI EN AR
            go_wp2_with fail
            go_ret2
            exact ⟨some out, HI.out, _, _, _, rfl, o3, hl⟩
          | false =>
            rw [if_neg (by rw [hall]; simp)] at hI
            have HI := Lib.hid hI
            clear hI EN AR
            go_wp2_with fail
            go_ret2
            exact ⟨none, HI.out, rfl, hl⟩
        · have hI := HI.out
          rw [if_neg (fun e => hS e.1)] at hI
          have HI := Lib.hid hI
          rw [show endS S = false from decide_eq_false hS]
          clear hI AR hS EN
          go_wp2_with fail
          go_ret2
          exact ⟨none, HI.out, rfl, hl⟩

end Go.Proofs.YtflaaahcoglflaaGreat
/- The contract of hypostyleref09.Decode, of every type. -/

namespace Go.Proofs.YtflaaahcoglflaaGreat
open Go.RowKit Go.Hm
set_option maxHeartbeats 1000000 in
set_option maxRecDepth 100000 in
theorem rpdecode1 {w : World} {A : Option Addr} {c m : Nat} {b : List Nat} {n : Nat} (h : Reads w w.heap.size 1 A m (nums .u8 b)) (h8 : ∀ x ∈ b, x < 256) (hm : m ≤ 140737488351232) (hn : n ≤ 65536) :
    Calls Tryz.prog 50 #[.int .i64 1, .slice A m c, .int .i64 (n : Int)] w (PDec 1 b (n : Int) w) := by
  obtain rfl : m = b.length := h.len
  have U := Lib.hid (runpack_any (c := c) 1 (n : Int) h h8 (by omega) (by omega) (by omega) (by omega) (by omega))
  have hpu := fun l => pack_unpack (l := l) (x := 1) (n := (n : Int)) h8
  have hI := isPl_bits (n := (n : Int)) h8
  have q3 : ¬ (65536 : Int) < (n : Int) := by omega
  clear h h8
  generalize unpackO b 1 (n : Int) = O at *
  cases O with
  | none =>
    have HI := Lib.hid hI
    clear hI hpu
    go_enter Tryz.func50, Tryz.ntmps50
    go_wp2_with fail
    refine U.out.mono ?_
    rintro e w1 ⟨rfl, b1⟩
    go_wp2_with fail
    refine wp_loop_rounds 1 ?_
    rw [rounds_succ]
    go_wp2_with fail
    go_ret2
    exact ⟨none, HI.out, rfl, b1⟩
  | some l =>
    obtain ⟨-, hlen, hw, hk, hf⟩ := hpu l rfl
    have h2 : ∀ x ∈ l, x < 2 := by
      have := (wid_iff l 1 (by omega) hk).1 (by omega)
      simpa using this
    have H2 := Lib.hid h2
    have HI := Lib.hid hI
    clear hpu hlen hw hk h2 hI
    go_enter Tryz.func50, Tryz.ntmps50
    go_wp2_with fail
    refine U.out.mono ?_
    rintro e w1 ⟨A1, n1, c1, rfl, k1, b1⟩
    obtain rfl : n1 = l.length := by have := k1.len; rwa [nums_length] at this
    have hz1 := b1.size
    have R1 := Lib.hid k1.reads
    clear U k1
    go_wp2_with fail
    go_loopw [8, 11] (fun v i wr => ∃ (k cc : Nat) (AA : Option Addr), k ≤ l.length ∧ i = .int .i64 (k : Int) ∧ v = .slice AA k cc ∧ wr.ownsRow w1.heap.size 35 5 (.slice AA k cc) k (recs cellV ((l.take k).map bitC)) ∧ New w1 wr) (fun _ i _ => l.length - (intOf i).toNat)
    case atStart => exact ⟨0, 0, none, Nat.zero_le _, rfl, rfl, by simpa [recs] using row_nil, New.refl _⟩
    case round =>
      obtain ⟨k, cc, AA, hk, rfl, rfl, o, hb⟩ := hrel
      by_cases hlt : k < l.length
      · obtain ⟨ax, rfl, hbx, qx⟩ := (Reads.later R1.out hb).num (i := k) hlt
        have hx2 := H2.out (l.getD k 0) (by rw [List.getD_eq_getElem?_getD, List.getElem?_eq_getElem hlt]; exact List.getElem_mem hlt)
        have htk := take_snoc l k 0 hlt
        generalize l.getD k 0 = x at *
        have hwr : IntKind.i64.wrap (x : Int) = (x : Int) := IntWalk.i64_in _ (by omega)
        have HT := Lib.hid htk
        have hz := hb.size
        clear htk
        go_wp2_with (refine wpList_pushR elC9 rfl (.tmp 44) (.tmp 51) rfl (W := w1) (B := w1.heap.size) (base := w1.heap.size) (n := k) o rfl rfl hb (Nat.le_refl _) hz rfl (by simp [Value.oneCell']) (by omega) (by simp only [maxLen]; omega) ?_
                     intro A5 c5 w5 _ _ o5 _ b5 _ _)
        go_roundw
        case rel => exact ⟨k + 1, c5, A5, by omega, by go_num, rfl, by rw [HT.out, List.map_append, recs_append]; simpa [recs, cellV, bitC, show bstr [] = ⟨#[]⟩ from rfl] using o5, b5⟩
        case measure => simp [intOf]; omega
      · obtain rfl : k = l.length := by omega
        rw [List.take_length] at o
        go_wp2_with fail
        go_ret2
        exact ⟨some (l.map bitC), HI.out, _, _, _, rfl, row_base o hz1, New.trans b1 hb⟩

end Go.Proofs.YtflaaahcoglflaaGreat
/- The contract of hypostyleref09.Decode, whatever type and number. -/

namespace Go.Proofs.YtflaaahcoglflaaGreat
open Go.RowKit Go.Hm
set_option maxHeartbeats 1000000 in
set_option maxRecDepth 100000 in
theorem rpdecode_all {w : World} {A : Option Addr} {c m : Nat} {b : List Nat} {t n : Int} (h : Reads w w.heap.size 1 A m (nums .u8 b)) (h8 : ∀ x ∈ b, x < 256) (hc : m ≤ c) (hcm : c ≤ maxLen) (hm : m ≤ 140737488351232) :
    Calls Tryz.prog 50 #[.int .i64 t, .slice A m c, .int .i64 n] w (PDec t b n w) := by
  by_cases hk : 0 ≤ t ∧ t ≤ 3 ∧ 0 ≤ n ∧ n ≤ 65536
  · obtain ⟨n, rfl⟩ := Int.eq_ofNat_of_zero_le hk.2.2.1
    by_cases h1 : t = 1
    · subst h1
      exact rpdecode1 h h8 hm (by omega)
    · exact rpdecode_any h h8 hc hcm hm (by omega) (by omega)
  · have HI := Lib.hid (isPl_no (b := b) hk)
    clear h h8 hc hcm
    by_cases q1 : t < 0
    all_goals try by_cases q2 : 3 < t
    all_goals try by_cases q3 : n < 0
    all_goals try (have q4 : 65536 < n := by omega)
    all_goals
      clear hk
      go_enter Tryz.func50, Tryz.ntmps50
      go_wp2
      go_ret2
      exact ⟨none, HI.out, rfl, New.refl _⟩

end Go.Proofs.YtflaaahcoglflaaGreat
/- The contract of hypostyleref15.Get. -/

namespace Go.Proofs.YtflaaahcoglflaaGreat
open Go.RowKit Go.Hm
theorem plD_len {t : Int} {b : List Nat} {l : List CellS} (h : plD t b 2 = some l) : b ≠ [] ∧ b.length ≤ 131112 ∧ ∃ p q, l = [p, q] := by
  obtain ⟨-, hl, h3⟩ := plD_some h
  obtain ⟨h4, h5⟩ := plO_iff.1 h3
  obtain ⟨⟨h6, h7, -⟩, h8⟩ := plOk_iff.1 h4
  match l, hl with
  | [p, q], _ =>
    have hp := h8 p (by simp)
    have hq := h8 q (by simp)
    have a := plE_len hp
    have b' := plE_len hq
    have ta : p.2.2.1.length ≤ 65536 := right_text hp
    have tb : q.2.2.1.length ≤ 65536 := right_text hq
    refine ⟨?_, ?_, p, q, rfl⟩
    · rw [← h5]
      unfold plB
      split
      · intro e
        have := congrArg List.length e
        rw [low_len] at this
        simp at this
      · intro e
        simp only [List.flatMap_cons, List.flatMap_nil, List.append_nil, List.append_eq_nil_iff] at e
        have e1 := congrArg List.length e.1
        unfold plE at e1
        split at e1
        · rw [low_len] at e1; simp at e1
        · split at e1
          · have := vp_pos p.2.2.1.length
            simp only [List.length_append, List.length_nil] at e1
            omega
          · split at e1
            · have := vp_pos (zig p.2.2.2.1)
              simp only [List.length_append, List.length_nil] at e1
              omega
            · omega
    · rw [← h5]
      unfold plB
      split
      · rw [low_len]; simp
      · simp only [List.flatMap_cons, List.flatMap_nil, List.append_nil, List.length_append]
        omega
theorem plD_nil {t : Int} : plD t [] 2 = none := by
  cases h : plD t [] 2 with
  | none => rfl
  | some l => exact absurd rfl (plD_len h).1
/-- Two ends that are read with another most are the same. -/
theorem ends_same {t : Int} {S : St} (hS : S.ok) (hlS : (S.getD []).length ≤ 140737488351232) :
    (∃ p q r, plD t (takeS ((lenS 262144 S).1 : Int) (lenS 262144 S).2).1 2 = some [p, q] ∧ (takeS ((lenS 262144 S).1 : Int) (lenS 262144 S).2).2 = some r ∧ endsS t S = ((p, q), some r))
    ∨ (plD t (takeS ((lenS 262144 S).1 : Int) (lenS 262144 S).2).1 2 = none ∧ endsS t S = ((cell0, cell0), none)) := by
  have key : takeS ((lenS 262144 S).1 : Int) (lenS 262144 S).2 = takeS ((lenS ((S.getD []).length : Int) S).1 : Int) (lenS ((S.getD []).length : Int) S).2
      ∨ (plD t (takeS ((lenS 262144 S).1 : Int) (lenS 262144 S).2).1 2 = none ∧ plD t (takeS ((lenS ((S.getD []).length : Int) S).1 : Int) (lenS ((S.getD []).length : Int) S).2).1 2 = none) := by
    have hno : (takeS ((0 : Nat) : Int) none).1 = [] := rfl
    rcases lenS_cases 262144 S hS with h | ⟨N, r, rfl, h1, h2, h⟩
    · rcases lenS_cases ((S.getD []).length : Int) S hS with k | ⟨M, r', rfl, k1, k2, k⟩
      · left; rw [h, k]
      · right
        rw [h, k, hno]
        refine ⟨plD_nil, ?_⟩
        rcases takeS_cases (M : Int) (some r') with e | ⟨l, e1, e2, e3, e⟩
        · rw [e]; exact plD_nil
        · rw [e]
          injection e1 with e1
          subst e1
          cases hp : plD t (r'.take (M : Int).toNat) 2 with
          | none => rfl
          | some l =>
            have := (plD_len hp).2.1
            rw [List.length_take, Int.toNat_natCast] at this
            have hM : (M : Int) ≤ 262144 := by omega
            rw [lenS_app M r' hM (by omega)] at h
            cases h
    · by_cases hl : (N : Int) ≤ (((some (vp N ++ r) : St).getD []).length : Int)
      · left
        rw [h, lenS_app N r hl (by have := hl; simp only [Option.getD_some] at *; omega)]
      · right
        have e1 : (takeS (N : Int) (some r)).1 = [] := by
          rcases takeS_cases (N : Int) (some r) with e | ⟨l, e1, e2, e3, e⟩
          · rw [e]
          · injection e1 with e1
            subst e1
            simp only [Option.getD_some, List.length_append] at hl
            omega
        rcases lenS_cases (((some (vp N ++ r) : St).getD []).length : Int) (some (vp N ++ r)) hS with k | ⟨M, r', e, k1, k2, k⟩
        · rw [h, k, hno]
          refine ⟨?_, plD_nil⟩
          dsimp only
          rw [e1]; exact plD_nil
        · exfalso
          injection e with e
          rw [lenS_app N r h1 (by omega)] at h
          have h9 : lenS 262144 (some (vp M ++ r')) = (N, some r) := by rw [← e]; exact lenS_app N r h1 (by omega)
          by_cases hM : (M : Int) ≤ 262144
          · rw [lenS_app M r' hM (by omega)] at h9
            injection h9 with h9 _
            omega
          · omega
  rcases key with e | ⟨e1, e2⟩
  · rw [e]
    unfold endsS
    cases hp : plD t (takeS ((lenS ((S.getD []).length : Int) S).1 : Int) (lenS ((S.getD []).length : Int) S).2).1 2 with
    | none => right; exact ⟨rfl, rfl⟩
    | some l =>
      obtain ⟨hn, _, p, q, rfl⟩ := plD_len hp
      left
      cases hr : (takeS ((lenS ((S.getD []).length : Int) S).1 : Int) (lenS ((S.getD []).length : Int) S).2).2 with
      | none =>
        exfalso
        rcases takeS_cases ((lenS ((S.getD []).length : Int) S).1 : Int) (lenS ((S.getD []).length : Int) S).2 with k | ⟨l, _, _, _, k⟩
        · rw [k] at hn; exact hn rfl
        · rw [k] at hr; cases hr
      | some r => exact ⟨p, q, r, rfl, rfl, rfl⟩
  · right
    refine ⟨e1, ?_⟩
    unfold endsS
    rw [e2]
def RSGet (s : StatS) (B g : Nat) (S : St) (w : World) (e : Ending) (w' : World) : Prop := e = .returned (statA s) ∧ RCurS w' B g S ∧ w.grownBy w' (some g)

end Go.Proofs.YtflaaahcoglflaaGreat
/- The contract of hypostyleref15.Get, walked. -/

namespace Go.Proofs.YtflaaahcoglflaaGreat
open Go.RowKit Go.Hm
set_option maxHeartbeats 4000000 in
set_option maxRecDepth 100000 in
theorem rstget_any {w : World} {B g : Nat} {S : St} {t : Int} (h : RCurS w B g S) (hl : (S.getD []).length ≤ 140737488351232) :
    Calls Tryz.prog 40 #[.pointer (some ⟨g, 0, none⟩), .int .i64 t] w (RSGet (getA t S).1 B g (getA t S).2 w) := by
  obtain ⟨X, hX⟩ : ∃ X, X = getA t S := ⟨_, rfl⟩
  rw [← hX]
  unfold getA rawS at hX
  have hle := lenS_le (m := 65536) S (by omega) h.ok
  have hok1 := lenS_ok (m := 65536) h.ok
  have hsub := lenS_sub (m := 65536) h.ok
  have hlt := h.lt
  have hge := h.ge
  have ha : New w ((w.alloc (.cells (statV stat0).toArray 37)).alloc (.cells (statV stat0).toArray 37)) := ((Below.refl _ _).alloc (Nat.le_refl _) _).alloc (by simp) _
  have h0 := h.below ha
  have L1 := Lib.hid (rlenS_any (m := 65536) h0 (by omega) (by omega))
  have BZ0 : Blk ((w.alloc (.cells (statV stat0).toArray 37)).alloc (.cells (statV stat0).toArray 37)) w.heap.size 37 (statV stat0).toArray := (Blk.new _ _ _).alloc _
  have BT0 : Blk ((w.alloc (.cells (statV stat0).toArray 37)).alloc (.cells (statV stat0).toArray 37)) (w.heap.size + 1) 37 (statV stat0).toArray := by
    have := Blk.new (w.alloc (.cells (statV stat0).toArray 37)) 37 (statV stat0).toArray
    rwa [World.size_alloc] at this
  generalize lenS 65536 S = H at *
  obtain ⟨n, S1⟩ := H
  dsimp only at *
  have hsub2 := byteS_sub (S := S1)
  have hbl := byteS_lt hok1
  have hok2 := byteS_ok hok1
  have HX := Lib.hid hX
  clear h hX
  go_enter Tryz.func40, Tryz.ntmps40
  go_wp2_with fail
  refine L1.out.mono ?_
  rintro e w1 ⟨rfl, s1, g1⟩
  have hz1 := g1.size
  simp only [World.size_alloc] at hz1
  have BZ1 := BZ0.grown g1 (by intro e; injection e with e; omega)
  have BT1 := BT0.grown g1 (by intro e; injection e with e; omega)
  have G1 := (Far.of_new ha (g := g)).trans g1
  obtain ⟨x0, x1, x2, x3, x4, x5, x6, x7, x8, x9, x10, x11⟩ := cells12 BT1
  have f0 := BT1.frozen 0
  have gS : w1.grownBy (w1.setCell ⟨w.heap.size + 1, 0, none⟩ (.int .i64 (n : Int))) (some (w.heap.size + 1)) := setCell_grown
  have hzS : w1.heap.size ≤ (w1.setCell ⟨w.heap.size + 1, 0, none⟩ (.int .i64 (n : Int))).heap.size := gS.size
  have s1 := s1.keep gS (by omega) (by omega)
  have BT2 := BT1.set_ 0 (.int .i64 (n : Int))
  simp only [statV, stat0, cellV, cell0, List.cons_append, List.nil_append, List.setIfInBounds_toArray, List.set_cons_zero] at BT2
  have BZ2 := BZ1.grown gS (by intro e; injection e with e; omega)
  have G2 := grown_then G1 gS (by omega)
  have C2 := Lib.hid (rbyteS_any s1)
  clear L1 h0 BZ0 BT0 g1 ha G1 BZ1 BT1 gS
  generalize byteS S1 = Bq at *
  obtain ⟨y, S2⟩ := Bq
  dsimp only at *
  go_wp2_with fail
  refine C2.out.mono ?_
  rintro e w2 ⟨rfl, s2, g2⟩
  have hz2 := g2.size
  have BZ3 := BZ2.grown g2 (by intro e; injection e with e; omega)
  have BT3 := BT2.grown g2 (by intro e; injection e with e; omega)
  have G3 := G2.trans g2
  clear C2 BZ2 BT2 G2 g2 x0 x1 x2 x3 x4 x5 x6 x7 x8 x9 x10 x11 f0 s1
  obtain ⟨x0, x1, x2, x3, x4, x5, x6, x7, x8, x9, x10, x11⟩ := cells12 BT3
  have f1 := BT3.frozen 1
  by_cases hy : y = 1
  · subst hy
    have y1 : (((1 : Nat) : Int) == 1) = true := rfl
    have gS : w2.grownBy (w2.setCell ⟨w.heap.size + 1, 1, none⟩ (.bool true)) (some (w.heap.size + 1)) := setCell_grown
    have hzS2 : w2.heap.size ≤ (w2.setCell ⟨w.heap.size + 1, 1, none⟩ (.bool true)).heap.size := gS.size
    have s3 := s2.keep gS (by omega) (by omega)
    have BT4 := BT3.set_ 1 (.bool true)
    simp only [List.setIfInBounds_toArray, List.set_cons_zero, List.set_cons_succ] at BT4
    have BZ4 := BZ3.grown gS (by intro e; injection e with e; omega)
    have G4 := grown_then G3 gS (by omega)
    have L2 := Lib.hid (rlenS_any (m := 262144) s3 (by omega) (by omega))
    have hE := ends_same (t := t) hok2 (by omega)
    have hle3 := lenS_le (m := 262144) S2 (by omega) hok2
    have hok3 := lenS_ok (m := 262144) hok2
    clear BZ3 BT3 G3 gS
    generalize lenS 262144 S2 = H3 at *
    obtain ⟨m, S3⟩ := H3
    dsimp only at *
    have htl := takeS_len (n := (m : Int)) (S := S3) (by omega)
    have htk := takeS_ok (n := (m : Int)) hok3
    go_wp2_with fail
    refine L2.out.mono ?_
    rintro e w3 ⟨rfl, s4, g4⟩
    have hz4 := g4.size
    have BZ5 := BZ4.grown g4 (by intro e; injection e with e; omega)
    have BT5 := BT4.grown g4 (by intro e; injection e with e; omega)
    have G5 := G4.trans g4
    have T1 := Lib.hid (rtakeS_any (n := (m : Int)) s4 (by omega) (by omega))
    clear L2 BZ4 BT4 G4 g4 s3 s4 x0 x1 x2 x3 x4 x5 x6 x7 x8 x9 x10 x11 f1
    generalize takeS (m : Int) S3 = Q at *
    obtain ⟨x, S4⟩ := Q
    dsimp only at *
    go_wp2_with fail
    refine T1.out.mono ?_
    rintro e w4 ⟨A2, n2, c2, rfl, rfl, o2, s4, g4⟩
    have hz5 := g4.size
    have BZ6 := BZ5.grown g4 (by intro e; injection e with e; omega)
    have BT6 := BT5.grown g4 (by intro e; injection e with e; omega)
    have G6 := G5.trans g4
    have PD := Lib.hid (rpdecode_all (t := t) (n := 2) o2.reads htk.2 o2.cap.1 o2.cap.2 (by omega))
    clear T1 BZ5 BT5 G5 g4 o2
    go_wp2_with fail
    refine PD.out.mono ?_
    rintro e w5 ⟨o, ho, h3⟩
    have ho := isPl_is ho
    rw [← ho] at hE
    cases o with
    | none =>
      obtain ⟨rfl, b5⟩ := h3
      have hz6 := b5.size
      have hEn : endsS t S2 = ((cell0, cell0), none) := by
        rcases hE with ⟨p, q, r, e, _⟩ | ⟨_, e⟩
        · cases e
        · exact e
      have hX := HX.out
      simp only [if_true] at hX
      rw [hEn] at hX
      dsimp only at hX
      rw [if_neg (by simp)] at hX
      clear HX
      have HX := Lib.hid hX
      have BZ7 := BZ6.below b5 BZ6.lt
      have G7 := G6.trans (Far.of_new b5)
      have s7 := s4.below b5
      have is7 := s7.is
      clear PD BZ6 BT6 G6 b5 s4 ho hX hE hEn
      generalize S4.isNone = bI at *
      cases bI
      all_goals
        have F := Lib.hid (rfailS s7)
        go_wp2_with fail
        refine F.out.mono ?_
        rintro e w8 ⟨rfl, s8, g8⟩
        have hz8 := g8.size
        have BZ := BZ7.grown g8 (by intro e; injection e with e; omega)
        have GG := Lib.hid (G7.trans g8)
        have HS := Lib.hid s8
        clear F g8 s8
        go_wp2_with (refine wpList_storeG rfl 37 (.tmp 4) (.tmp 41) rfl w.heap.size _ rfl rfl BZ (by kernel_rfl) (by simp [statV, stat0, cellV]) (by simp [Value.oneCell']) ?_
                     intro W9 BR G9
                     obtain ⟨s0, s1, s2, s3, s4, s5, s6, s7, s8, s9, s10, s11⟩ := cells12 BR)
        have hX := HX.out
        subst hX
        exact bodyPost_ret (v := statA stat0) (by simp [results, Tryz.results40, go_sem, s0, s1, s2, s3, s4, s5, s6, s7, s8, s9, s10, s11, statA, statV, cellV, stat0, cell0, show bstr [] = ⟨#[]⟩ from rfl]) rfl ⟨rfl, HS.out.keep G9 (by omega) (by omega), grown_then GG.out G9 (Nat.le_refl _)⟩
    | some l =>
      obtain ⟨A3, n3, c3, rfl, o3, b5⟩ := h3
      have hz6 := b5.size
      obtain ⟨p, q, r, e1, e2, hEn⟩ : ∃ p q r, l = [p, q] ∧ S4 = some r ∧ endsS t S2 = ((p, q), some r) := by
        rcases hE with ⟨p, q, r, e, e2, e3⟩ | ⟨e, _⟩
        · injection e with e
          exact ⟨p, q, r, e, e2, e3⟩
        · cases e
      subst e1 e2
      have HD := endsS_data t S2
      have hX := HX.out
      simp only [if_true] at hX
      rw [hEn] at hX
      rw [hEn] at HD
      dsimp only at hX HD
      clear HX ho hE hEn
      have r3 := Reads.of_own o3
      obtain rfl : n3 = 2 := by have := r3.lenCell; simpa using this
      obtain ⟨ad, rfl, hb, -⟩ := r3.cell5 (i := 0) (by omega)
      have SR := fun (W : World) => rsright_any (w := W) (t := t) (s := ((n : Int), true, p, q)) ⟨HD.1.1, HD.2.1⟩
      have HF := Lib.hid (fun (W : World) (hW : Turns [w.heap.size + 1] w5 W) => row2_cells (row_touch o3 hW (by simp; omega)))
      obtain ⟨p0, p1, p2, p3, p4⟩ := p
      obtain ⟨q0, q1, q2, q3, q4⟩ := q
      dsimp only at HF
      generalize rightS t ((n : Int), true, (p0, p1, p2, p3, p4), (q0, q1, q2, q3, q4)) = R at *
      have SR : Hid (∀ W, Calls Tryz.prog 51 #[.int .i64 t, .agg #[.int .i64 (n : Int), .bool true, .bool p0, .int .i64 p1, .string (bstr p2), .int .i64 p3, .int .i64 p4, .bool q0, .int .i64 q1, .string (bstr q2), .int .i64 q3, .int .i64 q4]] W (NewPost (.bool R) W)) := Lib.hid SR
      have HX := Lib.hid hX
      have BZ7 := BZ6.below b5 BZ6.lt
      have BT7 := BT6.below b5 BT6.lt
      have G7 := G6.trans (Far.of_new b5)
      have s7 := s4.below b5
      have is7 := s7.is
      obtain ⟨⟨d0, d1, d2, d3, d4⟩, -⟩ := HF.out w5 (Turns.refl _ _)
      clear PD BZ6 BT6 G6 b5 s4 hX HD o3 r3
      simp only [Option.isNone_some] at is7
      go_wp2_with (first
        | (refine wpList_store5G rfl 35 (.tmp 45) (.tmp 44) rfl (w.heap.size + 1) 2 rfl rfl BT7 (by simp) (by kernel_rfl) (by simp [Value.oneCell']) ?_
           intro W5 BT8 G8
           simp only [List.setIfInBounds_toArray, List.set_cons_zero, List.set_cons_succ] at BT8
           obtain ⟨-, d5, d6, d7, d8, d9⟩ := HF.out W5 (Turns.of_far G8 (by simp)))
        | (refine wpList_store5G rfl 35 (.tmp 49) (.tmp 48) rfl (w.heap.size + 1) 7 rfl rfl BT8 (by simp) (by kernel_rfl) (by simp [Value.oneCell']) ?_
           intro W6 BT9 G9
           simp only [List.setIfInBounds_toArray, List.set_cons_zero, List.set_cons_succ] at BT9
           have hz7 := G8.size
           have hz8 := G9.size
           have s9 := (s7.keep G8 (by omega) (by omega)).keep G9 (by omega) (by omega)
           have BZ9 := (BZ7.grown G8 (by intro e; injection e with e; omega)).grown G9 (by intro e; injection e with e; omega)
           have GG9 := grown_then (grown_then G7 G8 (by omega)) G9 (by omega)
           clear BT7 BT8 G8 G9 s7 BZ7 G7 is7 d0 d1 d2 d3 d4 d5 d6 d7 d8 d9
           obtain ⟨z0, z1, z2, z3, z4, z5, z6, z7, z8, z9, z10, z11⟩ := cells12 BT9))
      refine (SR.out _).mono ?_
      rintro e w7 ⟨rfl, b7⟩
      have hz9 := b7.size
      have BZ10 := BZ9.below b7 BZ9.lt
      have BT10 := BT9.below b7 BT9.lt
      have G10 := GG9.trans (Far.of_new b7)
      have s10 := s9.below b7
      have is10 := s10.is
      simp only [Option.isNone_some] at is10
      have t1 : decide ((1 : Int) < ((1 : Nat) : Int)) = false := by simp
      clear BZ9 BT9 GG9 b7 s9 SR z0 z1 z2 z3 z4 z5 z6 z7 z8 z9 z10 z11
      obtain ⟨z0, z1, z2, z3, z4, z5, z6, z7, z8, z9, z10, z11⟩ := cells12 BT10
      have hX := HX.out
      clear HX
      cases R with
      | false =>
        rw [if_neg (by simp)] at hX
        have HX := Lib.hid hX
        clear hX
        have F := Lib.hid (rfailS s10)
        go_wp2_with fail
        refine F.out.mono ?_
        rintro e w8 ⟨rfl, s8, g8⟩
        have hz8 := g8.size
        have BZ := BZ10.grown g8 (by intro e; injection e with e; omega)
        have GG := Lib.hid (G10.trans g8)
        have HS := Lib.hid s8
        clear F g8 s8
        go_wp2_with (refine wpList_storeG rfl 37 (.tmp 4) (.tmp 67) rfl w.heap.size _ rfl rfl BZ (by kernel_rfl) (by simp [statV, stat0, cellV]) (by simp [Value.oneCell']) ?_
                     intro W9 BR G9
                     obtain ⟨s0, s1, s2, s3, s4, s5, s6, s7, s8, s9, s10, s11⟩ := cells12 BR)
        have hX := HX.out
        subst hX
        exact bodyPost_ret (v := statA stat0) (by simp [results, Tryz.results40, go_sem, s0, s1, s2, s3, s4, s5, s6, s7, s8, s9, s10, s11, statA, statV, cellV, stat0, cell0, show bstr [] = ⟨#[]⟩ from rfl]) rfl ⟨rfl, HS.out.keep G9 (by omega) (by omega), grown_then GG.out G9 (Nat.le_refl _)⟩
      | true =>
        rw [if_pos ⟨by omega, by simp, by trivial⟩] at hX
        have HX := Lib.hid hX
        have GG := Lib.hid G10
        have HS := Lib.hid s10
        clear hX
        go_wp2_with (refine wpList_storeG rfl 37 (.tmp 4) (.tmp 68) rfl w.heap.size _ rfl rfl BZ10 (by kernel_rfl) (by simp [statV, stat0, cellV]) (by simp [Value.oneCell']) ?_
                     intro W9 BR G9
                     obtain ⟨s0, s1, s2, s3, s4, s5, s6, s70, s8, s9, s11, s12⟩ := cells12 BR)
        have hX := HX.out
        subst hX
        exact bodyPost_ret (v := statA ((n : Int), true, (p0, p1, p2, p3, p4), (q0, q1, q2, q3, q4))) (by simp [results, Tryz.results40, go_sem, s0, s1, s2, s3, s4, s5, s6, s70, s8, s9, s11, s12, statA, statV, cellV]) rfl ⟨rfl, HS.out.keep G9 (by omega) (by omega), grown_then GG.out G9 (Nat.le_refl _)⟩
  · have y1 : ((y : Int) == 1) = false := beq_eq_false_iff_ne.2 (by omega)
    have gS : w2.grownBy (w2.setCell ⟨w.heap.size + 1, 1, none⟩ (.bool false)) (some (w.heap.size + 1)) := setCell_grown
    have hzS2 : w2.heap.size ≤ (w2.setCell ⟨w.heap.size + 1, 1, none⟩ (.bool false)).heap.size := gS.size
    have s3 := s2.keep gS (by omega) (by omega)
    have BT4 := BT3.set_ 1 (.bool false)
    simp only [List.setIfInBounds_toArray, List.set_cons_zero, List.set_cons_succ] at BT4
    have BZ4 := BZ3.grown gS (by intro e; injection e with e; omega)
    have G4 := grown_then G3 gS (by omega)
    have SR := fun (W : World) => rsright_any (w := W) (t := t) (s := ((n : Int), false, cell0, cell0)) (by unfold statFine cell0; simp)
    have hX := HX.out
    rw [if_neg hy] at hX
    dsimp only at hX
    generalize rightS t ((n : Int), false, cell0, cell0) = R at *
    have SR : Hid (∀ W, Calls Tryz.prog 51 #[.int .i64 t, .agg #[.int .i64 (n : Int), .bool false, .bool false, .int .i64 0, .string ⟨#[]⟩, .int .i64 0, .int .i64 0, .bool false, .int .i64 0, .string ⟨#[]⟩, .int .i64 0, .int .i64 0]] W (NewPost (.bool R) W)) := Lib.hid SR
    clear HX BZ3 BT3 G3 gS s2
    have HX := Lib.hid hX
    clear hX
    go_wp2_with fail
    refine (SR.out _).mono ?_
    rintro e w7 ⟨rfl, b7⟩
    have hz9 := b7.size
    have BZ10 := BZ4.below b7 BZ4.lt
    have BT10 := BT4.below b7 BT4.lt
    have G10 := G4.trans (Far.of_new b7)
    have s10 := s3.below b7
    have is10 := s10.is
    clear BZ4 BT4 G4 b7 s3 SR x0 x1 x2 x3 x4 x5 x6 x7 x8 x9 x10 x11 f1
    obtain ⟨z0, z1, z2, z3, z4, z5, z6, z7, z8, z9, z10, z11⟩ := cells12 BT10
    by_cases hgo : y ≤ 1 ∧ S2 ≠ none ∧ R = true
    · obtain ⟨hy1, hS2, rfl⟩ := hgo
      obtain rfl : y = 0 := by omega
      cases S2 with
      | none => exact absurd rfl hS2
      | some S2 =>
        have hX := HX.out
        rw [if_pos ⟨by omega, by simp, by trivial⟩] at hX
        have t1 : decide ((1 : Int) < ((0 : Nat) : Int)) = false := by simp
        simp only [Option.isNone_some] at is10
        clear HX
        have HX := Lib.hid hX
        have GG := Lib.hid G10
        have HS := Lib.hid s10
        clear hX
        go_wp2_with (refine wpList_storeG rfl 37 (.tmp 4) (.tmp 68) rfl w.heap.size _ rfl rfl BZ10 (by kernel_rfl) (by simp [statV, stat0, cellV]) (by simp [Value.oneCell']) ?_
                     intro W9 BR G9
                     obtain ⟨s0, s1, s2, s3, s4, s5, s6, s70, s8, s9, s11, s12⟩ := cells12 BR)
        have hX := HX.out
        subst hX
        exact bodyPost_ret (v := statA ((n : Int), false, cell0, cell0)) (by simp [results, Tryz.results40, go_sem, s0, s1, s2, s3, s4, s5, s6, s70, s8, s9, s11, s12, statA, statV, cellV, cell0, show bstr [] = ⟨#[]⟩ from rfl]) rfl ⟨rfl, HS.out.keep G9 (by omega) (by omega), grown_then GG.out G9 (Nat.le_refl _)⟩
    · have hX := HX.out
      rw [if_neg hgo] at hX
      clear HX
      have HX := Lib.hid hX
      clear hX
      have hN : S2.isNone = true ∨ decide ((1 : Int) < (y : Int)) = true ∨ R = false := by
        by_cases a : S2 = none
        · exact .inl (by rw [a]; rfl)
        · by_cases b : y ≤ 1
          · exact .inr (.inr (by cases R <;> simp_all))
          · exact .inr (.inl (by simp; omega))
      clear hgo
      generalize S2.isNone = bI at *
      generalize tY : decide ((1 : Int) < (y : Int)) = bY at *
      cases bI <;> cases bY <;> cases R
      all_goals first
        | (exfalso; simp at hN; done)
        | skip
      all_goals
        clear hN
        have F := Lib.hid (rfailS s10)
        go_wp2_with fail
        refine F.out.mono ?_
        rintro e w8 ⟨rfl, s8, g8⟩
        have hz8 := g8.size
        have BZ := BZ10.grown g8 (by intro e; injection e with e; omega)
        have GG := Lib.hid (G10.trans g8)
        have HS := Lib.hid s8
        clear F g8 s8
        go_wp2_with (refine wpList_storeG rfl 37 (.tmp 4) (.tmp 67) rfl w.heap.size _ rfl rfl BZ (by kernel_rfl) (by simp [statV, stat0, cellV]) (by simp [Value.oneCell']) ?_
                     intro W9 BR G9
                     obtain ⟨s0, s1, s2, s3, s4, s5, s6, s7, s8, s9, s10, s11⟩ := cells12 BR)
        have hX := HX.out
        subst hX
        exact bodyPost_ret (v := statA stat0) (by simp [results, Tryz.results40, go_sem, s0, s1, s2, s3, s4, s5, s6, s7, s8, s9, s10, s11, statA, statV, cellV, stat0, cell0, show bstr [] = ⟨#[]⟩ from rfl]) rfl ⟨rfl, HS.out.keep G9 (by omega) (by omega), grown_then GG.out G9 (Nat.le_refl _)⟩

end Go.Proofs.YtflaaahcoglflaaGreat
/- Contract of the answer's Get. -/

namespace Go.Hm
theorem colS_none : (colS none).2 = none := rfl
theorem colsS_none : ∀ n, (colsS n none).2 = none
  | 0 => rfl
  | n + 1 => by rw [colsS]; simp only; rw [colS_none]; exact colsS_none n
theorem colsS_more (k : Nat) (S : St) (h : (colsS k S).2 = none) : ∀ m, (colsS (k + m) S).2 = none := by
  intro m
  induction m with
  | zero => exact h
  | succ m ih =>
    rw [← Nat.add_assoc, (colsS_snoc (k + m) S).2, ih, colS_none]

end Go.Hm

namespace Go.Proofs.YtflaaahcoglflaaGreat
open Go.RowKit Go.Hm

def RColsPost (l : List ColS) (B g : Nat) (S : St) (w : World) (e : Ending) (w' : World) : Prop := ∃ A n c, e = .returned (.slice A n c) ∧ n ≤ c ∧ w'.ownsRow w.heap.size 39 3 (.slice A n c) n (recs colV l) ∧ RCurS w' B g S ∧ w.grownBy w' (some g)
theorem row_kept_cur {w w' : World} {base g : Nat} {e : TypeId} {sz n : Nat} {v : Value} {xs : List Value} (h : w.ownsRow base e sz v n xs) (hg : w.grownBy w' (some g)) (hlt : g < base) : w'.ownsRow base e sz v n xs :=
  World.ownsRow.kept h hg (.inr (fun e => by have := (World.ownsRow.lt h _ e).1; omega))

theorem grown_below2 {w w1 w2 : World} {row : Option Nat} (h : w.grownBy w1 row) (k : Below w.heap.size w1 w2) : w.grownBy w2 row :=
  ⟨k.os.trans h.os, k.tape.trans h.tape, k.output.trans h.output, Nat.le_trans h.size k.size, fun i hi hne => (k.block i hi).trans (h.block i hi hne)⟩
theorem rcur_push {w w' : World} {B base g : Nat} {S : St} {e : TypeId} {sz n : Nat} {v : Value} {xs : List Value} (h : RCurS w B g S) (o : w.ownsRow base e sz v n xs) (hg : w.grownBy w' v.ownBlock) (hlt : g < base) : RCurS w' B g S := by
  cases hv : v.ownBlock with
  | none =>
    rw [hv] at hg
    exact h.below ((Turns.of_none (T := []) hg).new (by simp))
  | some g' =>
    have h1 := World.ownsRow.lt o g' hv
    have h2 := h.ge
    rw [hv] at hg
    exact h.keep hg (by omega) (by omega)

set_option maxHeartbeats 1000000 in
set_option maxRecDepth 100000 in
theorem rsget_any {w : World} {B g : Nat} {S : St} (h : RCurS w B g S) : Calls Tryz.prog 18 #[.pointer (some ⟨g, 0, none⟩)] w (RColsPost (getC S).1 B g (getC S).2 w) := by
  have hok := h.ok
  have hg := h.lt
  have hBg := h.ge
  have P1 := Lib.hid (rlenS_any (m := 64) h (by omega) (by omega))
  have hl := lenS_le (m := 64) S (by omega) hok
  have ok1 := lenS_ok (m := 64) hok
  generalize hR : getC S = R at *
  unfold getC at hR
  generalize lenS 64 S = R1 at *
  obtain ⟨n, S1⟩ := R1
  simp only at hl ok1 hR P1
  have HR := Lib.hid hR
  clear hR h hok
  go_enter Tryz.func18, Tryz.ntmps18
  go_wp2_with fail
  refine P1.out.mono ?_
  rintro e w1 ⟨rfl, C1, G1⟩
  clear P1
  go_wp2
  go_loopw [4, 5] (fun v i wr => ∃ (k : Nat) (A : Option Addr) (c : Nat), i = .int .i64 (k : Int) ∧ k ≤ n ∧ v = .slice A k c ∧ RCurS wr B g (colsS k S1).2 ∧ wr.ownsRow w.heap.size 39 3 (.slice A k c) k (recs colV (colsS k S1).1) ∧ w.grownBy wr (some g)) (fun _ i _ => n - (intOf i).toNat)
  case atStart => exact ⟨0, none, 0, rfl, by omega, rfl, C1, row_nil, G1⟩
  case round =>
    obtain ⟨k, A3, c3, rfl, hk, rfl, C3, o3, G3⟩ := hrel
    have x1 := C3.is
    have hfinish : ∀ (L : List ColS) (S5 : St), colsS k S1 = (L, S5) → (S5 = none ∨ k = n) → R = (if S5 = none ∨ ¬ colsCk L = 0 then ([], none) else (L, S5)) := fun L S5 he hs => by
      rw [← HR.out]
      rcases hs with rfl | rfl
      · have h1 := colsS_more k S1 (by rw [he]) (n - k)
        rw [show k + (n - k) = n by omega] at h1
        rw [if_pos (.inl h1), if_pos (.inl rfl)]
      · rw [he]
    have hlen := colsS_len k S1
    have hfin := colsS_fine k ok1
    obtain ⟨q1, q2⟩ := colsS_snoc k S1
    have okk := colsS_ok k ok1
    generalize hck : colsS k S1 = R5 at *
    obtain ⟨L, S5⟩ := R5
    simp only at C3 x1 hlen hfin q1 q2 okk o3
    by_cases hgo : k < n ∧ ¬ S5 = none
    · obtain ⟨hlt, hs5⟩ := hgo
      obtain ⟨l5, rfl⟩ : ∃ l5, S5 = some l5 := by
        cases S5 with
        | none => exact absurd rfl hs5
        | some l5 => exact ⟨l5, rfl⟩
      have HQ1 := Lib.hid q1
      have HQ2 := Lib.hid q2
      clear q1 q2 hfinish hck hs5 hfin
      have P1 := Lib.hid (rlenS_any (m := 100) C3 (by omega) (by omega))
      have hl1 := lenS_le (m := 100) (some l5) (by omega) okk
      have ok1 := lenS_ok (m := 100) okk
      generalize hS : colS (some l5) = R4 at *
      unfold colS at hS
      generalize lenS 100 (some l5) = Q1 at *
      obtain ⟨n1, S1'⟩ := Q1
      simp only at hl1 ok1 hS P1
      have HS := Lib.hid hS
      have z0 : w.heap.size ≤ wr.heap.size := G3.size
      have O3 := Lib.hid o3
      clear hS C3 okk o3
      go_wp2_with fail
      refine P1.out.mono ?_
      rintro e w4 ⟨rfl, C4, G4⟩
      have O4 := Lib.hid (row_kept_cur O3.out G4 hg)
      have G04 := G3.trans G4
      have P2 := Lib.hid (rtakeS_any (n := (n1 : Int)) C4 (by omega) (by omega))
      obtain ⟨ok2, l2⟩ := takeS_ok (n := (n1 : Int)) ok1
      replace HS := HS.out
      generalize takeS (n1 : Int) S1' = Q2 at *
      obtain ⟨s2, S2⟩ := Q2
      simp only at ok2 l2 HS P2
      replace HS := Lib.hid HS
      clear P1 C4 G4 x1 O3
      go_wp2_with fail
      refine P2.out.mono ?_
      rintro e w5 ⟨A2, n2, c2, rfl, e2, k2, C5, G5⟩
      have O5 := Lib.hid (row_kept_cur O4.out G5 hg)
      have G05 := G04.trans G5
      have X2 := run_strB (c := c2) k2.reads
      have P3 := Lib.hid (rbyteS_any C5)
      have ok3 := byteS_ok ok2
      have lt3 := byteS_lt ok2
      replace HS := HS.out
      generalize byteS S2 = Q3 at *
      obtain ⟨t3, S3⟩ := Q3
      simp only at ok3 lt3 HS P3
      replace HS := Lib.hid HS
      clear P2 C5 G5 G04 O4 k2 e2
      have e3 : IntKind.i64.wrap (t3 : Int) = (t3 : Int) := IntWalk.i64_in _ (by omega)
      go_wp2_with fail
      refine P3.out.mono ?_
      rintro e w6 ⟨rfl, C6, G6⟩
      have O6 := Lib.hid (row_kept_cur O5.out G6 hg)
      have G06 := G05.trans G6
      have P4 := Lib.hid (rbyteS_any C6)
      have lt4 := byteS_lt ok3
      replace HS := HS.out
      generalize byteS S3 = Q4 at *
      obtain ⟨u4, S4⟩ := Q4
      simp only at lt4 HS P4
      replace HS := Lib.hid HS
      clear P3 C6 G6 G05 O5 X2
      go_wp2_with fail
      refine P4.out.mono ?_
      rintro e w7 ⟨rfl, C7, G7⟩
      have O7 := Lib.hid (row_kept_cur O6.out G7 hg)
      have G07 := G06.trans G7
      clear P4 G7 G06 O6
      by_cases hu : 1 < u4
      · have P5 := Lib.hid (rfailS C7)
        go_wp2_with fail
        refine P5.out.mono ?_
        rintro e w8 ⟨rfl, C8, G8⟩
        have o8 := row_kept_cur O7.out G8 hg
        have G08 := G07.trans G8
        have z8 := G08.size
        have N8 := Lib.hid G08
        clear P5 C7 G8 O7 G07
        have eb : ((u4 : Int) == 1) = decide (u4 = 1) := by rw [Bool.eq_iff_iff]; simp; omega
        go_wp2_with (refine wpList_pushR elC rfl (.tmp 38) (.tmp 44) rfl (W := w8) (B := w.heap.size) (base := w.heap.size) (n := k) o8 rfl rfl (Below.refl _ _) (Nat.le_refl _) z8 rfl (by simp [Value.oneCell']) (by omega) (by simp only [maxLen]; omega) ?_
                     intro A9 c9 w9 _ _ o9 g9 b9 z9 _
                     have C9 := rcur_push C8 o8 g9 hg
                     have G9 := grown_below2 G08 b9)
        go_roundw
        case rel =>
          have hs := HS.out
          rw [if_pos hu] at hs
          subst hs
          refine ⟨k + 1, A9, c9, by go_num, by omega, rfl, by rw [HQ2.out]; exact C9, ?_, G9⟩
          rw [HQ1.out, recs_append]
          exact o9
        case measure => simp [intOf]; omega
      · have o7 := O7.out
        have z7 := G07.size
        have eb : ((u4 : Int) == 1) = decide (u4 = 1) := by rw [Bool.eq_iff_iff]; simp; omega
        go_wp2_with (refine wpList_pushR elC rfl (.tmp 38) (.tmp 44) rfl (W := w7) (B := w.heap.size) (base := w.heap.size) (n := k) o7 rfl rfl (Below.refl _ _) (Nat.le_refl _) z7 rfl (by simp [Value.oneCell']) (by omega) (by simp only [maxLen]; omega) ?_
                     intro A9 c9 w9 _ _ o9 g9 b9 z9 _
                     have C9 := rcur_push C7 o7 g9 hg
                     have G9 := grown_below2 G07 b9)
        go_roundw
        case rel =>
          have hs := HS.out
          rw [if_neg hu] at hs
          subst hs
          refine ⟨k + 1, A9, c9, by go_num, by omega, rfl, by rw [HQ2.out]; exact C9, ?_, G9⟩
          rw [HQ1.out, recs_append]
          exact o9
        case measure => simp [intOf]; omega
    · have hs : S5 = none ∨ k = n := by
        by_cases h1 : S5 = none
        · exact .inl h1
        · exact .inr (by have : ¬ k < n := fun hh => hgo ⟨hh, h1⟩; omega)
      have hRR := hfinish L S5 rfl hs
      clear hfinish hgo q1 q2 hck
      subst hlen
      have r3 := Reads.of_own o3
      have P6 := Lib.hid (rcols_any (c := c3) r3 (fun x hx => ⟨(hfin x hx).1, by have := (hfin x hx).2; omega⟩) (by omega))
      have o3' := Lib.hid o3
      have x1' : ∀ W, New wr W → W.cell? ⟨g, 1, none⟩ = some (.bool S5.isNone) := fun W hW => (C3.below hW).is
      have X1 := Lib.hid x1'
      clear x1'
      have hc : (S5 = none) ∨ (S5.isNone = false ∧ L.length = n) := by
        cases S5 with
        | none => exact .inl rfl
        | some l => exact .inr ⟨rfl, by rcases hs with hs | hs; cases hs; exact hs⟩
      rcases hc with rfl | ⟨hc, hkn⟩
      · rw [if_pos (.inl rfl)] at hRR
        subst hRR
        simp only [Option.isNone_none] at x1 X1
        clear hs
        have hgo : L.length < n ∨ L.length = n := by omega
        clear HR
        rcases hgo with hgo | rfl
        all_goals
          go_wp2_with fail
          refine P6.out.mono ?_
          rintro e w6 ⟨rfl, b6⟩
          have x6 := X1.out w6 b6
          have P7 := Lib.hid (rfailS (C3.below b6))
          go_wp2_with fail
          refine P7.out.mono ?_
          rintro e w7 ⟨rfl, C7, G7⟩
          go_wp2
          go_ret
          exact ⟨none, 0, 0, rfl, by omega, row_nil, C7, (grown_below G3 b6).trans G7⟩
      · rw [hc] at x1 X1
        clear HR
        subst hkn
        by_cases hck : colsCk L = 0
        · rw [if_neg (by simp [hck]; cases S5; cases hc; simp)] at hRR
          subst hRR
          rw [hck] at P6
          go_wp2_with fail
          refine P6.out.mono ?_
          rintro e w6 ⟨rfl, b6⟩
          have x6 := X1.out w6 b6
          have hle : L.length ≤ c3 := by
            obtain ⟨A', c', hcv, hcv1, _⟩ := row_slice o3'.out
            injection hcv with _ _ e3
            omega
          go_wp2
          go_ret
          exact ⟨_, _, _, rfl, by omega, row_later o3'.out b6, C3.below b6, grown_below G3 b6⟩
        · rw [if_pos (.inr hck)] at hRR
          subst hRR
          generalize colsCk L = ck at *
          have e1 : (ck != 0) = true := by simpa using hck
          clear hck
          go_wp2_with fail
          refine P6.out.mono ?_
          rintro e w6 ⟨rfl, b6⟩
          have x6 := X1.out w6 b6
          have P7 := Lib.hid (rfailS (C3.below b6))
          go_wp2_with fail
          refine P7.out.mono ?_
          rintro e w7 ⟨rfl, C7, G7⟩
          go_wp2
          go_ret
          exact ⟨none, 0, 0, rfl, by omega, row_nil, C7, (grown_below G3 b6).trans G7⟩

end Go.Proofs.YtflaaahcoglflaaGreat
/- The contract of the answer's pages (layer 19). -/

namespace Go.Proofs.YtflaaahcoglflaaGreat
open Go Go.RowKit Go.Hm
def RPagesPost (l : List PageS) (B g : Nat) (S : St) (w : World) (e : Ending) (w' : World) : Prop := ∃ A n c, e = .returned (.slice A n c) ∧ w'.ownsRow w.heap.size 41 14 (.slice A n c) n (recs pageV l) ∧ RCurS w' B g S ∧ w.grownBy w' (some g)
set_option maxHeartbeats 4000000 in
set_option maxRecDepth 100000 in
theorem rpages_any {w : World} {B g : Nat} {S : St} {c : ColS} (h : RCurS w B g S) (hl : (S.getD []).length ≤ 140737488351232) :
    Calls Tryz.prog 20 #[.pointer (some ⟨g, 0, none⟩), colA c] w (RPagesPost (chunkR c.2.1 65536 S).1 B g (chunkR c.2.1 65536 S).2 w) := by
  obtain ⟨nm, t, nu⟩ := c
  show Calls Tryz.prog 20 #[.pointer (some ⟨g, 0, none⟩), .agg #[.string (bstr nm), .int .i64 t, .bool nu]] w (RPagesPost (chunkR t 65536 S).1 B g (chunkR t 65536 S).2 w)
  obtain ⟨X, hX⟩ : ∃ X, X = chunkR t 65536 S := ⟨_, rfl⟩
  rw [← hX]
  unfold chunkR at hX
  have hle := lenS_le (m := 65536) S (by omega) h.ok
  have hok := lenS_ok (m := 65536) h.ok
  have hsub := lenS_sub (m := 65536) h.ok
  have hgw := h.lt
  have hBg := h.ge
  have ha : New w (w.alloc (.cells #[.string (bstr nm), .int .i64 t, .bool nu] 39)) := (Below.refl _ _).alloc (Nat.le_refl _) _
  have BC := Blk.new w 39 #[.string (bstr nm), .int .i64 t, .bool nu]
  have h0 := h.below ha
  have L1 := Lib.hid (rlenS_any (m := 65536) h0 (by omega) (by omega))
  generalize lenS 65536 S = H at *
  obtain ⟨N, S1⟩ := H
  dsimp only at *
  have HX := Lib.hid (show X = ([] ++ (pagesR t 65536 (N - 0) S1).1, (pagesR t 65536 (N - 0) S1).2) from hX)
  clear hX h h0
  go_enter Tryz.func20, Tryz.ntmps20
  go_wp2_with fail
  refine L1.out.mono ?_
  rintro e w1 ⟨rfl, s1, g1⟩
  have BC1 := BC.grown g1 (by intro e; injection e with e; omega)
  have G1 := (grown_new_any (row := some g) ha).trans g1
  clear L1 BC ha g1
  go_wp2_with fail
  go_loopw [6, 7] (fun v i wr => ∃ (q c : Nat) (A : Option Addr) (pre : List PageS) (Sj : St), q ≤ N ∧ i = .int .i64 (q : Int) ∧ v = .slice A q c ∧ wr.ownsRow w.heap.size 41 14 (.slice A q c) q (recs pageV pre) ∧ RCurS wr B g Sj ∧ (Sj.getD []).length ≤ 140737488351232
    ∧ w.grownBy wr (some g) ∧ Blk wr w.heap.size 39 #[.string (bstr nm), .int .i64 t, .bool nu] ∧ Hid (X = (pre ++ (pagesR t 65536 (N - q) Sj).1, (pagesR t 65536 (N - q) Sj).2))) (fun _ i _ => N - (intOf i).toNat)
  case atStart => exact ⟨0, 0, none, [], S1, Nat.zero_le _, rfl, rfl, row_nil, s1, by omega, G1, BC1, HX⟩
  case round =>
    obtain ⟨q, c, A, pre, Sj, hq, rfl, rfl, o, s, hsl, G, BCq, HXj⟩ := hrel
    clear HX s1 hok hsub G1 BC1
    have x1 := s.is
    have hgr := G.size
    by_cases hj : q < N
    · cases Sj with
      | none =>
        simp only [Option.isNone_none] at x1
        have hX := HXj.out
        rw [pagesR_none, List.append_nil] at hX
        have HX := Lib.hid hX
        clear hX HXj
        go_wp2_with fail
        go_ret
        rw [HX.out]
        exact ⟨_, _, _, rfl, o, s, G⟩
      | some b =>
        simp only [Option.isNone_some] at x1
        obtain ⟨j, hj2⟩ : ∃ k, N - q = k + 1 := ⟨N - q - 1, by omega⟩
        have hj3 : N - (q + 1) = j := by omega
        have hX := HXj.out
        rw [hj2, pagesR_step] at hX
        have HJ := Lib.hid hj3
        clear hj2 hj3
        have hokb := s.ok
        unfold pageR at hX
        have b1 := lenS_sub (m := 268435456) hokb
        have b2 := lenS_ok (m := 268435456) hokb
        have b3 := lenS_le (m := 268435456) (some b) (by omega) hokb
        have hgl := s.lt
        have L2 := Lib.hid (rlenS_any (m := 268435456) s (by omega) (by omega))
        generalize lenS 268435456 (some b) = H2 at *
        obtain ⟨sz, S2⟩ := H2
        dsimp only at hX b1 b2 b3 L2
        have b4 := lenS_sub (m := 65536) b2
        have b5 := lenS_ok (m := 65536) b2
        have b6 := lenS_le (m := 65536) S2 (by omega) b2
        clear HXj s
        go_wp2_with fail
        refine L2.out.mono ?_
        rintro e w3 ⟨rfl, s3, g3⟩
        have hz3 := g3.size
        have BC3 := BCq.grown g3 (by intro e; injection e with e; omega)
        have o3 := row_kept_cur o g3 hgw
        have G3 := G.trans g3
        have L4 := Lib.hid (rlenS_any (m := 65536) s3 (by omega) (by omega))
        generalize lenS 65536 S2 = H4 at *
        obtain ⟨rw, S4⟩ := H4
        dsimp only at hX b4 b5 b6 L4
        clear L2 o G g3 BCq s3 x1
        go_wp2_with fail
        refine L4.out.mono ?_
        rintro e w5 ⟨rfl, s5, g5⟩
        have hz5 := g5.size
        have BC5 := BC3.grown g5 (by intro e; injection e with e; omega)
        have o5 := row_kept_cur o3 g5 hgw
        have G5 := G3.trans g5
        clear L4 o3 G3 g5 BC3
        obtain ⟨y0, y1, y2⟩ := ccells BC5
        have L6 := Lib.hid (rstget_any (t := t) s5 (by simp only [Option.getD_some] at hsl b1; omega))
        have hsA := getA_sub (t := t) b5
        generalize getA t S4 = H6 at *
        obtain ⟨⟨nn, bb, ⟨p1, p2, p3, p4, p5⟩, ⟨q1, q2, q3, q4, q5⟩⟩, S6⟩ := H6
        dsimp only at hX L6 hsA
        have HX := Lib.hid hX
        clear s5 hX
        go_wp2_with fail
        refine L6.out.mono ?_
        rintro e w7 ⟨rfl, s7, g7⟩
        rw [show statA (nn, bb, (p1, p2, p3, p4, p5), (q1, q2, q3, q4, q5)) = .agg #[.int .i64 nn, .bool bb, .bool p1, .int .i64 p2, .string (bstr p3), .int .i64 p4, .int .i64 p5, .bool q1, .int .i64 q2, .string (bstr q3), .int .i64 q4, .int .i64 q5] from rfl]
        have hz7 := g7.size
        have BC7 := BC5.grown g7 (by intro e; injection e with e; omega)
        have o7 := row_kept_cur o5 g7 hgw
        have G7 := G5.trans g7
        clear L6 o5 G5 g7 BC5 y0 y1 y2
        have hb7 : New w7 (w7.alloc (.cells #[.int .i64 nn, .bool bb, .bool p1, .int .i64 p2, .string (bstr p3), .int .i64 p4, .int .i64 p5, .bool q1, .int .i64 q2, .string (bstr q3), .int .i64 q4, .int .i64 q5] 37)) := (Below.refl _ _).alloc (Nat.le_refl _) _
        have BS := Blk.new w7 37 #[.int .i64 nn, .bool bb, .bool p1, .int .i64 p2, .string (bstr p3), .int .i64 p4, .int .i64 p5, .bool q1, .int .i64 q2, .string (bstr q3), .int .i64 q4, .int .i64 q5]
        have s8 := s7.below hb7
        have o8 := row_later o7 hb7
        have BC8 := BC7.below hb7 BC7.lt
        have G8 := G7.trans (grown_new_any (row := some g) hb7)
        have hz8 : w.heap.size ≤ (w7.alloc (.cells #[.int .i64 nn, .bool bb, .bool p1, .int .i64 p2, .string (bstr p3), .int .i64 p4, .int .i64 p5, .bool q1, .int .i64 q2, .string (bstr q3), .int .i64 q4, .int .i64 q5] 37)).heap.size := G8.size
        obtain ⟨x0, x1, x2, x3, x4, x5, x6, x7, x8, x9, x10, x11⟩ := cells12 BS
        clear o7 s7 BC7 G7 hb7 BS
        go_wp2_with (refine wpList_pushR elPg rfl (.tmp 33) (.tmp 38) rfl (W := w) (B := 0) (base := w.heap.size) (n := q) o8 rfl (by simp only [World.size_alloc]; rfl) (below_zero G8) (Nat.zero_le _) hz8 rfl (by simp [Value.oneCell']) (by omega) (by simp only [maxLen]; omega) ?_
                     intro A9 c9 w9 hc9 _ o9 g9 _ hz9 _
                     have s9 := rcur_push s8 o8 g9 hgw
                     have BC9 := BC8.grown g9 (fun e => row_blk_ne o8 BC8 (by decide) e.symm)
                     have G9 := grown_own G8 g9 (fun b e => (World.ownsRow.lt o8 b e).1)
                     have o9 : w9.ownsRow w.heap.size 41 14 (.slice A9 (q + 1) c9) (q + 1) (recs pageV (pre ++ [((sz : Int), (rw : Int), (nn, bb, (p1, p2, p3, p4, p5), (q1, q2, q3, q4, q5)))])) := by
                       rw [recs_append]
                       exact o9
                     have HX2 : Hid (X = ((pre ++ [((sz : Int), (rw : Int), (nn, bb, (p1, p2, p3, p4, p5), (q1, q2, q3, q4, q5)))]) ++ (pagesR t 65536 (N - (q + 1)) S6).1, (pagesR t 65536 (N - (q + 1)) S6).2)) := Lib.hid (by rw [HX.out, HJ.out]; simp)
                     clear o8 s8 G8 g9 HX BC8)
        go_roundw
        case rel => exact ⟨q + 1, c9, A9, _, S6, by omega, by go_num, rfl, o9, s9, by simp only [Option.getD_some] at hsl b1; omega, G9, BC9, HX2⟩
        case measure => simp [intOf]; omega
    · obtain rfl : q = N := by omega
      have hX := HXj.out
      have e0 : pagesR t 65536 0 Sj = ([], Sj) := rfl
      rw [Nat.sub_self, e0, List.append_nil] at hX
      have HX := Lib.hid hX
      clear hX HXj e0
      go_wp2_with fail
      go_ret
      rw [HX.out]
      exact ⟨_, _, _, rfl, o, s, G⟩

end Go.Proofs.YtflaaahcoglflaaGreat
