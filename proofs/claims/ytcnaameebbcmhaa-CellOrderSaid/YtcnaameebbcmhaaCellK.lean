/- Tables as lists of columns of cells, and cell.checkShape. -/
import Derived.Test.YtcnaameebbcmhaaCellR
import Derived.Test.YtcnaameebbcmhaaOpenCl

namespace Go.Hm
open Go Go.RowKit
/-- What is wrong with how many rows and cells there are. -/
def shapeCk (m : Nat) (r : Int) (D : List ColD) : Int := if 65536 < r then 4 else if r < 0 ∨ D.length ≠ m then 2 else if ∃ d ∈ D, ((d.2.2.length : Nat) : Int) ≠ r then 2 else 0
theorem Reads.colD {w : World} {B n i : Nat} {A : Option Addr} {l : List ColD} (h : Reads w B 1 A n (recs dataV l)) (hi : i < n) :
    ∃ ad, A = some ad ∧ ad.block < B ∧ w.cell? (ad.add i) = some (.slice (l.getD i (none, 0, [])).1 (l.getD i (none, 0, [])).2.2.length (l.getD i (none, 0, [])).2.1) := by
  obtain ⟨ad, h1, h2, _, h3⟩ := h.rec_ (f := dataV) (sz := 1) (fun _ => rfl) (none, 0, []) hi (by omega)
  have := h3 0 _ rfl
  rw [Nat.mul_one] at this
  exact ⟨ad, h1, h2, this⟩
theorem Reads.lenD {w : World} {B n : Nat} {A : Option Addr} {l : List ColD} (h : Reads w B 1 A n (recs dataV l)) : n = l.length := h.lenR (f := dataV) (sz := 1) (fun _ => rfl) (by omega)

end Go.Hm

namespace Go.Proofs.Ytcnaameebbcmhaa
open Go.RowKit Go.Hm
set_option maxHeartbeats 2000000 in
set_option maxRecDepth 100000 in
theorem shape_any {w : World} {Ac : Option Addr} {nc cc : Nat} {r : Int} {Ad : Option Addr} {nd cd : Nat} {D : List ColD} (h : Reads w w.heap.size 1 Ad nd (recs dataV D)) (hn : nd ≤ 4611686018427387903) :
    Calls Try.prog 30 #[.agg #[.slice Ac nc cc, .int .i64 r, .slice Ad nd cd]] w (NewPost (.int .i64 (shapeCk nc r D)) w) := by
  obtain rfl := h.lenD
  have K1 := Lib.hid (fun (hh : 65536 < r) => show shapeCk nc r D = 4 by rw [shapeCk, if_pos hh])
  have K2 := Lib.hid (fun (hh : ¬ 65536 < r) (h2 : r < 0 ∨ D.length ≠ nc) => show shapeCk nc r D = 2 by rw [shapeCk, if_neg hh, if_pos h2])
  have K3 := Lib.hid (fun (hh : ¬ 65536 < r) (h2 : ¬ (r < 0 ∨ D.length ≠ nc)) (d : ColD) (hd : d ∈ D) (h3 : ((d.2.2.length : Nat) : Int) ≠ r) => show shapeCk nc r D = 2 by rw [shapeCk, if_neg hh, if_neg h2, if_pos ⟨d, hd, h3⟩])
  have K4 := Lib.hid (fun (hh : ¬ 65536 < r) (h2 : ¬ (r < 0 ∨ D.length ≠ nc)) (h3 : ∀ d ∈ D, ((d.2.2.length : Nat) : Int) = r) => show shapeCk nc r D = 0 by rw [shapeCk, if_neg hh, if_neg h2, if_neg (fun ⟨d, hd, h4⟩ => h4 (h3 d hd))])
  generalize shapeCk nc r D = O at *
  obtain ⟨W0, hW0⟩ : ∃ W, W = w.alloc (.cells #[.slice Ac nc cc, .int .i64 r, .slice Ad D.length cd] 35) := ⟨_, rfl⟩
  have b0 : New w W0 := by rw [hW0]; exact (Below.refl _ _).alloc (Nat.le_refl _) _
  have B0 : Blk W0 w.heap.size 35 #[.slice Ac nc cc, .int .i64 r, .slice Ad D.length cd] := by rw [hW0]; exact Blk.new _ _ _
  obtain ⟨x0, x1, x2⟩ := ccells B0
  rw [hW0] at x0 x1 x2
  by_cases h0 : 65536 < r
  · have O1 := Lib.hid (K1.out h0)
    clear K1 K2 K3 K4 B0 h
    go_enter Try.func30, Try.ntmps30
    go_wp2
    go_ret
    exact ⟨by rw [O1.out]; rfl, by rw [← hW0]; exact b0⟩
  · by_cases h1 : r < 0 ∨ D.length ≠ nc
    · have O1 := Lib.hid (K2.out h0 h1)
      clear K1 K2 K3 K4 B0 h
      by_cases h2 : r < 0
      · go_enter Try.func30, Try.ntmps30
        go_wp2
        go_ret
        exact ⟨by rw [O1.out]; rfl, by rw [← hW0]; exact b0⟩
      · have e1 : ((D.length : Int) != (nc : Int)) = true := by simp; omega
        clear h1
        go_enter Try.func30, Try.ntmps30
        go_wp2
        go_ret
        exact ⟨by rw [O1.out]; rfl, by rw [← hW0]; exact b0⟩
    · have K5 := Lib.hid (K3.out h0 h1)
      have K6 := Lib.hid (K4.out h0 h1)
      obtain ⟨h2, h3⟩ : ¬ r < 0 ∧ D.length = nc := by omega
      subst h3
      have r0 := Reads.later h b0
      clear h1 K1 K2 K3 K4 h
      go_enter Try.func30, Try.ntmps30
      go_wp2
      rw [← hW0]
      clear x0 x1 x2 hW0
      go_loopw [23] (fun i wr => ∃ k : Nat, i = .int .i64 (k : Int) ∧ k ≤ D.length ∧ New W0 wr ∧ Hid (∀ d ∈ D.take k, ((d.2.2.length : Nat) : Int) = r)) (fun i _ => D.length - (intOf i).toNat)
      case atStart => exact ⟨0, rfl, by omega, New.refl _, Lib.hid (by simp)⟩
      case round =>
        obtain ⟨k, rfl, hk, hb, H⟩ := hrel
        obtain ⟨x0, x1, x2⟩ := ccells (B0.below hb B0.lt)
        by_cases hlt : k < D.length
        · obtain ⟨ad, rfl, hbk, c0⟩ := (Reads.later r0 hb).colD hlt
          have hx : (D.getD k (none, 0, [])) ∈ D := by rw [List.getD_eq_getElem?_getD, List.getElem?_eq_getElem hlt]; exact List.getElem_mem hlt
          have M1 := Lib.hid (fun hh => K5.out _ hx hh)
          have M2 := Lib.hid (fun (hh : ((((D.getD k (none, 0, [])).2.2.length : Nat) : Int) = r)) => show ∀ d ∈ D.take (k + 1), ((d.2.2.length : Nat) : Int) = r by
            intro d hd
            rw [take_snoc D k (none, 0, []) hlt, List.mem_append] at hd
            rcases hd with hd | hd
            · exact H.out d hd
            · obtain rfl := List.mem_singleton.1 hd
              exact hh)
          clear hx
          generalize (D.getD k (none, 0, [])).1 = aA at *
          generalize (D.getD k (none, 0, [])).2.2.length = m at *
          generalize (D.getD k (none, 0, [])).2.1 = cA at *
          have hiz : (k : Int) < (D.length : Int) := by omega
          by_cases he : (m : Int) = r
          · have M3 := Lib.hid (M2.out he)
            subst he
            clear M1 M2
            go_wp2
            go_roundw
            case rel => exact ⟨k + 1, by go_num, by omega, hb, M3⟩
            case measure => simp [intOf]; omega
          · have M3 := Lib.hid (M1.out he)
            have e1 : ((m : Int) != r) = true := by simpa using he
            clear M1 M2 he
            go_wp2
            go_ret
            exact ⟨by rw [M3.out]; rfl, New.trans b0 hb⟩
        · obtain rfl : k = D.length := by omega
          have H2 := H.out
          rw [List.take_length] at H2
          have O1 := Lib.hid (K6.out H2)
          clear H H2 K5 K6
          go_wp2
          go_ret
          exact ⟨by rw [O1.out]; rfl, New.trans b0 hb⟩

end Go.Proofs.Ytcnaameebbcmhaa
