/- Contract on ref07.Cells. -/
import Derived.Test.YtgjllfcnbkennaaCellE
import Derived.Test.YtgjllfcnbkennaaOpt
import Derived.Test.YtgjllfcnbkennaaUp
import Derived.Outline
import Derived.Deep.QuietTactic
import Derived.BigQuiet

namespace Go.Proofs.Ytgjllfcnbkennaa
open Go.RowKit Go.Hm
theorem mem_getDC {α : Type} {l : List α} {k : Nat} (d : α) (h : k < l.length) : l.getD k d ∈ l := by
  rw [List.getD_eq_getElem?_getD, List.getElem?_eq_getElem h]
  exact List.getElem_mem h
theorem cell_bne {x y : CellS} (hx : ∀ z ∈ x.2.2.1, z < 256) (hy : ∀ z ∈ y.2.2.1, z < 256) :
    (!(x.1 == y.1 && x.2.1 == y.2.1 && (bstr x.2.2.1).toList == (bstr y.2.2.1).toList && x.2.2.2.1 == y.2.2.2.1 && x.2.2.2.2 == y.2.2.2.2)) = decide (x ≠ y) := by
  rw [bstr_beq hx hy]
  obtain ⟨b, n, s, p, q⟩ := x
  obtain ⟨b2, n2, s2, p2, q2⟩ := y
  rw [Bool.eq_iff_iff]
  simp [Prod.ext_iff, or_assoc]
set_option maxHeartbeats 2000000 in
set_option maxRecDepth 100000 in
theorem rcells_any {w : World} {A : Option Addr} {n c : Nat} {l : List CellS} {A2 : Option Addr} {n2 c2 : Nat} {l2 : List CellS} (h : Reads w w.heap.size 5 A n (recs cellV l)) (h2 : Reads w w.heap.size 5 A2 n2 (recs cellV l2)) (hn : n ≤ 9223372036854775807) (hn2 : n2 ≤ 9223372036854775807)
    (h8 : ∀ x ∈ l, ∀ z ∈ x.2.2.1, z < 256) (h28 : ∀ x ∈ l2, ∀ z ∈ x.2.2.1, z < 256) :
    Calls Try.prog 14 #[.slice A n c, .slice A2 n2 c2] w (DrewPost (.bool (decide (l = l2))) w) := by
  obtain rfl := h.lenCell
  obtain rfl := h2.lenCell
  by_cases hl : l.length = l2.length
  · have e1 : ((l.length : Int) != (l2.length : Int)) = false := by simp; omega
    have K1 := Lib.hid (fun (k : Nat) (hk : k < l.length) (hh : l.getD k (false, 0, [], 0, 0) ≠ l2.getD k (false, 0, [], 0, 0)) => show decide (l = l2) = false from decide_eq_false (fun e => hh (by rw [e])))
    have K2 := Lib.hid (fun (hh : l.take l.length = l2.take l.length) => show decide (l = l2) = true from decide_eq_true (by rw [List.take_length] at hh; rw [hh, hl, List.take_length]))
    generalize decide (l = l2) = O at *
    have HL := Lib.hid hl
    clear hl
    go_enter Try.func14, Try.ntmps14
    go_wp2
    clear e1
    go_loopw [5] (fun i wr => ∃ k q : Nat, i = .int .i64 (k : Int) ∧ k ≤ l.length ∧ wr = w.drewN q ∧ Hid (l.take k = l2.take k)) (fun i _ => l.length - (intOf i).toNat)
    case atStart => exact ⟨0, 0, rfl, by omega, rfl, Lib.hid (by simp)⟩
    case round =>
      obtain ⟨k, q, rfl, hk, rfl, H⟩ := hrel
      by_cases hlt : k < l.length
      · have hlt2 : k < l2.length := by rw [← HL.out]; exact hlt
        obtain ⟨ad, rfl, _, c0, c1, c2, c3, c4⟩ := h.cell5 hlt
        obtain ⟨ad2, rfl, _, d0, d1, d2, d3, d4⟩ := h2.cell5 hlt2
        have M1 := Lib.hid (K1.out k hlt)
        have M2 := Lib.hid (fun (hh : l.getD k (false, 0, [], 0, 0) = l2.getD k (false, 0, [], 0, 0)) => show l.take (k + 1) = l2.take (k + 1) by
          rw [take_snoc l k (false, 0, [], 0, 0) hlt, take_snoc l2 k (false, 0, [], 0, 0) hlt2, H.out, hh])
        have i1 : (k : Int) < (l.length : Int) := by omega
        have i2 : (k : Int) < (l2.length : Int) := by omega
        have NE := Lib.hid (cell_bne (h8 _ (mem_getDC (false, 0, [], 0, 0) hlt)) (h28 _ (mem_getDC (false, 0, [], 0, 0) hlt2)))
        clear H
        generalize l.getD k (false, 0, [], 0, 0) = x1 at *
        generalize l2.getD k (false, 0, [], 0, 0) = x2 at *
        obtain ⟨b1, n1, s1, px1, py1⟩ := x1
        obtain ⟨b2, n2, s2, px2, py2⟩ := x2
        simp only at c0 c1 c2 c3 c4 d0 d1 d2 d3 d4
        have QN := fun W => neqCell (b := b1) (b' := b2) (n := n1) (n' := n2) (s := bstr s1) (s' := bstr s2) (x := px1) (x' := px2) (y := py1) (y' := py2) W
        have NE := NE.out
        simp only at NE
        rw [NE] at QN
        clear NE
        generalize hR : decide ((b1, n1, s1, px1, py1) ≠ (b2, n2, s2, px2, py2)) = R at QN
        have HR := Lib.hid hR
        clear hR
        have M3 := Lib.hid (fun (hh : R = true) => M1.out (of_decide_eq_true (HR.out.trans hh)))
        have M4 := Lib.hid (fun (hh : R = false) => M2.out (Classical.not_not.1 (of_decide_eq_false (HR.out.trans hh))))
        clear M1 M2 HR
        go_wp2
        go_quiet (fail)
        cases R with
        | true =>
          have O1 := Lib.hid (M3.out rfl)
          go_wp2
          go_ret
          exact ⟨by rw [O1.out]; rfl, _, rfl⟩
        | false =>
          have O1 := Lib.hid (M4.out rfl)
          go_wp2
          go_roundw
          case rel => exact ⟨k + 1, _, by go_num, by omega, rfl, O1⟩
          case measure => simp [intOf]; omega
      · obtain rfl : k = l.length := by omega
        have O1 := Lib.hid (K2.out H.out)
        clear K1 K2 H
        go_wp2
        go_ret
        exact ⟨by rw [O1.out]; rfl, q, rfl⟩
  · have e1 : ((l.length : Int) != (l2.length : Int)) = true := by simp; omega
    have e2 := Lib.hid (show decide (l = l2) = false from decide_eq_false (fun e => hl (by rw [e])))
    generalize decide (l = l2) = O at *
    go_enter Try.func14, Try.ntmps14
    go_wp2
    go_ret
    exact ⟨by rw [e2.out]; rfl, 0, rfl⟩

end Go.Proofs.Ytgjllfcnbkennaa
