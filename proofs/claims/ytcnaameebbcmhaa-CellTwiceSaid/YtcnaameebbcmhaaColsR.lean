/- Contracts on columns: the answer's Cols and Schema. -/
import Derived.Test.YtcnaameebbcmhaaCols

namespace Go.Proofs.Ytcnaameebbcmhaa
open Go.RowKit Go.Hm

set_option maxHeartbeats 1000000 in
theorem schemaEq_any {w : World} {A A2 : Option Addr} {n c n2 c2 : Nat} {l : List ColS} (h : Reads w w.heap.size 3 A n (recs colV l)) (h2 : Reads w w.heap.size 3 A2 n2 (recs colV l)) (hn : n ≤ 4611686018427387903) :
    Calls Try.prog 35 #[.slice A n c, .slice A2 n2 c2] w (NewPost (.bool true) w) := by
  obtain rfl := h.lenC
  obtain rfl := h2.lenC
  go_enter Try.func35, Try.ntmps35
  go_wp2
  go_loopw [5] (fun z wr => ∃ (k q : Nat), z = .int .i64 (k : Int) ∧ k ≤ l.length ∧ wr = w.drewN q) (fun z _ => l.length - (intOf z).toNat)
  case atStart => exact ⟨0, 0, rfl, by omega, rfl⟩
  case round =>
    obtain ⟨k, q, rfl, hk, rfl⟩ := hrel
    by_cases hlt : k < l.length
    · obtain ⟨ad, rfl, hb, h3, h4, h5⟩ := (h.drewN q).colT hlt
      obtain ⟨ad2, rfl, hb2, h6, h7, h8⟩ := (h2.drewN q).colT hlt
      generalize (l.getD k ([], 0, false)).1 = y1 at *
      generalize (l.getD k ([], 0, false)).2.1 = y2 at *
      generalize (l.getD k ([], 0, false)).2.2 = y3 at *
      have hiz : (k : Int) < (l.length : Int) := by omega
      have hbb : (ad.add (k * 3)).block < (w.drewN q).drew.heap.size := by rw [block_of_add]; exact hb
      have hbb2 : (ad2.add (k * 3)).block < (w.drewN q).drew.heap.size := by rw [block_of_add]; exact hb2
      have C1 := Lib.hid (cell_new h3 hbb)
      have C2 := Lib.hid (cell_new h4 hbb)
      have C3 := Lib.hid (cell_new h5 hbb)
      have C4 := Lib.hid (cell_new h6 hbb2)
      have C5 := Lib.hid (cell_new h7 hbb2)
      have C6 := Lib.hid (cell_new h8 hbb2)
      go_wp2_with fail
      refine wp_region_up New [(true, 0), (true, 1), (true, 2), (true, 3), (true, 4), (true, 5), (true, 6), (true, 7), (true, 8)]
        New.refl New.trans (by kernel_rfl) (by kernel_rfl) (by kernel_rfl) (by kernel_rfl) ?_
      repeat (first
        | (refine up_quiet rfl rfl (v := ?_) (fun W hW => ?_) ?_; rotate_left; (have g1 := C1.out W hW; have g2 := C2.out W hW; have g3 := C3.out W hW; have g4 := C4.out W hW; have g5 := C5.out W hW; have g6 := C6.out W hW; go_simp <;> with_reducible rfl); simp only [Act.put, List.setIfInBounds_toArray, List.set_cons_zero, List.set_cons_succ]))
      refine up_nil ?_
      go_wp2
      go_roundw
      case rel => exact ⟨k + 1, q + 1, by go_num, by omega, rfl⟩
      case measure => simp [intOf]; omega
    · go_wp2
      go_ret
      exact ⟨rfl, new_drewN _ _⟩

set_option maxHeartbeats 4000000 in
set_option maxRecDepth 100000 in
theorem rcols_any {w : World} {A : Option Addr} {n c : Nat} {L : List ColS} (h : Reads w w.heap.size 3 A n (recs colV L)) (hL : ∀ x ∈ L, (∀ z ∈ x.1, z < 256) ∧ x.1.length ≤ 140737488351232) (hn : n ≤ 4611686018427387903) :
    Calls Try.prog 18 #[.slice A n c] w (NewPost (.int .i64 (colsCk L)) w) := by
  obtain rfl := h.lenC
  by_cases hm : 64 < L.length
  · rw [colsCk_many hm]
    go_enter Try.func18, Try.ntmps18
    go_wp2
    go_ret
    exact ⟨rfl, New.refl _⟩
  · have HO := Lib.hid (colsCk_few hm)
    generalize colsCk L = O at *
    go_enter Try.func18, Try.ntmps18
    go_wp2
    go_loopw [3] (fun i wr => ∃ k q : Nat, i = .int .i64 (k : Int) ∧ k ≤ L.length ∧ wr = w.drewN q ∧ Hid (O = colsGo (L.take k) (L.drop k))) (fun i _ => L.length - (intOf i).toNat)
    case atStart => exact ⟨0, 0, rfl, by omega, rfl, HO⟩
    case round =>
      obtain ⟨k, q, rfl, hk, rfl, H⟩ := hrel
      by_cases hlt : k < L.length
      · obtain ⟨ad, rfl, hbk, c0, c1, c2⟩ := (h.drewN q).colT hlt
        have hx : (L.getD k ([], 0, false)) ∈ L := by rw [List.getD_eq_getElem?_getD, List.getElem?_eq_getElem hlt]; exact List.getElem_mem hlt
        obtain ⟨y1, y2⟩ := hL _ hx
        have S := H.out
        rw [colsGo_step L k hlt] at S
        have HS := Lib.hid S
        have ck1 := Lib.hid (fun (hh : nameBad (L.take k) (nm L k)) => show colCk (L.take k) (nm L k) (L.getD k ([], 0, false)).2.1 = 1 by rw [colCk, if_pos hh])
        have ck2 := Lib.hid (fun (hh : ¬ nameBad (L.take k) (nm L k)) => show colCk (L.take k) (nm L k) (L.getD k ([], 0, false)).2.1 = if 0 ≤ (L.getD k ([], 0, false)).2.1 ∧ (L.getD k ([], 0, false)).2.1 ≤ 3 then 0 else 3 by rw [colCk, if_neg hh])
        generalize colCk (L.take k) (nm L k) (L.getD k ([], 0, false)).2.1 = ck at *
        unfold nm at *
        have LL := Lib.hid (show ∀ j, j < L.length → ∀ z ∈ (L.getD j ([], 0, false)).1, z < 256 from fun j hj => (hL _ (by rw [List.getD_eq_getElem?_getD, List.getElem?_eq_getElem hj]; exact List.getElem_mem hj)).1)
        have Y1 := Lib.hid y1
        generalize hs2 : (L.getD k ([], 0, false)).1 = s2 at *
        generalize ht2 : (L.getD k ([], 0, false)).2.1 = t2 at *
        have HT2 := Lib.hid ht2
        generalize (L.getD k ([], 0, false)).2.2 = n2 at *
        clear ht2
        have HSS := Lib.hid hs2
        have z1 := bstr_size s2
        clear S H hx hs2 y1 hL
        have hiz : (k : Int) < (L.length : Int) := by omega
        have g0 : (bstr s2).toList.isEmpty = decide (s2.length = 0) := by
          rw [bstr_toList]
          cases s2 <;> simp
        have hcb : s2.length = 0 ∨ (¬ s2.length = 0 ∧ 100 < s2.length) ∨ (¬ s2.length = 0 ∧ ¬ 100 < s2.length) := by omega
        rcases hcb with hb | ⟨hb, hb2⟩ | ⟨hb, hb2⟩
        case' inl => have HI := Lib.hid (show true = decide (nameBad (L.take 0) s2) from (decide_eq_true (Or.inl hb)).symm)
        case' inr.inl => have HI := Lib.hid (show true = decide (nameBad (L.take 0) s2) from (decide_eq_true (Or.inr (Or.inl hb2))).symm)
        case' inr.inr => have HI := Lib.hid (show false = decide (nameBad (L.take 0) s2) from (decide_eq_false (by
          rintro (h' | h' | h')
          · exact hb h'
          · exact hb2 h'
          · simp at h')).symm)
        all_goals
          first
            | (rw [decide_eq_true hb] at g0; have g1 : (bstr s2).toList = [] := by simpa using g0)
            | (rw [decide_eq_false hb] at g0; have g1 : ¬ (bstr s2).toList = [] := by simpa using g0)
          try (have g2 : decide (100 < (s2.length : Int)) = true := by simp; omega)
          try (have g2 : decide (100 < (s2.length : Int)) = false := by simp; omega)
          clear hb
          go_wp2
          clear g0 g1
          go_loopw [4, 5] (fun v i wr => ∃ (j q' : Nat) (bb : Bool), i = .int .i64 (j : Int) ∧ j ≤ k ∧ v = .bool bb ∧ wr = w.drewN q' ∧ Hid (bb = decide (nameBad (L.take j) s2))) (fun _ i _ => k - (intOf i).toNat)
          case atStart => exact ⟨0, q, _, rfl, by omega, rfl, rfl, HI⟩
          case round =>
            obtain ⟨j, q', bb, rfl, hj, rfl, rfl, HJ⟩ := hrel
            by_cases hlj : j < k
            · have NS := Lib.hid (nameBad_succ (s := s2) (show j < L.length by omega))
              obtain ⟨ad1, e1, hbk1, c01, _, _⟩ := (h.drewN q').colT (show j < L.length by omega)
              injection e1 with e1
              subst e1
              obtain ⟨ad2, e2, hbk2, c02, _, _⟩ := (h.drewN q').colT hlt
              injection e2 with e2
              subst e2
              rw [HSS.out] at c02
              have hq := strB (L.getD j ([], 0, false)).1 s2 (LL.out j (by omega)) Y1.out
              unfold nm at NS
              generalize (L.getD j ([], 0, false)).1 = s3 at *
              have hiz1 : (j : Int) < (L.length : Int) := by omega
              have hbx : (ad.add (j * 3)).block < (w.drewN q').drew.heap.size := by rw [block_of_add]; exact hbk
              have hbx2 : (ad.add (k * 3)).block < (w.drewN q').drew.heap.size := by rw [block_of_add]; exact hbk
              have C1 := Lib.hid (cell_new c01 hbx)
              have C2 := Lib.hid (cell_new c02 hbx2)
              have hcc : bb = true ∨ (bb = false ∧ s3 = s2) ∨ (bb = false ∧ ¬ s3 = s2) := by
                cases bb
                · by_cases he : s3 = s2
                  · exact .inr (.inl ⟨rfl, he⟩)
                  · exact .inr (.inr ⟨rfl, he⟩)
                · exact .inl rfl
              rcases hcc with rfl | ⟨rfl, he⟩ | ⟨rfl, he⟩
              · have HN := Lib.hid (show true = decide (nameBad (L.take (j + 1)) s2) by
                  rw [eq_comm, decide_eq_true_eq, NS.out]
                  exact .inl (of_decide_eq_true HJ.out.symm))
                go_wp2_with fail
                refine wp_region_up New [(true, 0), (true, 1), (true, 2), (true, 3), (true, 4), (true, 5), (true, 6), (true, 7), (true, 8), (true, 9), (true, 10), (true, 11), (true, 12), (true, 13), (true, 14)]
                  New.refl New.trans (by kernel_rfl) (by kernel_rfl) (by kernel_rfl) (by kernel_rfl) ?_
                repeat (first
                  | (refine up_skip rfl rfl ?_; simp only [Act.put, List.setIfInBounds_toArray, List.set_cons_zero, List.set_cons_succ])
                  | (refine up_quiet rfl rfl (v := ?_) (fun W hW => ?_) ?_; rotate_left; (go_simp <;> with_reducible rfl); simp only [Act.put, List.setIfInBounds_toArray, List.set_cons_zero, List.set_cons_succ]))
                refine up_nil ?_
                go_wp2
                go_roundw
                case rel => exact ⟨j + 1, q' + 1, true, by go_num, by omega, rfl, rfl, HN⟩
                case measure => simp [intOf]; omega
              · have HN := Lib.hid (show true = decide (nameBad (L.take (j + 1)) s2) by
                  rw [eq_comm, decide_eq_true_eq, NS.out]
                  exact .inr he)
                rw [decide_eq_true he] at hq
                clear he
                go_wp2_with fail
                refine wp_region_up New [(true, 0), (true, 1), (true, 2), (true, 3), (true, 4), (true, 5), (true, 6), (true, 7), (true, 8), (true, 9), (true, 10), (true, 11), (true, 12), (true, 13), (true, 14)]
                  New.refl New.trans (by kernel_rfl) (by kernel_rfl) (by kernel_rfl) (by kernel_rfl) ?_
                repeat (first
                  | (refine up_quiet rfl rfl (v := ?_) (fun W hW => ?_) ?_; rotate_left; (have g1 := C1.out W hW; have g2 := C2.out W hW; go_simp <;> with_reducible rfl); simp only [Act.put, List.setIfInBounds_toArray, List.set_cons_zero, List.set_cons_succ]))
                refine up_nil ?_
                go_wp2
                go_roundw
                case rel => exact ⟨j + 1, q' + 1, true, by go_num, by omega, rfl, rfl, HN⟩
                case measure => simp [intOf]; omega
              · have HN := Lib.hid (show false = decide (nameBad (L.take (j + 1)) s2) by
                  rw [eq_comm, decide_eq_false_iff_not, NS.out]
                  rintro (hh | hh)
                  · exact of_decide_eq_false HJ.out.symm hh
                  · exact he hh)
                rw [decide_eq_false he] at hq
                clear he
                go_wp2_with fail
                refine wp_region_up New [(true, 0), (true, 1), (true, 2), (true, 3), (true, 4), (true, 5), (true, 6), (true, 7), (true, 8), (true, 9), (true, 10), (true, 11), (true, 12), (true, 13), (true, 14)]
                  New.refl New.trans (by kernel_rfl) (by kernel_rfl) (by kernel_rfl) (by kernel_rfl) ?_
                repeat (first
                  | (refine up_quiet rfl rfl (v := ?_) (fun W hW => ?_) ?_; rotate_left; (have g1 := C1.out W hW; have g2 := C2.out W hW; go_simp <;> with_reducible rfl); simp only [Act.put, List.setIfInBounds_toArray, List.set_cons_zero, List.set_cons_succ]))
                refine up_nil ?_
                go_wp2
                go_roundw
                case rel => exact ⟨j + 1, q' + 1, false, by go_num, by omega, rfl, rfl, HN⟩
                case measure => simp [intOf]; omega
            · obtain rfl : j = k := by omega
              obtain ⟨ad1, e1, hbk1, c01, c02, _⟩ := (h.drewN q').colT hlt
              injection e1 with e1
              subst e1
              rw [HT2.out] at c02
              have HJ := HJ.out
              cases bb
              · have hnb := of_decide_eq_false HJ.symm
                have hck := ck2.out hnb
                clear HJ hnb
                by_cases ht : 0 ≤ t2 ∧ t2 ≤ 3
                · rw [if_pos ht] at hck
                  have HN := Lib.hid (show O = colsGo (L.take (j + 1)) (L.drop (j + 1)) by rw [HS.out, if_pos hck])
                  have g3 : decide (t2 < 0) = false := by simp; omega
                  have g4 : decide (3 < t2) = false := by simp; omega
                  clear hck HS ck1 ck2 ht
                  go_wp2
                  go_roundw
                  case rel => exact ⟨j + 1, q', by go_num, by omega, rfl, HN⟩
                  case measure => simp [intOf]; omega
                · rw [if_neg ht] at hck
                  have HN := Lib.hid (show O = 3 by rw [HS.out, hck, if_neg (by omega)])
                  have ht2 : t2 < 0 ∨ (¬ t2 < 0 ∧ 3 < t2) := by omega
                  clear hck HS ck1 ck2 ht
                  rcases ht2 with ht2 | ⟨ht2, ht3⟩
                  · go_wp2
                    go_ret
                    exact ⟨by rw [HN.out]; rfl, new_drewN _ _⟩
                  · have g3 : decide (t2 < 0) = false := decide_eq_false ht2
                    go_wp2
                    go_ret
                    exact ⟨by rw [HN.out]; rfl, new_drewN _ _⟩
              · have hnb := of_decide_eq_true HJ.symm
                have hck := ck1.out hnb
                have HN := Lib.hid (show O = 1 by rw [HS.out, hck, if_neg (by omega)])
                clear HJ hnb hck HS ck1 ck2
                go_wp2
                go_ret
                exact ⟨by rw [HN.out]; rfl, new_drewN _ _⟩
      · obtain rfl : k = L.length := by omega
        have HS2 := Lib.hid (show O = 0 by rw [H.out, colsGo_end])
        go_wp2
        go_ret
        exact ⟨by rw [HS2.out]; rfl, new_drewN _ _⟩

end Go.Proofs.Ytcnaameebbcmhaa
