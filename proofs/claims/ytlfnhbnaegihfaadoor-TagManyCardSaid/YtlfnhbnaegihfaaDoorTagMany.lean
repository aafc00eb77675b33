/- TagMany returns true whatever comes in, and leaves all that was there as it was. -/
import Derived.Test.YtlfnhbnaegihfaaDoorTagLogs

namespace Go.Hm
open Go Go.RowKit
def frameR (r : RowS) : Option (List Nat) := frameO r.1 (bytesOf r.2.2.2)
theorem map_at {F : List (List Nat)} {R : List RowS} (h : R.map frameR = F.map some) {j : Nat} (hj : j < F.length) : j < R.length ∧ frameR (R.getD j rowZ) = some (F.getD j []) := by
  have hl : R.length = F.length := by have := congrArg List.length h; simpa using this
  refine ⟨by omega, ?_⟩
  have h2 : (R.map frameR)[j]? = (F.map some)[j]? := by rw [h]
  rw [List.getElem?_map, List.getElem?_map, List.getElem?_eq_getElem (by omega), List.getElem?_eq_getElem hj] at h2
  rw [List.getD_eq_getElem?_getD, List.getElem?_eq_getElem (by omega), List.getD_eq_getElem?_getD, List.getElem?_eq_getElem hj]
  simpa using h2

end Go.Hm

namespace Go.Proofs.YtlfnhbnaegihfaaDoor
open Go.RowKit Go.Hm
theorem elRow : ElT Tryd.prog 37 41 (.agg #[.string ⟨#[]⟩, .slice none 0 0]) 2 40 := ⟨by kernel_rfl, by kernel_rfl, rfl, by omega⟩
/-- Rows of a type that no log holds are kept when a log is turned. -/
theorem row_log {w w' : World} {base base' g sz n : Nat} {e : TypeId} {v V : Value} {xs : List Value} {F : List (List Nat)} (h : w.ownsRow base e sz v n xs) (h' : LogAt w base' g V F) (h1 : e ≠ 54) (h2 : e ≠ 23) (k : Turns (g :: rowT V) w w') : w'.ownsRow base e sz v n xs := by
  obtain ⟨A, m, c, D, rfl, hb, ho, _⟩ := h'
  refine row_touch h k fun x hx => ?_
  rcases List.mem_cons.1 hx with rfl | hx
  · exact row_blk_ne h hb h1
  · exact row_row h ho h2 x hx
/-- Rows that a law keeps: each has its frame among F. -/
def Kept (w : World) (R : List RowS) (F : List (List Nat)) : Prop := (∀ r ∈ R, RowIn w r ∧ r.2.2.2.length ≤ 260 ∧ tsum (bytesOf r.2.2.2) ≤ 1500) ∧ R.map frameR = F.map some
set_option maxHeartbeats 8000000 in
set_option maxRecDepth 100000 in
theorem tagMany_walk {w : World} {A : Option Addr} {c : Nat} {L : List RowS} (hL : LogRows w A L) (hC : ConstIn w) :
    Calls Tryd.prog 8 #[.slice A L.length c] w (SmallPost w) := by
  have SM := Lib.hid (small02_any w hC)
  have HL := Lib.hid hL
  have HC := Lib.hid hC
  clear hL hC
  go_enter Tryd.func8, Tryd.ntmps8
  go_wp2_with fail
  refine SM.out.mono ?_
  rintro e w1 ⟨rfl, b1⟩
  have B1 := Lib.hid b1
  clear SM b1
  go_wp2_with fail
  refine new_any.mono ?_
  rintro e w2 ⟨rfl, rfl⟩
  have l1 := LogAt.made w1 w.heap.size
  obtain ⟨w3, hw3⟩ : ∃ W, W = w1.alloc (.cells #[.slice none 0 0] 54) := ⟨_, rfl⟩
  have b3 : New w w3 := by rw [hw3]; exact New.trans B1.out (new_alloc _ _)
  rw [← hw3] at l1
  rw [← hw3]
  have hgw : w.heap.size ≤ w1.heap.size := B1.out.size
  generalize w1.heap.size = g at *
  have B3 := Lib.hid b3
  have L1 := Lib.hid l1
  clear hw3 B1 b3 l1
  by_cases h3 : 20 < L.length
  · have d3 : decide ((20 : Int) < (L.length : Int)) = true := by simp; omega
    go_wp2
    go_ret
    exact ⟨rfl, B3.out⟩
  have d3 : decide ((20 : Int) < (L.length : Int)) = false := by simp; omega
  go_wp2
  clear d3
  go_loopw [5, 6] (fun v i wr => ∃ (k : Nat) (Aw : Option Addr) (nw cw : Nat), k ≤ L.length ∧ i = .int .i64 (k : Int) ∧ v = .slice Aw nw cw ∧ nw ≤ k ∧ Hid (∃ (V : Value) (F : List (List Nat)) (R : List RowS), LogAt wr w.heap.size g V F ∧ wr.ownsRow w.heap.size 41 2 (.slice Aw nw cw) nw (recs rowV R) ∧ R.length = nw ∧ Kept w R F ∧ F.length ≤ k ∧ GoodF F) ∧ Hid (New w wr)) (fun _ i _ => L.length - (intOf i).toNat)
  case atStart => exact ⟨0, none, 0, 0, by omega, rfl, rfl, by omega, Lib.hid ⟨_, [], [], L1.out, row_nil, rfl, ⟨(fun _ hr => nomatch hr), rfl⟩, by simp, (fun _ hp => nomatch hp)⟩, B3⟩
  case round =>
    clear L1 B3
    obtain ⟨k, Aw, nw, cw, hk, rfl, rfl, hnk, LW, b⟩ := hrel
    by_cases hlt : k < L.length
    · obtain ⟨ad, rfl, ri, hc⟩ := HL.out.at_ hlt
      have CE := Lib.hid hc
      obtain ⟨k0, k1⟩ := hc wr b.out
      generalize L.getD k rowZ = r at *
      obtain ⟨s, Ap, cp, D⟩ := r
      have RI := Lib.hid ri
      have hn : D.length ≤ 4611686018427387903 := ri.few
      have hs : s.length ≤ 140737488351232 := ri.tag.2
      have z1 := bstr_size s
      have FW := Lib.hid (few_any2 (ri.later b.out).rows (by show D.length ≤ _; omega) (fun p hp => (ri.fine p hp).2))
      clear ri hc
      go_wp2_with fail
      refine FW.out.mono ?_
      rintro e w5 ⟨rfl, rfl⟩
      obtain ⟨fw, hfw⟩ : ∃ fw, fw = fewT (bytesOf D) := ⟨_, rfl⟩
      rw [← hfw]
      have HFW := Lib.hid hfw
      clear hfw FW
      cases fw with
      | false =>
        go_wp2
        go_ret
        exact ⟨rfl, b.out⟩
      | true =>
      by_cases h5 : 300 < s.length
      · have d5 : decide ((300 : Int) < (s.length : Int)) = true := by simp; omega
        go_wp2
        go_ret
        exact ⟨rfl, b.out⟩
      have d5 : decide ((300 : Int) < (s.length : Int)) = false := by simp; omega
      have ht := few_of HFW.out.symm
      obtain ⟨V, F, R, l1, o1, hR, hK, f1, g1⟩ := LW.out
      have hT := l1.own (B := w.heap.size) (Nat.le_refl _) hgw
      have FR := Lib.hid (fun (W : World) (hW : New wr W) => frame_any ((RI.out.later (New.trans b.out hW)).rows) (by show D.length ≤ _; omega) RI.out.tag.1 hs (by show tsum (bytesOf D) ≤ _; omega))
      have FG := Lib.hid (frame_good RI.out.tag.1 RI.out.fine (by show tsum (bytesOf D) ≤ _; omega))
      have HT := Lib.hid hT
      have LD := Lib.hid l1
      have OD := Lib.hid o1
      have G1 := Lib.hid g1
      have HFl := Lib.hid f1
      have HR := Lib.hid hR
      have HK := Lib.hid hK
      clear l1 o1 hR hK f1 g1 hT LW
      go_wp2
      clear k0 k1 d5
      refine wp_region_up New [(true, 0), (true, 1), (true, 2), (true, 3), (true, 4), (true, 5), (true, 6), (true, 7), (true, 8), (true, 9), (false, 10), (true, 11), (true, 12), (true, 13), (true, 14), (true, 15)]
        New.refl New.trans (by kernel_rfl) (by kernel_rfl) (by kernel_rfl) (by kernel_rfl) ?_
      have hU := New.drew wr
      iterate 10 (
        refine up_quiet rfl rfl (v := ?_) (fun W hW => ?_) ?_
        rotate_left
        · obtain ⟨k0, k1⟩ := CE.out W (New.trans b.out (New.trans hU hW))
          go_simp <;> with_reducible rfl
        simp only [Act.put, List.setIfInBounds_toArray, List.set_cons_zero, List.set_cons_succ])
      refine up_call rfl rfl (fun K hK => ?_)
      go_simp
      (with_reducible refine (FR.out _ hU).mono ?_)
      rintro e w9 hx
      obtain ⟨A9, n9, c9, rfl, _, b9⟩ := hx.u
      refine hK _ _ b9 ?_
      clear hK hx
      replace hU := New.trans hU b9
      iterate 5 (
        refine up_quiet rfl rfl (v := ?_) (fun W hW => ?_) ?_
        rotate_left
        · skip
          go_simp <;> with_reducible rfl
        simp only [Act.put, List.setIfInBounds_toArray, List.set_cons_zero, List.set_cons_succ])
      refine up_nil ?_
      have LD := Lib.hid (LD.out.new hU)
      have OD := Lib.hid (row_later OD.out hU)
      have B9 := Lib.hid (New.trans b.out hU)
      clear b9 hU FR b
      obtain ⟨w0, hw0⟩ : ∃ W, W = w9.drew := ⟨_, rfl⟩
      have b0 : New w w0 := by rw [hw0]; exact New.trans B9.out (New.drew w9)
      have l0 : LogAt w0 w.heap.size g V F := by rw [hw0]; exact LD.out.new (New.drew w9)
      have o0 := row_later OD.out (New.drew w9)
      rw [← hw0] at o0
      have LH := Lib.hid (lhash_any l0 b0.size (by have := HFl.out; omega) (RI.out.later b0).rows (by show D.length ≤ _; omega) RI.out.tag.1 hs (by show tsum (bytesOf D) ≤ _; omega) RI.out.fine.lt (fun w' h => HC.out.turn b0 h HT.out))
      have HA := Lib.hid (fun (W : World) (hW : Turns (g :: rowT V) w0 W) => hash_any (RI.out.later (Turns.below b0 hW HT.out (Nat.le_refl _))).rows (by show D.length ≤ _; omega) RI.out.tag.1 hs (by show tsum (bytesOf D) ≤ _; omega) RI.out.fine.lt (HC.out.turn b0 hW HT.out))
      have QC := Lib.hid (fun (W : World) (hW : Turns (g :: rowT V) w0 W) => CE.out W (Turns.below b0 hW HT.out (Nat.le_refl _)))
      have DK : (Tryd.prog).eqGuardType (Tryd.prog).depth 33 = false := by kernel_rfl
      have DK := Lib.hid DK
      have EQ := run_eql_arr (P := Tryd.prog) (k := .u8) digarr (by kernel_rfl) (by kernel_rfl) (by kernel_rfl) (by kernel_rfl) (hashO s (bytesOf D)) (hashO s (bytesOf D)) (hashO_len s (bytesOf D)) (hashO_len s (bytesOf D))
      rw [show (hashO s (bytesOf D) == hashO s (bytesOf D)) = true by simp] at EQ
      obtain ⟨cs, hcs⟩ : ∃ cs, cs = (ints .u8 (hashO s (bytesOf D))).toArray := ⟨_, rfl⟩
      have hdv : digV (hashO s (bytesOf D)) = .agg cs := by rw [hcs]; rfl
      rw [hdv] at LH
      have HA := Lib.hid (show ∀ W, Turns (g :: rowT V) w0 W → Calls Tryd.prog 16 #[.string (bstr s), .slice Ap D.length cp] W (NewPost (.agg cs) W) from fun W hW => by rw [← hdv]; exact HA.out W hW)
      rw [← hcs] at EQ
      have HEQ := Lib.hid EQ
      have L0 := Lib.hid l0
      have O0 := Lib.hid o0
      have B0 := Lib.hid b0
      have HW0 := Lib.hid hw0
      clear hcs hdv EQ l0 o0 b0 hw0 LD OD B9
      go_wp2
      refine wp_region_up (Turns (g :: rowT V)) [(true, 0), (true, 1), (true, 2), (true, 3), (true, 4), (true, 5), (true, 6), (true, 7), (true, 8), (true, 9), (true, 10), (true, 12), (true, 13), (true, 14), (true, 15), (true, 16), (true, 17), (true, 18), (true, 19), (true, 20), (true, 21), (false, 11), (false, 22), (true, 23)]
        (Turns.refl _) Turns.trans (by kernel_rfl) (by kernel_rfl) (by kernel_rfl) (by kernel_rfl) ?_
      rw [← HW0.out]
      iterate 21 (
        refine up_quiet rfl rfl (v := ?_) (fun W hW => ?_) ?_
        rotate_left
        · obtain ⟨k0, k1⟩ := QC.out W hW
          go_simp <;> with_reducible rfl
        simp only [Act.put, List.setIfInBounds_toArray, List.set_cons_zero, List.set_cons_succ])
      refine up_call rfl rfl (fun K hK => ?_)
      go_simp
      (with_reducible refine LH.out.mono ?_)
      rintro e w7 ⟨rfl, V', l7, _, t7⟩
      refine hK _ _ t7 ?_
      clear hK
      refine up_call rfl rfl (fun K hK => ?_)
      go_simp
      (with_reducible refine (HA.out w7 t7).mono ?_)
      rintro e w8 ⟨rfl, b8⟩
      refine hK _ _ (Turns.of_new b8) ?_
      clear hK
      refine up_quiet rfl rfl (v := .bool false) (fun W hW => exec_aggN rfl rfl DK.out (run_neq_agg (HEQ.out W))) ?_
      simp only [Act.put, List.setIfInBounds_toArray, List.set_cons_zero, List.set_cons_succ]
      refine up_nil ?_
      have L8 := Lib.hid (l7.new b8)
      have O8 := Lib.hid (row_later (row_log O0.out L0.out (by decide) (by decide) t7) b8)
      have B8 := Lib.hid (New.trans (Turns.below B0.out t7 HT.out (Nat.le_refl _)) b8)
      have G2 := Lib.hid (G1.out.add FG.out)
      have FL2 := Lib.hid (Nat.le_trans (add_len F (frameO s (bytesOf D))) (Nat.succ_le_succ HFl.out))
      obtain ⟨o, ho⟩ : ∃ o, o = frameO s (bytesOf D) := ⟨_, rfl⟩
      rw [← ho] at L8 G2 FL2 ⊢
      have HO := Lib.hid ho
      obtain ⟨c0, c1⟩ := CE.out w8 B8.out
      clear l7 t7 b8 LH HA QC HT L0 O0 B0 G1 HFl HW0 HEQ ho
      cases o with
      | none =>
        have LW2 : Hid (∃ (V : Value) (F : List (List Nat)) (R : List RowS), LogAt w8 w.heap.size g V F ∧ w8.ownsRow w.heap.size 41 2 (.slice Aw nw cw) nw (recs rowV R) ∧ R.length = nw ∧ Kept w R F ∧ F.length ≤ k + 1 ∧ GoodF F) :=
          Lib.hid ⟨V', F, R, by have := L8.out; rwa [Option.toList_none, List.append_nil] at this, O8.out, HR.out, HK.out, by have := FL2.out; rwa [Option.toList_none, List.append_nil] at this, by have := G2.out; rwa [Option.toList_none, List.append_nil] at this⟩
        clear L8 O8 G2 FL2 c0 c1
        go_wp2
        go_roundw
        case rel => exact ⟨k + 1, Aw, nw, cw, by omega, by go_num, rfl, by omega, LW2, B8⟩
        case measure => simp [intOf]; omega
      | some f =>
        have o8 := O8.out
        have b8s := B8.out.size
        go_wp2_with ((refine wpList_pushR elRow rfl (.tmp 92) (.tmp 97) rfl (W := w8) (B := 0) (base := w.heap.size) (n := nw) o8 rfl rfl (Below.refl _ _) (Nat.zero_le _) b8s rfl (by simp [Value.oneCell']) (by omega) (by simp only [maxLen]; omega) ?_)
                     intro A10 c10 w10 _ _ o10 g10 _ z10 _)
        have tk : Turns (rowT (.slice Aw nw cw)) w8 w10 := Turns.row g10
        have l10 : LogAt w10 w.heap.size g V' (F ++ [f]) := by
          obtain ⟨Al, nl, cl, Dl, rfl, hb, ho', hp, hq⟩ := L8.out
          exact LogAt.turn ⟨Al, nl, cl, Dl, rfl, hb, ho', hp, hq⟩ tk (fun hx => rowT_ne O8.out hb (by decide) hx) (fun x hx => row_row ho' O8.out (by decide) x hx) (fun x hx _ cs hB => rowT_ne O8.out hB (by decide) hx)
        have hK2 : Kept w (R ++ [(s, Ap, cp, D)]) (F ++ [f]) := by
          refine ⟨fun r hr => ?_, ?_⟩
          · rcases List.mem_append.1 hr with hr | hr
            · exact HK.out.1 r hr
            · obtain rfl := List.mem_singleton.1 hr
              exact ⟨RI.out, ht⟩
          · rw [List.map_append, List.map_append, HK.out.2]
            show _ ++ [frameO s (bytesOf D)] = _
            rw [← HO.out]
            rfl
        have LW2 : Hid (∃ (V : Value) (F : List (List Nat)) (R : List RowS), LogAt w10 w.heap.size g V F ∧ w10.ownsRow w.heap.size 41 2 (.slice A10 (nw + 1) c10) (nw + 1) (recs rowV R) ∧ R.length = nw + 1 ∧ Kept w R F ∧ F.length ≤ k + 1 ∧ GoodF F) :=
          Lib.hid ⟨V', _, _, l10, by rw [recs_append]; exact o10, by rw [List.length_append, HR.out]; rfl, hK2, FL2.out, G2.out⟩
        have B10 := Lib.hid (Turns.below B8.out tk (fun x hx => (rowT_ge O8.out x hx).1) (Nat.le_refl _))
        clear L8 O8 G2 FL2 c0 c1 tk l10 hK2 o10 g10 o8 HK HR
        go_roundw
        case rel => exact ⟨k + 1, A10, nw + 1, c10, by omega, by go_num, rfl, by omega, LW2, B10⟩
        case measure => simp [intOf]; omega
    · obtain rfl : k = L.length := by omega
      obtain ⟨V, F, R, l1, o1, hR, hK, f1, g1⟩ := LW.out
      have FR := Lib.hid (lframes_any l1 (by omega) (fun p hp => by have := (g1 p hp).2; omega))
      have hRF : R.length = F.length := by have := congrArg List.length hK.2; simpa using this
      have OR := Lib.hid o1
      have HK := Lib.hid hK
      have G1 := Lib.hid g1
      have HRF := Lib.hid hRF
      have HR := Lib.hid hR
      clear l1 o1 hR hK g1 hRF LW
      go_wp2_with fail
      refine FR.out.mono ?_
      rintro e w12 ⟨Ag, cg, Dg, rfl, og, pg, hg, b12⟩
      have o12 := row_later OR.out b12
      have rg := Lib.hid (FramesPost.rows og pg)
      have HG := Lib.hid hg
      have hrw : LogRows w12 Aw R := ⟨by have := Reads.of_own o12; rwa [← HR.out] at this, fun r hr => (HK.out.1 r hr).1.later (New.trans b.out b12)⟩
      have HRW := Lib.hid hrw
      have B12 := Lib.hid (New.trans b.out b12)
      have hDl : Dg.length = F.length := by rw [← hg, bytesOf_len]
      have HDL := Lib.hid hDl
      have hnw : nw = F.length := by rw [← HR.out, HRF.out]
      clear FR og pg hg o12 hrw b12 b OR hDl
      subst hnw
      have d6 : ((F.length : Int) == (F.length : Int)) = true := by simp
      go_wp2
      clear d6
      go_loopw [11] (fun i wr => ∃ j : Nat, j ≤ F.length ∧ i = .int .i64 (j : Int) ∧ Hid (New w12 wr)) (fun i _ => F.length - (intOf i).toNat)
      case atStart => exact ⟨0, by omega, rfl, Lib.hid (Below.refl _ _)⟩
      case round =>
        obtain ⟨j, hj, rfl, N⟩ := hrel
        by_cases hjt : j < F.length
        · have hjd : j < Dg.length := by rw [HDL.out]; exact hjt
          obtain ⟨hjR, hfr⟩ := map_at HK.out.2 hjt
          obtain ⟨ag, rfl, _⟩ := rg.out.at_ hjd
          have CG := Lib.hid (fun (W : World) (hW : New w12 W) => rg.out.cells hjd W hW)
          have RG := Lib.hid (fun (W : World) (hW : New w12 W) => ((rg.out.later hW).parts.at_ hjd))
          obtain ⟨ar, rfl, ri, hc⟩ := HRW.out.at_ hjR
          have CR := Lib.hid hc
          have hrm : R.getD j rowZ ∈ R := by
            rw [List.getD_eq_getElem?_getD, List.getElem?_eq_getElem hjR]
            exact List.getElem_mem hjR
          obtain ⟨_, hr1, hr2⟩ := HK.out.1 _ hrm
          have hbd : (Dg.getD j (none, 0, [])).2.2 = F.getD j [] := by rw [← bytesOf_at, HG.out]
          have hgf := G1.out (F.getD j []) (mem_getD (L := F) (k := j) hjt)
          generalize Dg.getD j (none, 0, []) = d at *
          generalize F.getD j [] = f at *
          generalize R.getD j rowZ = r at *
          obtain ⟨s, Ap, cp, D⟩ := r
          have hn : D.length ≤ 260 := hr1
          have ht : tsum (bytesOf D) ≤ 1500 := hr2
          have hs : s.length ≤ 140737488351232 := ri.tag.2
          have z1 := bstr_size s
          have hfr : frameO s (bytesOf D) = some f := hfr
          have hpf := parse_frame (fun p hp => by have := (ri.fine p hp).2; omega) hfr
          have RI := Lib.hid ri
          have P1 := parse_any (c := d.2.1) (RG.out wr N.out).1 (by rw [hbd]; exact hgf.1) (RG.out wr N.out).2.1 (by rw [hbd]; have := hgf.2; omega)
          rw [hbd, hpf] at P1
          have P1 := Lib.hid P1
          have HBD := Lib.hid hbd
          have HFR := Lib.hid hfr
          have HGF := Lib.hid hgf
          have k0 := CG.out wr N.out
          rw [hbd] at k0
          clear hbd hpf hfr hgf ri hc hr1 hr2 hrm
          go_wp2_with fail
          refine P1.out.mono ?_
          rintro e w14 hx
          obtain ⟨A5, n5, c5, D5, rfl, r5, e5, b5⟩ := hx
          have e5 : bytesOf D5 = bytesOf D := e5
          have N14 := Lib.hid (New.trans N.out b5)
          have n5l : n5 = D.length := by rw [r5.len, ← bytesOf_len, e5, bytesOf_len]
          subst n5l
          have R5 := Lib.hid r5
          have E5 := Lib.hid e5
          have sm := same_any r5 (RI.out.later N14.out).rows (by rw [e5]; exact RI.out.fine.lt) RI.out.fine.lt (by omega) (by show D.length ≤ _; omega)
          rw [decide_eq_true (show bytesOf D5 = bytesOf D from e5)] at sm
          have SM := Lib.hid sm
          obtain ⟨c0, c1⟩ := CR.out w14 N14.out
          have d8 : ((bstr s).toList == (bstr s).toList) = true := by simp
          clear k0 P1 r5 e5 b5 sm
          rw [show (Option.map Prod.fst (some (s, bytesOf D))).getD [] = s from rfl]
          go_wp2_with fail
          refine SM.out.mono ?_
          rintro e w15 ⟨rfl, b15⟩
          have N15 := Lib.hid (New.trans N14.out b15)
          have R5 := Lib.hid (R5.out.later b15)
          have su := sum_any (c := d.2.1) (l := f) (by have := (RG.out w15 N15.out).1; rwa [HBD.out] at this) HGF.out.1 (by have := (RG.out w15 N15.out).2.1; rwa [HBD.out] at this) HGF.out.2 (HC.out.new (New.trans B12.out N15.out))
          have SU := Lib.hid su
          have k0 := CG.out w15 N15.out
          rw [HBD.out] at k0
          clear SM b15 c0 c1 d8 su N14
          go_wp2_with fail
          refine SU.out.mono ?_
          rintro e w16 ⟨rfl, b16⟩
          have N16 := Lib.hid (New.trans N15.out b16)
          have R5 := Lib.hid (R5.out.later b16)
          have ha := hash_any (s := s) R5.out (by omega) RI.out.tag.1 hs (by rw [E5.out]; omega) (by rw [E5.out]; exact RI.out.fine.lt) (HC.out.new (New.trans B12.out N16.out))
          rw [E5.out, show hashO s (bytesOf D) = sumI f by unfold hashO; rw [HFR.out]; rfl] at ha
          have EQ := eqDig2 f f
          rw [show (sumI f == sumI f) = true by simp] at EQ
          have ha : Calls Tryd.prog 16 #[.string (bstr s), .slice A5 D.length c5] w16 (NewPost (.agg (ints .u8 (sumI f)).toArray) w16) := ha
          obtain ⟨cs, hcs⟩ : ∃ cs, cs = (ints .u8 (sumI f)).toArray := ⟨_, rfl⟩
          rw [← hcs] at EQ ha ⊢
          have HA := Lib.hid ha
          have NQ := fun W => run_neq_agg (EQ W)
          have NQ := Lib.hid NQ
          clear hcs EQ ha SU b16 k0 N15
          go_wp2_with fail
          refine HA.out.mono ?_
          rintro e w17 ⟨rfl, b17⟩
          have N17 := Lib.hid (New.trans N16.out b17)
          have NE := NQ.out w17
          clear b17 HA N16
          go_wp2
          go_roundw
          case rel => exact ⟨j + 1, by omega, by go_num, N17⟩
          case measure => simp [intOf]; omega
        · obtain rfl : j = F.length := by omega
          have BE := Lib.hid (New.trans B12.out N.out)
          go_wp2
          go_ret
          exact ⟨rfl, BE.out⟩

set_option maxRecDepth 100000 in
open Go.WideShapes Go.ChangeShapes in
theorem tagMany_contract {H : Type} {enc : TypeId × Value → H} (W : World) (base : Nat) (args : Array Value) (ds : List (DataW H)) (ps : List MemPlace)
    (hval : ∀ (j : Nat) t v, Tryd.f8.params[j]? = some t → args[j]? = some v → Value.okWide Tryd.prog W .any base t v)
    (hA : DataW.TrodAll enc Tryd.prog W 0 (fun _ => true) true Tryd.f8.params.toList args.toList ds ps) (hlt : ∀ p ∈ ps, p.block < W.heap.size)
    (hsz : (DataW.weightsEach Tryd.prog Tryd.f8.params.toList ds).all (· ≤ reachBytes) = true) (hL : laidMetH Tryd.prog laidC W) :
    Calls Tryd.prog 8 args W fun e W' => e = .returned (.bool true) ∧ Below W.heap.size W W' := by
  rw [Tryd.params8] at hA hval hsz
  obtain ⟨v0, d0, rfl, rfl, h0⟩ := trodAll_one hA
  -- a: v0 d0 p0 h0, hval 0
  obtain ⟨A_a, c_a, L_a, rfl, hr_a, hf_a, _⟩ := open_Rows (hval 0 _ _ rfl rfl) h0 hlt (sized_at hsz (j := 0) rfl rfl)
  exact tagMany_walk ⟨hr_a, hf_a⟩ (const_of_laid hL)

end Go.Proofs.YtlfnhbnaegihfaaDoor
