/- TagLogs returns true whatever comes in, and leaves all that was there as it was. -/
import Derived.Test.YtlfnhbnaegihfaaDoorBun6
import Derived.Deep.DeepCutAuto
import Derived.RegionTactic
import Derived.BigRegion

namespace Go.Hm
open Go Go.RowKit
/-- As Turns, for blocks below B alone. -/
structure TurnsB (B : Nat) (T : List Nat) (w w' : World) : Prop where
  os : w'.os = w.os
  tape : w'.tape = w.tape
  output : w'.output = w.output
  size : w.heap.size ≤ w'.heap.size
  block : ∀ k, k < B → k ∉ T → w'.heap[k]? = w.heap[k]?

section
variable {B : Nat} {T : List Nat} {w w' w2 : World}
theorem TurnsB.refl (B : Nat) (T : List Nat) (w : World) : TurnsB B T w w := ⟨rfl, rfl, rfl, Nat.le_refl _, fun _ _ _ => rfl⟩
theorem TurnsB.trans (h : TurnsB B T w w') (k : TurnsB B T w' w2) : TurnsB B T w w2 :=
  ⟨k.os.trans h.os, k.tape.trans h.tape, k.output.trans h.output, Nat.le_trans h.size k.size, fun i hi hT => (k.block i hi hT).trans (h.block i hi hT)⟩
theorem TurnsB.of (h : Turns T w w') (hB : B ≤ w.heap.size) : TurnsB B T w w' := ⟨h.os, h.tape, h.output, h.size, fun k hk hT => h.block k (Nat.lt_of_lt_of_le hk hB) hT⟩
theorem TurnsB.far {g : Nat} (h : w.grownBy w' (some g)) (hg : B ≤ g) (hB : B ≤ w.heap.size) : TurnsB B T w w' := ⟨h.os, h.tape, h.output, h.size, fun k hk _ => h.block k (Nat.lt_of_lt_of_le hk hB) (fun e => by injection e with e; omega)⟩
theorem TurnsB.alloc (o : Obj) (hB : B ≤ w.heap.size) : TurnsB B T w (w.alloc o) := .of (Turns.of_new (new_alloc w o)) hB
theorem TurnsB.turns (h : TurnsB w.heap.size T w w') : Turns T w w' := ⟨h.os, h.tape, h.output, h.size, h.block⟩
end

end Go.Hm

namespace Go.Proofs.YtlfnhbnaegihfaaDoor
open Go.RowKit Go.Hm
/-- Rows of bytes of the call's own, in the slice V. -/
def WantAt (w : World) (base : Nat) (V : Value) (F : List (List Nat)) : Prop := ∃ A n c D, V = .slice A n c ∧ Own w base 23 (.slice A n c) (recs partV D) ∧ PartsT 5 w D ∧ bytesOf D = F
theorem WantAt.new {w w' : World} {base : Nat} {V : Value} {F : List (List Nat)} (h : WantAt w base V F) (hb : New w w') : WantAt w' base V F := by
  obtain ⟨A, n, c, D, rfl, h2, h3, h4⟩ := h
  exact ⟨A, n, c, D, rfl, h2.later hb, h3.below hb, h4⟩
theorem WantAt.ge {w : World} {base : Nat} {V : Value} {F : List (List Nat)} (h : WantAt w base V F) : ∀ x ∈ rowT V, base ≤ x ∧ x < w.heap.size := by
  obtain ⟨A, n, c, D, rfl, h2, _⟩ := h
  exact rowT_ge h2
theorem WantAt.rows {w : World} {base : Nat} {V : Value} {F : List (List Nat)} (h : WantAt w base V F) : ∃ A c D, V = .slice A F.length c ∧ RowsAt w A F.length c D ∧ bytesOf D = F := by
  obtain ⟨A, n, c, D, rfl, h2, h3, rfl⟩ := h
  have hn := h2.len
  rw [recsP_len] at hn
  rw [bytesOf_len, ← hn]
  exact ⟨A, c, D, rfl, ⟨h2.reads, h3.ins, h2.cap.1⟩, rfl⟩
theorem WantAt.turn {w w' : World} {base : Nat} {V : Value} {F : List (List Nat)} {T : List Nat} (h : WantAt w base V F) (k : Turns T w w') (hV : ∀ x ∈ T, V.ownBlock ≠ some x) (hp : ∀ x ∈ T, x < w.heap.size → ∀ cs, ¬ Blk w x 5 cs) : WantAt w' base V F := by
  obtain ⟨A, n, c, D, rfl, h2, h3, h4⟩ := h
  refine ⟨A, n, c, D, rfl, h2.touch k hV, fun d hd => ⟨⟨⟨(h3 d hd).1.1.1, fun hn => ?_⟩, fun hn ad ha => ?_⟩, (h3 d hd).2⟩, h4⟩
  · obtain ⟨ad, e1, hb, hc⟩ := (h3 d hd).1.1.2 hn
    obtain ⟨cs, hB⟩ := (h3 d hd).1.2 hn ad e1
    have hT : ad.block ∉ T := fun hm => hp _ hm hb cs hB
    refine ⟨ad, e1, Nat.lt_of_lt_of_le hb k.size, fun j u hu => ?_⟩
    rw [World.cell?_of_block (a := ad.add j) (k.block (ad.add j).block (by rw [block_of_add]; exact hb) (by rw [block_of_add]; exact hT))]
    exact hc j u hu
  · obtain ⟨cs, hB⟩ := (h3 d hd).1.2 hn ad ha
    exact ⟨cs, hB.touch k (fun hm => hp _ hm hB.lt cs hB)⟩
/-- Rows of a log, beside rows of the call's own: kept when the log is turned. -/
theorem WantAt.log {w w' : World} {base base' g : Nat} {V V' : Value} {F F' : List (List Nat)} (h : WantAt w base V F) (h' : LogAt w base' g V' F') (hd : ∀ x ∈ rowT V', V.ownBlock ≠ some x) (k : Turns (g :: rowT V') w w') : WantAt w' base V F := by
  refine h.turn k (fun x hx => ?_) h'.noB
  rcases List.mem_cons.1 hx with rfl | hx
  · obtain ⟨A, n, c, D, rfl, h2, _⟩ := h
    obtain ⟨A', n', c', D', rfl, h1', _⟩ := h'
    exact h2.blk_ne h1' (by decide)
  · exact hd x hx
/-- A clone that may be written. -/
def ClAt (B : Nat) (w : World) (d : PartS) : Prop := 0 < d.2.2.length → ∃ gb cs, d.1 = some ⟨gb, 0, none⟩ ∧ B ≤ gb ∧ Blk w gb 5 cs ∧ d.2.2.length ≤ cs.size
theorem ClAt.of {B : Nat} {w : World} {d : PartS} (h : Own w B 5 (.slice d.1 d.2.2.length d.2.1) (nums .u8 d.2.2)) : ClAt B w d := fun h0 => by
  obtain ⟨g, u, hA, hge, _, _, hc, _⟩ := h.at_ (i := d.2.2.length - 1) (by omega)
  obtain ⟨cs, hB⟩ := h.row g (by rw [hA]; rfl)
  refine ⟨g, cs, hA, hge, hB, ?_⟩
  rw [hB.cell] at hc
  have := (Array.getElem?_eq_some_iff.1 hc).1
  omega
theorem ClAt.set_ {B g i : Nat} {w : World} {d : PartS} {u : Value} (h : ClAt B w d) : ClAt B (w.setCell ⟨g, i, none⟩ u) d := fun h0 => by
  obtain ⟨gb, cs, h1, h2, h3, h4⟩ := h h0
  by_cases he : gb = g
  · subst he
    exact ⟨gb, _, h1, h2, h3.set_ i u, by rw [Array.size_setIfInBounds]; exact h4⟩
  · exact ⟨gb, cs, h1, h2, h3.far (p := ⟨g, i, none⟩) he u, h4⟩

section
variable {P : Program} {w : World} {a : Act} {dst : Option Tmp} {tt : TypeId} {pos : String} {af : Array Edge} {gd : Option (Nat × Bool)}
theorem exec_aggN {t t2 : TypeId} {x y : Operand} {v : Value} {xs ys : Array Value} (hx : a.eval x = .agg xs) (hy : a.eval y = .agg ys) (hm : P.eqGuardType P.depth t = false) (hv : (binOp .neq t (.agg xs) (.agg ys)).run P w = .ok v w) : (execOp a.eval ⟨dst, .binOp .neq t x y t2, tt, pos, af, gd⟩).run P w = .ok (.value v) w := by
  unfold execOp
  simp only [hx, hy, Sem.run_bind, run_eqGuard_agg (hm := hm), hv, Result.andThen_ok, Sem.run_pure]
end
theorem run_neq_agg {P : Program} {w : World} {t : TypeId} {xs ys : Array Value} {b : Bool} (h : (binOp .eql t (.agg xs) (.agg ys)).run P w = .ok (.bool b) w) : (binOp .neq t (.agg xs) (.agg ys)).run P w = .ok (.bool !b) w := by
  rw [run_eql_struct] at h
  simp only [binOp]
  simp [Op.equal, Op.maxDepth]
  cases hq : (Op.equalIn 10000 t (.agg xs) (.agg ys)).run P w with
  | ok b' w' =>
    rw [hq] at h
    simp [Result.andThen] at h ⊢
    exact h
  | _ => rw [hq] at h; simp [Result.andThen] at h
theorem recsP_get (D : List PartS) {k : Nat} (hk : k < D.length) : (recs partV D)[k]? = some (.slice (D.getD k (none, 0, [])).1 (D.getD k (none, 0, [])).2.2.length (D.getD k (none, 0, [])).2.1) := by
  have := recs_at (f := partV) (sz := 1) (fun _ => rfl) D (none, 0, []) k 0 hk (by omega)
  rw [Nat.mul_one, Nat.add_zero] at this
  exact this
set_option maxHeartbeats 8000000 in
set_option maxRecDepth 100000 in
theorem tagLogs_walk {w : World} {A : Option Addr} {c : Nat} {L : List RowS} (hL : LogRows w A L) (hC : ConstIn w) :
    Calls Tryd.prog 5 #[.slice A L.length c] w (SmallPost w) := by
  have SM := Lib.hid (small02_any w hC)
  have HL := Lib.hid hL
  have HC := Lib.hid hC
  clear hL hC
  go_enter Tryd.func5, Tryd.ntmps5
  go_wp2_with fail
  refine SM.out.mono ?_
  rintro e w1 ⟨rfl, b1⟩
  have B1 := Lib.hid b1
  clear SM b1
  go_wp2_with fail
  refine new_any.mono ?_
  rintro e w2 ⟨rfl, rfl⟩
  have l1 := LogAt.made w1 w.heap.size
  obtain ⟨w3, hw3⟩ : ∃ W, W = w1.alloc (.cells #[.slice none 0 0] 54) := ⟨_, rfl⟩
  have b3 : New w w3 := by rw [hw3]; exact New.trans B1.out (new_alloc _ _)
  rw [← hw3] at l1
  rw [← hw3]
  have hgw : w.heap.size ≤ w1.heap.size := B1.out.size
  generalize w1.heap.size = g at *
  have B3 := Lib.hid b3
  have L1 := Lib.hid l1
  clear hw3 B1 b3 l1
  by_cases h3 : 20 < L.length
  · have d3 : decide ((20 : Int) < (L.length : Int)) = true := by simp; omega
    go_wp2
    go_ret
    exact ⟨rfl, B3.out⟩
  have d3 : decide ((20 : Int) < (L.length : Int)) = false := by simp; omega
  go_wp2
  clear d3
  go_loopw [5, 6] (fun v i wr => ∃ (k : Nat) (Aw : Option Addr) (nw cw : Nat), k ≤ L.length ∧ i = .int .i64 (k : Int) ∧ v = .slice Aw nw cw ∧ Hid (∃ (V : Value) (F : List (List Nat)), LogAt wr w.heap.size g V F ∧ WantAt wr w.heap.size (.slice Aw nw cw) F ∧ (∀ x ∈ rowT V, (Value.slice Aw nw cw).ownBlock ≠ some x) ∧ F.length ≤ k ∧ GoodF F) ∧ Hid (New w wr)) (fun _ i _ => L.length - (intOf i).toNat)
  case atStart => exact ⟨0, none, 0, 0, by omega, rfl, rfl, Lib.hid ⟨_, [], L1.out, ⟨none, 0, 0, [], rfl, Own.nil_, (fun _ hd => nomatch hd), rfl⟩, by simp [Value.ownBlock], by simp, (fun _ hp => nomatch hp)⟩, B3⟩
  case round =>
    clear L1 B3
    obtain ⟨k, Aw, nw, cw, hk, rfl, rfl, LW, b⟩ := hrel
    by_cases hlt : k < L.length
    · obtain ⟨ad, rfl, ri, hc⟩ := HL.out.at_ hlt
      have CE := Lib.hid hc
      obtain ⟨k0, k1⟩ := hc wr b.out
      generalize L.getD k rowZ = r at *
      obtain ⟨s, Ap, cp, D⟩ := r
      have RI := Lib.hid ri
      have hn : D.length ≤ 4611686018427387903 := ri.few
      have hs : s.length ≤ 140737488351232 := ri.tag.2
      have z1 := bstr_size s
      have FW := Lib.hid (few_any2 (ri.later b.out).rows (by show D.length ≤ _; omega) (fun p hp => (ri.fine p hp).2))
      clear ri hc
      go_wp2_with fail
      refine FW.out.mono ?_
      rintro e w5 ⟨rfl, rfl⟩
      obtain ⟨fw, hfw⟩ : ∃ fw, fw = fewT (bytesOf D) := ⟨_, rfl⟩
      rw [← hfw]
      have HFW := Lib.hid hfw
      clear hfw FW
      cases fw with
      | false =>
        go_wp2
        go_ret
        exact ⟨rfl, b.out⟩
      | true =>
      by_cases h5 : 300 < s.length
      · have d5 : decide ((300 : Int) < (s.length : Int)) = true := by simp; omega
        go_wp2
        go_ret
        exact ⟨rfl, b.out⟩
      have d5 : decide ((300 : Int) < (s.length : Int)) = false := by simp; omega
      have ht := few_of HFW.out.symm
      obtain ⟨V, F, l1, v1, dj, f1, g1⟩ := LW.out
      have hT := l1.own (B := w.heap.size) (Nat.le_refl _) hgw
      obtain ⟨w0, hw0⟩ : ∃ W, W = wr.drew := ⟨_, rfl⟩
      have l1d : LogAt w0 w.heap.size g V F := by rw [hw0]; exact l1.new (New.drew wr)
      have v1d : WantAt w0 w.heap.size (.slice Aw nw cw) F := by rw [hw0]; exact v1.new (New.drew wr)
      have b0 : New w w0 := by rw [hw0]; exact New.trans b.out (New.drew wr)
      have LH := fun (W : World) (hW : New w0 W) => lhash_any (l1d.new hW) (Nat.le_trans b0.size hW.size) (by omega) (RI.out.later (New.trans b0 hW)).rows (by show D.length ≤ _; omega) RI.out.tag.1 hs (by show tsum (bytesOf D) ≤ _; omega) RI.out.fine.lt (fun w' h => HC.out.turn (New.trans b0 hW) h hT)
      have QC := fun (W : World) (hW : TurnsB w0.heap.size (g :: rowT V) w0 W) => CE.out W (Turns.below b0 hW.turns hT (Nat.le_refl _))
      have FG := Lib.hid (frame_good RI.out.tag.1 RI.out.fine (by show tsum (bytesOf D) ≤ _; omega))
      obtain ⟨cs, hcs⟩ : ∃ cs, Value.agg cs = digV (hashO s (bytesOf D)) := ⟨_, rfl⟩
      have hcs2 : cs = (ints .u8 (hashO s (bytesOf D))).toArray := by have := hcs; simp only [digV, Value.agg.injEq] at this; exact this
      have hl32 := hashO_len s (bytesOf D)
      have EQ := run_eql_arr (P := Tryd.prog) (k := .u8) digarr (by kernel_rfl) (by kernel_rfl) (by kernel_rfl) (by kernel_rfl) (hashO s (bytesOf D)) (hashO s (bytesOf D)) hl32 hl32
      rw [show (hashO s (bytesOf D) == hashO s (bytesOf D)) = true by simp, ← hcs2] at EQ
      have I32 : (Tryd.prog.info? 33).map (·.size) = some cs.size := by rw [hcs2]; exact i32d hl32
      have ZS : (ints .u8 zero32).toArray.size = cs.size := by rw [hcs2]; simp [ints, zero32, hl32]
      have ONE : cs.all (·.oneCell') = true := by rw [hcs2]; exact ints_one _ _
      have HCS := Lib.hid hcs
      replace QC := Lib.hid QC
      replace LH := Lib.hid LH
      have HEQ := Lib.hid EQ
      replace I32 := Lib.hid I32
      replace ZS := Lib.hid ZS
      replace ONE := Lib.hid ONE
      have HT := Lib.hid hT
      have LD := Lib.hid l1d
      have VD := Lib.hid v1d
      have DJ := Lib.hid dj
      have G1 := Lib.hid g1
      have HFl := Lib.hid f1
      have B0 := Lib.hid b0
      have HW0 := Lib.hid hw0
      clear l1 v1 dj f1 g1 hT l1d v1d LW b0 hw0 hcs hcs2 hl32 EQ
      go_upto_region 12 with (fail)
      go_cut [8] (fun s8 wx => ∃ (gd : Nat) (V' : Value), s8 = .pointer (some ⟨gd, 0, none⟩) ∧ Hid (Blk wx gd 33 cs) ∧ Hid (LogAt wx w.heap.size g V' (F ++ (frameO s (bytesOf D)).toList)) ∧ Hid (∀ x ∈ rowT V', (Value.slice Aw nw cw).ownBlock ≠ some x) ∧ Hid (WantAt wx w.heap.size (.slice Aw nw cw) F) ∧ Hid (New w wx))
      case first =>
        clear k0 k1 d5
        refine wp_region_plan (TurnsB w0.heap.size (g :: rowT V)) (.quiet 0 (.quiet 1 (.quiet 2 (.quiet 3 (.quiet 4 (.quiet 5 (.quiet 6 (.quiet 7 (.quiet 8 (.quiet 9 (.quiet 10 (.two 11 (.alone 12 (.alone 13 .done)) 12 (.alone 11 (.alone 13 .done))))))))))))))
          (TurnsB.refl _ _) TurnsB.trans (by kernel_rfl) (by kernel_rfl) (by kernel_rfl) (by kernel_rfl) ?_
        rw [← HW0.out]
        iterate 11 (
          refine plan_quiet rfl rfl (v := ?_) (fun W hW => ?_) ?_
          rotate_left
          · obtain ⟨k0, k1⟩ := QC.out W hW
            go_simp <;> with_reducible rfl
          simp only [Act.put, List.setIfInBounds_toArray, List.set_cons_zero, List.set_cons_succ])
        refine plan_two ?_ ?_
        · refine plan_op rfl rfl (fun K hK => ?_)
          go_simp
          (with_reducible refine (LH.out w0 (Below.refl _ _)).mono ?_)
          rintro e w7 ⟨rfl, V', l7, a7, t7⟩
          refine hK _ _ (.of t7 (Nat.le_refl _)) ?_
          clear hK
          have v7 := VD.out.log LD.out DJ.out t7
          have b7 := Turns.below B0.out t7 HT.out (Nat.le_refl _)
          have d7 : ∀ x ∈ rowT V', (Value.slice Aw nw cw).ownBlock ≠ some x := fun x hx e => by
            rcases a7 with a7 | ⟨h, a7, a8⟩
            · refine DJ.out x ?_ e
              unfold rowT at hx ⊢
              rwa [a7] at hx
            · have h1 := (VD.out.ge x (rowT_mem e)).2
              unfold rowT at hx
              rw [a7] at hx
              simp at hx
              omega
          refine plan_alone (plan_op rfl rfl (fun K hK => ?_))
          go_simp
          refine hK _ _ (.alloc _ t7.size) ?_
          clear hK
          refine plan_alone (plan_op rfl rfl (fun K hK => ?_))
          refine wp_store_row 33 (.tmp 8) (.tmp 63) rfl w7.heap.size cs rfl HCS.out.symm _ _ (heap_alloc_new w7 (.cells (ints .u8 zero32).toArray 33)) I32.out ZS.out ONE.out ?_
          refine hK _ _ (.far (far_setRow (g := w7.heap.size) _ cs) t7.size (by have := t7.size; simp; omega)) ?_
          clear hK
          rw [alloc_setRow]
          refine plan_done ?_
          go_wp2_with fail
          go_meet
          exact ⟨w7.heap.size, V', rfl, Lib.hid (Blk.new w7 _ cs), Lib.hid (l7.new (new_alloc _ _)), Lib.hid d7, Lib.hid (v7.new (new_alloc _ _)), Lib.hid (New.trans b7 (new_alloc _ _))⟩
        · refine plan_op rfl rfl (fun K hK => ?_)
          go_simp
          refine hK _ _ (.alloc _ (Nat.le_refl _)) ?_
          clear hK
          have c0 := new_alloc w0 (.cells (ints .u8 zero32).toArray 33)
          refine plan_alone (plan_op rfl rfl (fun K hK => ?_))
          go_simp
          refine (LH.out _ c0).mono ?_
          rintro e w7 ⟨rfl, V', l7, a7, t7⟩
          refine hK _ _ (.of t7 c0.size) ?_
          clear hK
          have gl := LD.out.lt
          have gv := LD.out.ge
          have nT : w0.heap.size ∉ g :: rowT V := fun hx => by
            rcases List.mem_cons.1 hx with e | hx
            · omega
            · have := (gv _ hx).2; omega
          have z7 : Blk w7 w0.heap.size 33 (ints .u8 zero32).toArray := (Blk.new w0 33 (ints .u8 zero32).toArray).touch t7 nT
          have v7 := (VD.out.new c0).log (LD.out.new c0) DJ.out t7
          have b7 := Turns.below (New.trans B0.out c0) t7 HT.out (Nat.le_refl _)
          have d7 : ∀ x ∈ rowT V', (Value.slice Aw nw cw).ownBlock ≠ some x := fun x hx e => by
            rcases a7 with a7 | ⟨h, a7, a8⟩
            · refine DJ.out x ?_ e
              unfold rowT at hx ⊢
              rwa [a7] at hx
            · have h1 := (VD.out.ge x (rowT_mem e)).2
              unfold rowT at hx
              rw [a7] at hx
              simp at hx
              simp at a8
              omega
          refine plan_alone (plan_op rfl rfl (fun K hK => ?_))
          refine wp_store_row 33 (.tmp 8) (.tmp 63) rfl w0.heap.size cs rfl HCS.out.symm _ _ (row_of_blk z7) I32.out ZS.out ONE.out ?_
          refine hK _ _ (.far (far_setRow (g := w0.heap.size) _ cs) (Nat.le_refl _) (Nat.le_trans c0.size t7.size)) ?_
          clear hK
          refine plan_done ?_
          go_wp2_with fail
          go_meet
          have tt : Turns [w0.heap.size] w7 (w7.setRow w0.heap.size cs) := Turns.of_far (far_setRow (g := w0.heap.size) w7 cs) (by simp)
          have nb : ∀ x ∈ [w0.heap.size], x < w7.heap.size → ∀ cs, ¬ Blk w7 x 5 cs := by
            intro x hx _ cs hB
            simp at hx
            subst hx
            exact Blk.ne_ z7 hB (by decide) rfl
          refine ⟨w0.heap.size, V', rfl, Lib.hid (blk_setRow z7 cs), Lib.hid (l7.turn tt (by simp; omega) ?_ nb), Lib.hid d7, Lib.hid (v7.turn tt ?_ nb), Lib.hid (New.far b7 (far_setRow (g := w0.heap.size) w7 cs) B0.out.size)⟩
          · intro x hx
            simp at hx
            subst hx
            obtain ⟨A', n', c', D', rfl, _, o', _⟩ := l7
            exact o'.blk_ne z7 (by decide)
          · intro x hx
            simp at hx
            subst hx
            obtain ⟨A', n', c', D', e', o', _⟩ := v7
            rw [e']
            exact o'.blk_ne z7 (by decide)
      case rest =>
        obtain ⟨gd, V', rfl, GD, L7, D7, W7, b7⟩ := hcut
        clear LH QC LD VD DJ HT B0 HW0 I32 ZS ONE b w0
        have RF := Lib.hid (fun (W : World) (hW : New wc W) => rframe_any ((RI.out.later (New.trans b7.out hW)).rows) (by show D.length ≤ _; omega) RI.out.tag.1 hs (by show tsum (bytesOf D) ≤ _; omega))
        obtain ⟨o, ho⟩ : ∃ o, o = frameO s (bytesOf D) := ⟨_, rfl⟩
        rw [← ho] at FG L7
        have RF := Lib.hid (show ∀ W, New wc W → Calls Tryd.prog 12 #[.string (bstr s), .slice Ap D.length cp] W (OptB o W) from fun W hW => by rw [ho]; exact RF.out W hW)
        clear ho
        go_wp2
        refine wp_region_up New [(true, 0), (true, 1), (true, 2), (true, 3), (true, 4), (true, 5), (true, 6), (true, 7), (true, 8), (true, 9), (false, 10), (true, 11), (true, 12), (true, 13), (true, 14), (true, 15)]
          New.refl New.trans (by kernel_rfl) (by kernel_rfl) (by kernel_rfl) (by kernel_rfl) ?_
        have hU := New.drew wc
        iterate 10 (
          refine up_quiet rfl rfl (v := ?_) (fun W hW => ?_) ?_
          rotate_left
          · obtain ⟨k0, k1⟩ := CE.out W (New.trans b7.out (New.trans hU hW))
            go_simp <;> with_reducible rfl
          simp only [Act.put, List.setIfInBounds_toArray, List.set_cons_zero, List.set_cons_succ])
        refine up_call rfl rfl (fun K hK => ?_)
        go_simp
        (with_reducible refine (RF.out _ hU).mono ?_)
        rintro e w9 hx
        obtain ⟨A9, n9, c9, rfl, o9, b9⟩ := hx.u
        refine hK _ _ b9 ?_
        clear hK hx
        replace hU := New.trans hU b9
        iterate 5 (
          refine up_quiet rfl rfl (v := ?_) (fun W hW => ?_) ?_
          rotate_left
          · skip
            go_simp <;> with_reducible rfl
          simp only [Act.put, List.setIfInBounds_toArray, List.set_cons_zero, List.set_cons_succ])
        refine up_nil ?_
        have GD := Lib.hid (GD.out.below hU GD.out.lt)
        have L9 := Lib.hid (L7.out.new hU)
        have W9 := Lib.hid (W7.out.new hU)
        have B9 := Lib.hid (New.trans b7.out hU)
        have O9 := Lib.hid o9
        clear o9 b9 hU RF b7 L7 W7
        go_upto_if 78 with (fail)
        go_cut [5] (fun s5 wx => ∃ (Aw : Option Addr) (nw cw : Nat) (V' : Value), s5 = .slice Aw nw cw ∧ Hid (Blk wx gd 33 cs) ∧ Hid (LogAt wx w.heap.size g V' (F ++ o.toList)) ∧ Hid (∀ x ∈ rowT V', (Value.slice Aw nw cw).ownBlock ≠ some x) ∧ Hid (WantAt wx w.heap.size (.slice Aw nw cw) (F ++ o.toList)) ∧ Hid (New w wx))
        case first =>
          cases o with
          | none =>
            go_wp2_with fail
            go_meet
            exact ⟨Aw, nw, cw, V', rfl, GD, L9, D7, Lib.hid (by rw [Option.toList_none, List.append_nil]; exact W9.out), B9⟩
          | some f =>
            obtain ⟨Aq, nq, cq, Dq, eq, oq, pq, hq⟩ := W9.out
            injection eq with eq1 eq2 eq3
            subst eq1 eq2 eq3
            have hlq : (recs partV Dq).length ≤ 20 := by rw [recsP_len, ← bytesOf_len, hq]; have := HFl.out; omega
            obtain rfl : n9 = f.length := by have := O9.out.len; rwa [show (some f).getD [] = f from rfl, nums_length] at this
            have b9s := B9.out.size
            have O9 := Lib.hid (show Own w9 _ 5 (.slice A9 f.length c9) (nums .u8 f) from O9.out)
            go_wp2_with ((refine wpList_push elR rfl (.tmp 79) (.tmp 81) rfl (W := w9) (B := 0) oq rfl rfl (Below.refl _ _) (Nat.zero_le _) b9s rfl (by omega) (by simp only [maxLen]; omega) ?_)
                         intro A10 c10 w10 _ _ o10 g10 _ z10 a10)
            go_meet
            have ln := oq.len
            have tk : Turns (rowT (.slice Aw nw cw)) w9 w10 := Turns.row g10
            have dd : ∀ x ∈ rowT (.slice Aw nw cw), V'.ownBlock ≠ some x := fun x hx e => D7.out x (rowT_mem e) (by unfold rowT at hx; cases h : (Value.slice Aw nw cw).ownBlock with
              | none => rw [h] at hx; simp at hx
              | some y => rw [h] at hx; simp at hx; rw [hx])
            have nb : ∀ x ∈ rowT (.slice Aw nw cw), x < w9.heap.size → ∀ cs, ¬ Blk w9 x 5 cs := fun x hx _ cs hB => rowT_ne oq hB (by decide) hx
            refine ⟨A10, _, c10, V', rfl, Lib.hid (GD.out.touch tk (fun hx => rowT_ne oq GD.out (by decide) hx)), Lib.hid (L9.out.turn tk ?_ dd nb), Lib.hid ?_, Lib.hid ?_, Lib.hid (Turns.below B9.out tk (fun x hx => (rowT_ge oq x hx).1) (Nat.le_refl _))⟩
            · obtain ⟨_, _, _, _, _, hg, _⟩ := L9.out
              exact fun hx => rowT_ne oq hg (by decide) hx
            · intro x hx e
              rcases a10 with a10 | ⟨h, a10, a11⟩
              · rw [a10] at e
                exact D7.out x hx e
              · rw [a10] at e
                injection e with e
                have := (L9.out.ge x hx).2
                omega
            · refine ⟨A10, _, c10, Dq ++ [(A9, c9, f)], rfl, ?_, (pq.push oq g10 (by decide)).snoc (d := (A9, c9, f)) ((TR.of_own O9.out).push oq g10 (by decide)) O9.out.cap.1 (by have := O9.out.cap.2; simp only [maxLen] at this; omega), by rw [bytesOf_snoc, hq]; rfl⟩
              rw [recsP_snoc]
              exact o10
        case rest =>
          clear GD L9 D7 W9 B9 O9
          obtain ⟨Aw, nw, cw, V', rfl, GD, L9, D7, W9, B9⟩ := hcut
          have G2 := Lib.hid (G1.out.add FG.out)
          have FL2 := Lib.hid (Nat.le_trans (add_len F o) (Nat.succ_le_succ HFl.out))
          generalize F ++ o.toList = F2 at *
          have HH := Lib.hid (fun (W : World) (hW : New wc W) => show Calls Tryd.prog 17 #[.string (bstr s), .slice Ap D.length cp] W (NewPost (.agg cs) W) by
            rw [HCS.out]
            exact rhash_any (RI.out.later (New.trans B9.out hW)).rows (by show D.length ≤ _; omega) RI.out.tag.1 hs (by show tsum (bytesOf D) ≤ _; omega) RI.out.fine.lt)
          have LR : ∀ W : World, New wc W → W.heap[gd]? = some (.cells cs 33 (0, 0)) := fun W hW => GD.out.below hW GD.out.lt
          have LR := Lib.hid LR
          have I32 : (Tryd.prog.info? 33).map (·.size) = some cs.size := by
            have h1 := HCS.out
            simp only [digV, Value.agg.injEq] at h1
            rw [h1]
            exact i32d (hashO_len s (bytesOf D))
          have I32 := Lib.hid I32
          have DK : (Tryd.prog).eqGuardType (Tryd.prog).depth 33 = false := by kernel_rfl
          have DK := Lib.hid DK
          go_wp2
          refine wp_region_up New [(true, 0), (true, 1), (true, 2), (true, 3), (true, 4), (true, 5), (true, 6), (true, 7), (true, 8), (true, 9), (true, 10), (false, 11), (true, 12)]
            New.refl New.trans (by kernel_rfl) (by kernel_rfl) (by kernel_rfl) (by kernel_rfl) ?_
          have hU := New.drew wc
          refine up_quiet rfl rfl (v := .agg cs) (fun W hW => exec_load_row rfl (LR.out W (New.trans hU hW)) digarr rfl I32.out) ?_
          simp only [Act.put, List.setIfInBounds_toArray, List.set_cons_zero, List.set_cons_succ]
          iterate 10 (
            refine up_quiet rfl rfl (v := ?_) (fun W hW => ?_) ?_
            rotate_left
            · obtain ⟨k0, k1⟩ := CE.out W (New.trans B9.out (New.trans hU hW))
              go_simp <;> with_reducible rfl
            simp only [Act.put, List.setIfInBounds_toArray, List.set_cons_zero, List.set_cons_succ])
          refine up_call rfl rfl (fun K hK => ?_)
          go_simp
          (with_reducible refine (HH.out _ hU).mono ?_)
          rintro e w11 ⟨rfl, b11⟩
          refine hK _ _ b11 ?_
          clear hK
          replace hU := New.trans hU b11
          refine up_quiet rfl rfl (v := .bool false) (fun W hW => exec_aggN rfl rfl DK.out (run_neq_agg (HEQ.out W))) ?_
          simp only [Act.put, List.setIfInBounds_toArray, List.set_cons_zero, List.set_cons_succ]
          refine up_nil ?_
          have L9 := Lib.hid (L9.out.new hU)
          have W9 := Lib.hid (W9.out.new hU)
          have B9 := Lib.hid (New.trans B9.out hU)
          have FR := Lib.hid (lframes_any L9.out (by have := FL2.out; omega) (fun p hp => by have := (G2.out p hp).2; omega))
          clear HH LR b11 hU GD CE RI
          go_wp2_with fail
          refine FR.out.mono ?_
          rintro e w12 ⟨Ag, cg, Dg, rfl, og, pg, hg, b12⟩
          obtain ⟨Aw', cw', Dw, e', rw', hw'⟩ := W9.out.rows
          injection e' with e1 e2 e3
          subst e1 e2 e3
          have sm := same_any (FramesPost.rows og pg) (rw'.later b12) (by rw [hg]; exact fun p hp => (G2.out p hp).1) (by rw [hw']; exact fun p hp => (G2.out p hp).1) (by have := FL2.out; omega) (by have := FL2.out; omega)
          rw [decide_eq_true (show bytesOf Dg = bytesOf Dw by rw [hg, hw'])] at sm
          have SM := Lib.hid sm
          have OG := Lib.hid og
          have PG := Lib.hid pg
          have hgl : Dg.length = F2.length := by rw [← hg, bytesOf_len]
          have HGL := Lib.hid hgl
          have HDL : Hid (∀ d ∈ Dg, d.2.2.length ≤ 1000000) := Lib.hid (fun d hd => (G2.out d.2.2 (by rw [← hg]; exact List.mem_map.2 ⟨d, hd, rfl⟩)).2)
          have B12 := Lib.hid b12
          clear FR og pg hg rw' hw' sm b12 hgl
          go_wp2_with fail
          refine SM.out.mono ?_
          rintro e w13 ⟨rfl, b13⟩
          have N13 := Lib.hid (New.trans B12.out b13)
          have OG := Lib.hid (OG.out.later b13)
          have CL := Lib.hid (fun d (hd : d ∈ Dg) => ClAt.of ((PG.out d hd).later b13))
          obtain ⟨nF, hnF⟩ : ∃ n, n = F2.length := ⟨_, rfl⟩
          rw [← hnF] at OG HGL ⊢
          obtain ⟨B0, hB0⟩ : ∃ n, n = w11.heap.size := ⟨_, rfl⟩
          rw [← hB0] at OG CL
          have HB0 := Lib.hid hB0
          have N13 := Lib.hid (show Below B0 w11 w13 by rw [hB0]; exact N13.out)
          have HNF := Lib.hid hnF
          clear SM b13 hnF hB0 B12 PG
          have hnb : nF ≤ 1000 := by rw [HNF.out]; have := FL2.out; omega
          go_wp2
          go_loopw [12] (fun i wr => ∃ j : Nat, j ≤ nF ∧ i = .int .i64 (j : Int) ∧ Hid (Own wr B0 23 (.slice Ag nF cg) (recs partV Dg)) ∧ Hid (∀ d ∈ Dg, ClAt B0 wr d) ∧ Hid (Below B0 w11 wr)) (fun i _ => nF - (intOf i).toNat)
          case atStart => exact ⟨0, by omega, rfl, OG, CL, N13⟩
          case round =>
            clear OG CL N13
            obtain ⟨j, hj, rfl, OG, CL, N13⟩ := hrel
            by_cases hjt : j < nF
            · have hjd : j < Dg.length := by rw [HGL.out]; exact hjt
              obtain ⟨gg, u0, rfl, _, _, _, _, _, _⟩ := OG.out.at_ (i := j) hjt
              have RC : ∀ W : World, Own W B0 23 (.slice (some ⟨gg, 0, none⟩) nF cg) (recs partV Dg) → W.cell? ⟨gg, j, none⟩ = some (.slice (Dg.getD j (none, 0, [])).1 (Dg.getD j (none, 0, [])).2.2.length (Dg.getD j (none, 0, [])).2.1) := fun W hW => by
                obtain ⟨g', u, hA, _, _, hx, c0, _, _⟩ := hW.at_ (i := j) hjt
                injection hA with hA
                injection hA with hA
                subst hA
                rw [recsP_get Dg hjd] at hx
                rw [c0, ← Option.some.inj hx]
              have hdm : Dg.getD j (none, 0, []) ∈ Dg := by
                rw [List.getD_eq_getElem?_getD, List.getElem?_eq_getElem hjd]
                exact List.getElem_mem hjd
              generalize Dg.getD j (none, 0, []) = d at *
              have RC := Lib.hid RC
              have hdl : d.2.2.length ≤ 1000000 := HDL.out d hdm
              have HDM := Lib.hid hdm
              clear hdm
              go_wp2
              go_loopw [13] (fun i wr => ∃ m : Nat, m ≤ d.2.2.length ∧ i = .int .i64 (m : Int) ∧ Hid (Own wr B0 23 (.slice (some ⟨gg, 0, none⟩) nF cg) (recs partV Dg)) ∧ Hid (∀ d ∈ Dg, ClAt B0 wr d) ∧ Hid (Below B0 w11 wr)) (fun i _ => d.2.2.length - (intOf i).toNat)
              case atStart => exact ⟨0, by omega, rfl, OG, CL, N13⟩
              case round =>
                clear OG CL N13
                obtain ⟨m, hm, rfl, OG, CL, N13⟩ := hrel
                have rc := RC.out wr OG.out
                by_cases hmt : m < d.2.2.length
                · obtain ⟨gb, bs, hd1, hgb, hbk, hbs⟩ := CL.out d HDM.out (by omega)
                  have hms : m < bs.size := by omega
                  have c0 : wr.cell? ⟨gb, m, none⟩ = some bs[m] := by rw [hbk.cell, Array.getElem?_eq_getElem hms]
                  have f0 : wr.frozen? ⟨gb, m, none⟩ = false := hbk.frozen m
                  rw [hd1] at rc
                  have O5 := Lib.hid (OG.out.keepT (turns_cell wr gb m (.int .u8 7)) hbk (by decide))
                  have C5 := Lib.hid (fun x (hx : x ∈ Dg) => (CL.out x hx).set_ (g := gb) (i := m) (u := .int .u8 7))
                  have N5 := Lib.hid (N13.out.setCell (p := ⟨gb, m, none⟩) hgb (.int .u8 7))
                  generalize bs[m] = v0 at *
                  clear hd1 hbk hms hbs OG CL N13
                  go_wp2
                  go_roundw
                  case rel => exact ⟨m + 1, by omega, by go_num, O5, C5, N5⟩
                  case measure => simp [intOf]; omega
                · obtain rfl : m = d.2.2.length := by omega
                  go_wp2
                  go_roundw
                  case rel => exact ⟨j + 1, by omega, by go_num, OG, CL, N13⟩
                  case measure => simp [intOf]; omega
            · obtain rfl : j = nF := by omega
              have nw : New w11 wr := by have := N13.out; rw [HB0.out] at this; exact this
              have LW : Hid (∃ (V : Value) (F : List (List Nat)), LogAt wr w.heap.size g V F ∧ WantAt wr w.heap.size (.slice Aw j cw) F ∧ (∀ x ∈ rowT V, (Value.slice Aw j cw).ownBlock ≠ some x) ∧ F.length ≤ k + 1 ∧ GoodF F) :=
                Lib.hid ⟨V', F2, L9.out.new nw, by rw [HNF.out]; exact W9.out.new nw, by rw [HNF.out]; exact D7.out, FL2.out, G2.out⟩
              have BB := Lib.hid (New.trans B9.out nw)
              clear nw OG CL N13 L9 W9 D7 B9
              go_wp2
              go_roundw
              case rel => exact ⟨k + 1, Aw, j, cw, by omega, by go_num, rfl, LW, BB⟩
              case measure => simp [intOf]; omega
    · obtain rfl : k = L.length := by omega
      go_wp2
      go_ret
      exact ⟨rfl, b.out⟩

set_option maxRecDepth 100000 in
open Go.WideShapes Go.ChangeShapes in
theorem tagLogs_contract {H : Type} {enc : TypeId × Value → H} (W : World) (base : Nat) (args : Array Value) (ds : List (DataW H)) (ps : List MemPlace)
    (hval : ∀ (j : Nat) t v, Tryd.f5.params[j]? = some t → args[j]? = some v → Value.okWide Tryd.prog W .any base t v)
    (hA : DataW.TrodAll enc Tryd.prog W 0 (fun _ => true) true Tryd.f5.params.toList args.toList ds ps) (hlt : ∀ p ∈ ps, p.block < W.heap.size)
    (hsz : (DataW.weightsEach Tryd.prog Tryd.f5.params.toList ds).all (· ≤ reachBytes) = true) (hL : laidMetH Tryd.prog laidC W) :
    Calls Tryd.prog 5 args W fun e W' => e = .returned (.bool true) ∧ Below W.heap.size W W' := by
  rw [Tryd.params5] at hA hval hsz
  obtain ⟨v0, d0, rfl, rfl, h0⟩ := trodAll_one hA
  -- a: v0 d0 p0 h0, hval 0
  obtain ⟨A_a, c_a, L_a, rfl, hr_a, hf_a, _⟩ := open_Rows (hval 0 _ _ rfl rfl) h0 hlt (sized_at hsz (j := 0) rfl rfl)
  exact tagLogs_walk ⟨hr_a, hf_a⟩ (const_of_laid hL)

end Go.Proofs.YtlfnhbnaegihfaaDoor
