/- Texts merged, for a claim has at most 60 files: StaG, UpT, StaC, SmS, Plan, Open, SmallS, StaR, StaS, CellRr. -/
import Derived.BigRegion
import Derived.Deep.DeepCutAuto
import Derived.RegionTactic
import Derived.Test.YthdkbfffjlkbpaaBun1
import Derived.Test.YthdkbfffjlkbpaaBun2
import Derived.Test.YthdkbfffjlkbpaaBun4
/- The contract of stat.Get, where no ends are told. -/

namespace Go.Hm
open Go Go.RowKit
variable {P : Program}
/-- A whole block is stored; no other is turned. -/
theorem wpList_storeG {ops : Array Oper} {rest : List Oper} {o : Oper} {a : Act} {w : World} {Q : Exit → Act → World → Prop} (hgd : o.guard = none) (ty : TypeId) (x y : Operand) (ho : o.op = .store ty x y)
    (g : Nat) (cells : Array Value) (hx : a.eval x = .pointer (some ⟨g, 0, none⟩)) (hy : a.eval y = .agg cells) {t : TypeId} {old : Array Value} (hB : Blk w g t old) (hi : (P.info? ty).map (·.size) = some cells.size)
    (hold : old.size = cells.size) (h1 : cells.all (·.oneCell') = true)
    (h : ∀ W, Blk W g t cells → w.grownBy W (some g) → wpList P ops Q rest (a.put o.dst undef) W) : wpList P ops Q (o :: rest) a w := by
  refine wpList_store_row hgd ty x y ho g cells hx hy t old hB hi hold h1 ?_
  refine h _ ?_ ⟨rfl, rfl, rfl, by simp [World.setRow], fun k _ hne => ?_⟩
  · unfold Blk at hB ⊢
    simp [World.setRow, Array.getElem?_modify, hB]
  · simp [World.setRow, Array.getElem?_modify]
    intro e
    exact absurd (by rw [e]) hne
/-- What is turned beside lies beyond. -/
theorem grown_then {w w3 W : World} {g b : Nat} (G : w.grownBy w3 (some g)) (k : w3.grownBy W (some b)) (hb : w.heap.size ≤ b) : w.grownBy W (some g) :=
  ⟨k.os.trans G.os, k.tape.trans G.tape, k.output.trans G.output, Nat.le_trans G.size k.size, fun i hi hne => (k.block i (Nat.lt_of_lt_of_le hi G.size) (fun e => by injection e with e; omega)).trans (G.block i hi hne)⟩

end Go.Hm

namespace Go.Proofs.Ythdkbfffjlkbpaa
open Go.RowKit Go.Hm
/-- What is read where no ends are told. -/
def getR (S : St) : StatS × St := if (byteS (lenS 65536 S).2).1 = 0 ∧ (byteS (lenS 65536 S).2).2 ≠ none then ((((lenS 65536 S).1 : Int), false, cell0, cell0), (byteS (lenS 65536 S).2).2) else (stat0, none)
def SGetPost (s : StatS) (g : Nat) (S : St) (w : World) (e : Ending) (w' : World) : Prop := e = .returned (statA s) ∧ CurS w' g S ∧ w.grownBy w' (some g)
set_option maxHeartbeats 4000000 in
set_option maxRecDepth 100000 in
theorem sget_no {w : World} {g : Nat} {S : St} {t : Int} (h : CurS w g S) (h1 : (byteS (lenS 65536 S).2).1 ≠ 1) (ht : 0 ≤ t ∧ t ≤ 3) :
    Calls Try.prog 21 #[.pointer (some ⟨g, 0, none⟩), .int .i64 t] w
      (SGetPost (getR S).1 g (getR S).2 w) := by
  obtain ⟨X, hX⟩ : ∃ X, X = getR S := ⟨_, rfl⟩
  rw [← hX]
  unfold getR at hX
  have hle := lenS_le (m := 65536) S (by omega) h.ok
  have hlt := h.lt
  have ha : New w (w.alloc (.cells (statV stat0).toArray 31)) := (Below.refl _ _).alloc (Nat.le_refl _) _
  have h0 := h.below ha
  have L1 := Lib.hid (lenS_any (m := 65536) h0 (by omega) (by omega))
  have BZ0 : Blk (w.alloc (.cells (statV stat0).toArray 31)) w.heap.size 31 (statV stat0).toArray := Blk.new _ _ _
  generalize lenS 65536 S = H at *
  obtain ⟨n, S1⟩ := H
  dsimp only at *
  have hbl := byteS_lt (S := S1)
  have hRt : rightS t ((n : Int), false, cell0, cell0) = true := by
    unfold rightS
    rw [if_neg (by dsimp only; omega)]
    simp
  have SR := fun (W : World) => sright_any (w := W) (t := t) (s := ((n : Int), false, cell0, cell0)) (by unfold statFine cell0; simp)
  rw [hRt] at SR
  have SR : Hid (∀ W, Calls Try.prog 16 #[.int .i64 t, .agg #[.int .i64 (n : Int), .bool false, .bool false, .int .i64 0, .string ⟨#[]⟩, .int .i64 0, .int .i64 0, .bool false, .int .i64 0, .string ⟨#[]⟩, .int .i64 0, .int .i64 0]] W (NewPost (.bool true) W)) := Lib.hid SR
  have HX := Lib.hid hX
  clear hRt h hX
  go_enter Try.func21, Try.ntmps21
  go_wp2_with fail
  refine L1.out.mono ?_
  rintro e w1 ⟨rfl, s1, g1⟩
  have hbl := hbl s1.ok
  have C2 := Lib.hid (byteS_any (s1.below ((Below.refl _ _).alloc (Nat.le_refl _) (.cells #[.int .i64 (n : Int), .bool false, .bool false, .int .i64 0, .string ⟨#[]⟩, .int .i64 0, .int .i64 0, .bool false, .int .i64 0, .string ⟨#[]⟩, .int .i64 0, .int .i64 0] 31))))
  have hz1 := g1.size
  have BZ1 := (BZ0.grown g1 (by intro e; injection e with e; omega)).alloc (.cells #[.int .i64 (n : Int), .bool false, .bool false, .int .i64 0, .string ⟨#[]⟩, .int .i64 0, .int .i64 0, .bool false, .int .i64 0, .string ⟨#[]⟩, .int .i64 0, .int .i64 0] 31)
  have BT1 := Blk.new w1 31 #[.int .i64 (n : Int), .bool false, .bool false, .int .i64 0, .string ⟨#[]⟩, .int .i64 0, .int .i64 0, .bool false, .int .i64 0, .string ⟨#[]⟩, .int .i64 0, .int .i64 0]
  have G1 := (Far.of_new ha (g := g)).trans (g1.trans (Far.of_new ((Below.refl _ w1).alloc (Nat.le_refl _) (.cells #[.int .i64 (n : Int), .bool false, .bool false, .int .i64 0, .string ⟨#[]⟩, .int .i64 0, .int .i64 0, .bool false, .int .i64 0, .string ⟨#[]⟩, .int .i64 0, .int .i64 0] 31))))
  generalize byteS S1 = Bq at *
  obtain ⟨y, S2⟩ := Bq
  dsimp only at *
  clear L1 h0 BZ0 s1 g1 ha
  go_wp2_with fail
  refine C2.out.mono ?_
  rintro e w2 ⟨rfl, s2, g2⟩
  have hz2 := g2.size
  simp only [World.size_alloc] at hz1 hz2
  have BZ := BZ1.grown g2 (by intro e; injection e with e; omega)
  have BT := BT1.grown g2 (by intro e; injection e with e; omega)
  have G2 := G1.trans g2
  clear C2 BZ1 BT1 G1 g2
  obtain ⟨x0, x1, x2, x3, x4, x5, x6, x7, x8, x9, x10, x11⟩ := cells12 BT
  have y1 : ((y : Int) == 1) = false := beq_eq_false_iff_ne.2 (by omega)
  by_cases hy : 1 < y
  · have hX := HX.out
    rw [if_neg (by omega)] at hX
    clear HX
    have HX := Lib.hid hX
    clear hX
    have t1 : decide ((1 : Int) < (y : Int)) = true := by simp; omega
    have F := Lib.hid (failS s2)
    go_wp2_with fail
    refine F.out.mono ?_
    rintro e w3 ⟨rfl, s3, g3⟩
    have hz3 := g3.size
    have BZ3 := BZ.grown g3 (by intro e; injection e with e; omega)
    have G3 := Lib.hid (G2.trans g3)
    have HS3 := Lib.hid s3
    clear F BZ BT G2 g3 x0 x1 x2 x3 x4 x5 x6 x7 x8 x9 x10 x11 s2 s3
    go_wp2_with (refine wpList_storeG rfl 31 (.tmp 4) (.tmp 37) rfl w.heap.size _ rfl rfl BZ3 (by kernel_rfl) (by simp [statV, stat0, cellV]) (by simp [Value.oneCell']) ?_
                 intro W5 BR G5
                 obtain ⟨s0, s1, s2, s3, s4, s5, s6, s7, s8, s9, s10, s11⟩ := cells12 BR)
    have hX := HX.out
    subst hX
    exact bodyPost_ret (v := statA stat0) (by simp [results, Try.results21, go_sem, s0, s1, s2, s3, s4, s5, s6, s7, s8, s9, s10, s11, statA, statV, cellV, stat0, cell0, show bstr [] = ⟨#[]⟩ from rfl]) rfl ⟨rfl, HS3.out.keep G5 BZ3 (by omega) (by decide), grown_then G3.out G5 (Nat.le_refl _)⟩
  · obtain rfl : y = 0 := by omega
    have t1 : decide ((1 : Int) < ((0 : Nat) : Int)) = false := by simp
    have BD := Lib.hid (badS s2)
    cases S2 with
    | none =>
      have hX := HX.out
      rw [if_neg (by simp)] at hX
      clear HX
      have HX := Lib.hid hX
      clear hX
      go_wp2_with fail
      refine BD.out.mono ?_
      rintro e w2' ⟨rfl, rfl⟩
      have F := Lib.hid (failS s2)
      go_wp2_with fail
      refine F.out.mono ?_
      rintro e w3 ⟨rfl, s3, g3⟩
      have hz3 := g3.size
      have BZ3 := BZ.grown g3 (by intro e; injection e with e; omega)
      have G3 := Lib.hid (G2.trans g3)
      have HS3 := Lib.hid s3
      clear F BZ BT G2 g3 x0 x1 x2 x3 x4 x5 x6 x7 x8 x9 x10 x11 s2 s3
      go_wp2_with (refine wpList_storeG rfl 31 (.tmp 4) (.tmp 37) rfl w.heap.size _ rfl rfl BZ3 (by kernel_rfl) (by simp [statV, stat0, cellV]) (by simp [Value.oneCell']) ?_
                   intro W5 BR G5
                   obtain ⟨s0, s1, s2, s3, s4, s5, s6, s7, s8, s9, s10, s11⟩ := cells12 BR)
      have hX := HX.out
      subst hX
      exact bodyPost_ret (v := statA stat0) (by simp [results, Try.results21, go_sem, s0, s1, s2, s3, s4, s5, s6, s7, s8, s9, s10, s11, statA, statV, cellV, stat0, cell0, show bstr [] = ⟨#[]⟩ from rfl]) rfl ⟨rfl, HS3.out.keep G5 BZ3 (by omega) (by decide), grown_then G3.out G5 (Nat.le_refl _)⟩
    | some S2 =>
      have hX := HX.out
      rw [if_pos ⟨rfl, by simp⟩] at hX
      clear HX
      have HX := Lib.hid hX
      clear hX
      go_wp2_with fail
      refine BD.out.mono ?_
      rintro e w2' ⟨rfl, rfl⟩
      go_wp2_with fail
      refine (SR.out _).mono ?_
      rintro e w3 ⟨rfl, b3⟩
      have hz3 := b3.size
      have BZ3 := BZ.below b3 BZ.lt
      have BT3 := BT.below b3 BT.lt
      have G3 := Lib.hid (G2.trans (Far.of_new b3))
      have HS3 := Lib.hid (s2.below b3)
      clear BZ BT G2 b3 x0 x1 x2 x3 x4 x5 x6 x7 x8 x9 x10 x11 s2
      obtain ⟨x0, x1, x2, x3, x4, x5, x6, x7, x8, x9, x10, x11⟩ := cells12 BT3
      go_wp2_with (refine wpList_storeG rfl 31 (.tmp 4) (.tmp 38) rfl w.heap.size _ rfl rfl BZ3 (by kernel_rfl) (by simp [statV, stat0, cellV]) (by simp [Value.oneCell']) ?_
                   intro W5 BR G5
                   obtain ⟨s0, s1, s2, s3, s4, s5, s6, s7, s8, s9, s10, s11⟩ := cells12 BR)
      have hX := HX.out
      subst hX
      exact bodyPost_ret (v := statA ((n : Int), false, cell0, cell0)) (by simp [results, Try.results21, go_sem, s0, s1, s2, s3, s4, s5, s6, s7, s8, s9, s10, s11, statA, statV, cellV, cell0, show bstr [] = ⟨#[]⟩ from rfl]) rfl ⟨rfl, HS3.out.keep G5 BZ3 (by omega) (by decide), grown_then G3.out G5 (Nat.le_refl _)⟩

end Go.Proofs.Ythdkbfffjlkbpaa
/- A region that draws its order, whose last part turns what was read: what reads is carried out first, its value holding till the operation t0 comes up, which waits for it. No program is named here. -/

namespace Go.Hm
open Go.RowKit

section
variable {P : Program} {ops : Array Oper} {Q : Exit → Act → World → Prop} {md : Region.Mode} {S : World → Prop} {t0 : Nat}

/-- Whatever order: S holds behind every operation till t0 has come up. -/
def wpAnyT (P : Program) (md : Region.Mode) (ops : Array Oper) (Q : Exit → Act → World → Prop) (t0 : Nat) (S : World → Prop) : Nat → Array Bool → Act → World → Prop
  | 0, listed, a, w => Region.ready md ops listed = [] ∧ Q .normal a w
  | fuel + 1, listed, a, w => (Region.ready md ops listed = [] → Q .normal a w) ∧
    ∀ i ∈ Region.ready md ops listed, wpOp P ops Q i (fun a' w' => ((listed.setIfInBounds i true).getD t0 false = true ∨ S w') ∧ wpAnyT P md ops Q t0 S fuel (listed.setIfInBounds i true) a' w') a w
theorem wpAny_of_T : ∀ (fuel : Nat) (listed : Array Bool) (a : Act) (w : World), wpAnyT P md ops Q t0 S fuel listed a w → wpAny P md ops Q fuel listed a w
  | 0, _, _, _, h => h
  | fuel + 1, _, _, _, h => ⟨h.1, fun i hi => wpOp_mono (fun a' w' h' => wpAny_of_T fuel _ a' w' h'.2) (h.2 i hi)⟩
theorem getD_set_keep {l : Array Bool} {i t : Nat} (h : l.getD t false = true) : (l.setIfInBounds i true).getD t false = true := by
  rw [Array.getD_eq_getD_getElem?] at h ⊢
  rw [Array.getElem?_setIfInBounds]
  split
  · split
    · rfl
    · rename_i e h2; subst e; rw [Array.getElem?_eq_none (by omega)] at h; simp at h
  · exact h
theorem getD_set_other {l : Array Bool} {i t : Nat} (hne : i ≠ t) : (l.setIfInBounds i true).getD t false = l.getD t false := by
  rw [Array.getD_eq_getD_getElem?, Array.getD_eq_getD_getElem?, Array.getElem?_setIfInBounds, if_neg hne]
theorem wpAnyT_weaken {S' : World → Prop} : ∀ (fuel : Nat) (listed : Array Bool) (a : Act) (w : World), (listed.getD t0 false = true ∨ ∀ w, S w → S' w) → wpAnyT P md ops Q t0 S fuel listed a w → wpAnyT P md ops Q t0 S' fuel listed a w
  | 0, _, _, _, _, hh => hh
  | fuel + 1, listed, _, _, h, hh => ⟨hh.1, fun i hi => wpOp_mono (fun a' w' h' => ⟨by
      rcases h with h | h
      · exact .inl (getD_set_keep h)
      · exact h'.1.imp id (h w'), wpAnyT_weaken fuel _ a' w' (h.imp getD_set_keep id) h'.2⟩) (hh.2 i hi)⟩
/-- Taken first. -/
theorem wpAnyT_first {i : Nat} {oi : Oper} {v : Value} (hi : ops[i]? = some oi) (hit : i ≠ t0) (hsel : ∀ (j : Nat) (o : Oper) cs b, ops[j]? = some o → o.op ≠ .select cs b)
    (hQ : ∀ c a w, Q (.panic c) (a.put oi.dst v) w → Q (.panic c) a w) (V : World → Prop)
    (hV : (∀ w, V w) ∨ ((∀ w, S w → V w) ∧ ∃ ot, ops[t0]? = some ot ∧ ∃ e ∈ ot.after, Region.binds md e = true ∧ e.on = i)) :
    ∀ (fuel : Nat) (listed : Array Bool) (a : Act) (w : World),
      (∀ j oj, ops[j]? = some oj → j ≠ i → listed.getD j true = false → (∀ e ∈ oj.after, Region.binds md e = true → e.on ≠ i) → oi.apart ops oj = true) →
      i ∈ Region.ready md ops listed → YieldsIf P ops V oi v a → (listed.getD t0 false = true ∨ S w) → ((∀ w, V w) ∨ listed.getD t0 false = false) →
      wpAnyT P md ops Q t0 S fuel (listed.setIfInBounds i true) (a.put oi.dst v) w → wpAnyT P md ops Q t0 S (fuel + 1) listed a w := by
  have hVw : ∀ (listed : Array Bool) (w : World), (listed.getD t0 false = true ∨ S w) → ((∀ w, V w) ∨ listed.getD t0 false = false) → V w := by
    intro listed w hS ht
    rcases ht with ht | ht
    · exact ht w
    · rcases hS with hS | hS
      · rw [ht] at hS; cases hS
      · rcases hV with hV | hV
        · exact hV w
        · exact hV.1 w hS
  intro fuel
  induction fuel with
  | zero =>
    intro listed a w _ hr hy hS ht H
    refine ⟨fun h => (by rw [h] at hr; cases hr), fun j hj => ?_⟩
    by_cases hji : j = i
    · subst hji
      exact hy.wpOp hi (hVw listed w hS ht) ⟨hS.imp getD_set_keep id, H⟩
    · have := ready_mono hj hji
      rw [H.1] at this
      cases this
  | succ fuel ih =>
    intro listed a w hfree hr hy hS ht H
    refine ⟨fun h => (by rw [h] at hr; cases hr), fun j hj => ?_⟩
    by_cases hji : j = i
    · subst hji
      exact hy.wpOp hi (hVw listed w hS ht) ⟨hS.imp getD_set_keep id, H⟩
    · have h1 := H.2 j (ready_mono hj hji)
      obtain ⟨hjun, oj, hoj, hall⟩ := mem_ready.1 hj
      have hnot : ∀ e ∈ oj.after, Region.binds md e = true → e.on ≠ i := fun e he hb heq => by
        have h1 := hall e he hb
        have h0 := (mem_ready.1 hr).1
        rw [heq] at h1
        rcases Nat.lt_or_ge i listed.size with h' | h'
        · simp [h'] at h0 h1; rw [h0] at h1; cases h1
        · simp [Array.getElem?_eq_none h'] at h1
      have h2 := wpOp_putIf hoj (hfree j oj hoj hji hjun hnot) (fun cs b => hsel i oi cs b hi) (fun cs b => hsel j oj cs b hoj) hQ hy h1
      have hfree' : ∀ k ok, ops[k]? = some ok → k ≠ i → (listed.setIfInBounds j true).getD k true = false →
          (∀ e ∈ ok.after, Region.binds md e = true → e.on ≠ i) → oi.apart ops ok = true := fun k ok hk hki hun hno => by
        refine hfree k ok hk hki ?_ hno
        by_cases hjk : j = k
        · subst hjk; exact hjun
        · rw [getD_set_ne true hjk] at hun; exact hun
      have ht' : (∀ w, V w) ∨ (listed.setIfInBounds j true).getD t0 false = false := by
        rcases hV with hV | ⟨_, ot, hot, e, he, hb, heq⟩
        · exact .inl hV
        · refine ht.imp id fun ht => ?_
          have hjt : j ≠ t0 := by
            rintro rfl
            rw [hoj] at hot
            injection hot with hot
            subst hot
            exact hnot e he hb heq
          rw [getD_set_other hjt]
          exact ht
      refine wpOp_mono (fun a' w' h3 => ?_) h2
      have hS' : (listed.setIfInBounds j true).getD t0 false = true ∨ S w' := by
        refine h3.2.1.imp (fun h4 => ?_) id
        rw [Array.setIfInBounds_comm _ _ (fun e => hji e.symm), getD_set_other hit] at h4
        exact h4
      refine ⟨hS', ih (listed.setIfInBounds j true) a' w' hfree' (ready_mono hr (Ne.symm hji)) h3.1 hS' ht' ?_⟩
      rw [Array.setIfInBounds_comm _ _ hji]
      exact h3.2.2
theorem wpAnyT_take {i : Nat} {oi : Oper} {v : Value} {fuel : Nat} {listed : Array Bool} {a : Act} {w : World} (V : World → Prop) (hi : ops[i]? = some oi) (hit : i ≠ t0)
    (hs : Region.noSelect ops = true) (hf : Region.free md ops listed i = true) (hr : (Region.ready md ops listed).contains i = true)
    (hQ : ∀ c a w, Q (.panic c) (a.put oi.dst v) w → Q (.panic c) a w)
    (hV : (∀ w, V w) ∨ ((∀ w, S w → V w) ∧ ∃ ot, ops[t0]? = some ot ∧ ∃ e ∈ ot.after, Region.binds md e = true ∧ e.on = i))
    (hy : YieldsIf P ops V oi v a) (hS : listed.getD t0 false = true ∨ S w) (ht : (∀ w, V w) ∨ listed.getD t0 false = false)
    (h : wpAnyT P md ops Q t0 S fuel (listed.setIfInBounds i true) (a.put oi.dst v) w) : wpAnyT P md ops Q t0 S (fuel + 1) listed a w :=
  wpAnyT_first hi hit (Region.noSelect_spec hs) hQ V hV fuel listed a w (Region.free_spec hi hf) (by simpa using hr) hy hS ht h

/-- Whether t0 waits for i. -/
def waitsB (md : Region.Mode) (ops : Array Oper) (t0 i : Nat) : Bool := match ops[t0]? with
  | some ot => ot.after.any fun e => Region.binds md e && e.on == i
  | none => false
/-- 0: reads, and t0 waits for it; 1: yields its value in whatever world; 2: comes up alone. -/
def upOkT (ops : Array Oper) (t0 : Nat) : Array Bool → List (Nat × Nat) → Bool
  | listed, [] => (Region.ready .any ops listed).isEmpty
  | listed, (0, i) :: r => (Region.ready .any ops listed).contains i && (Region.free .any ops listed i && (waitsB .any ops t0 i && (decide (i ≠ t0) && (!listed.getD t0 false && upOkT ops t0 (listed.setIfInBounds i true) r))))
  | listed, (1, i) :: r => (Region.ready .any ops listed).contains i && (Region.free .any ops listed i && (decide (i ≠ t0) && upOkT ops t0 (listed.setIfInBounds i true) r))
  | listed, (_, i) :: r => decide (Region.ready .any ops listed = [i]) && upOkT ops t0 (listed.setIfInBounds i true) r

def wpUpT (P : Program) (ops : Array Oper) (R : World → World → Prop) (Q : Exit → Act → World → Prop) (t0 : Nat) : List (Nat × Nat) → Bool → Act → World → Prop
  | [], _, a, w => Q .normal a w
  | (0, i) :: r, d, a, w => ∃ o v, ops[i]? = some o ∧ ((Region.wanted o (yielded ops a.tmps) = true ∧ ∀ w', R w w' → (execOp a.eval o).run P w' = .ok (.value v) w') ∨ (Region.wanted o (yielded ops a.tmps) = false ∧ v = undef)) ∧ wpUpT P ops R Q t0 r d (a.put o.dst v) w
  | (1, i) :: r, d, a, w => ∃ o v, ops[i]? = some o ∧ ((Region.wanted o (yielded ops a.tmps) = true ∧ ∀ w', (execOp a.eval o).run P w' = .ok (.value v) w') ∨ (Region.wanted o (yielded ops a.tmps) = false ∧ v = undef)) ∧ wpUpT P ops R Q t0 r d (a.put o.dst v) w
  | (_, i) :: r, d, a, w => ∃ o, ops[i]? = some o ∧ if Region.wanted o (yielded ops a.tmps) then o.wp P a w (fun a' w' => (d = true ∨ i = t0 ∨ R w w') ∧ wpUpT P ops R Q t0 r (d || i == t0) a' w') (NoPanic Q) else wpUpT P ops R Q t0 r (d || i == t0) (a.put o.dst undef) w

variable {R : World → World → Prop}
theorem waitsB_spec {i : Nat} (h : waitsB md ops t0 i = true) : ∃ ot, ops[t0]? = some ot ∧ ∃ e ∈ ot.after, Region.binds md e = true ∧ e.on = i := by
  unfold waitsB at h
  split at h
  · rename_i ot hot
    rw [Array.any_eq_true] at h
    obtain ⟨j, hj, h⟩ := h
    simp only [Bool.and_eq_true, beq_iff_eq] at h
    exact ⟨ot, hot, ot.after[j], Array.getElem_mem hj, h.1, h.2⟩
  · cases h
theorem wpAnyT_of_up (hrefl : ∀ w, R w w) (htrans : ∀ {x y z}, R x y → R y z → R x z) (hs : Region.noSelect ops = true) :
    ∀ (ord : List (Nat × Nat)) (fuel : Nat) (listed : Array Bool) (d : Bool) (a : Act) (w : World), (d = true → listed.getD t0 false = true) → (∀ i ∈ ord.map (·.2), i < listed.size) → ord.length ≤ fuel → upOkT ops t0 listed ord = true → wpUpT P ops R Q t0 ord d a w → wpAnyT P .any ops (NoPanic Q) t0 (R w) fuel listed a w := by
  intro ord
  induction ord with
  | nil =>
    intro fuel listed d a w _ _ _ hok h
    have hr : Region.ready .any ops listed = [] := by simpa [upOkT] using hok
    cases fuel with
    | zero => exact ⟨hr, NoPanic.normal h⟩
    | succ fuel => exact ⟨fun _ => NoPanic.normal h, by rw [hr]; simp⟩
  | cons x r ih =>
    obtain ⟨b, i⟩ := x
    intro fuel listed d a w hd hsz hl hok h
    obtain ⟨fuel, rfl⟩ : ∃ k, fuel = k + 1 := ⟨fuel - 1, by simp at hl; omega⟩
    have hl' : r.length ≤ fuel := by simp at hl; omega
    have hsz' : ∀ k ∈ r.map (·.2), k < (listed.setIfInBounds i true).size := fun k hk => by rw [Array.size_setIfInBounds]; exact hsz k (by simp at hk ⊢; exact .inr hk)
    have hi0 : i < listed.size := hsz i (by simp)
    match b with
    | 0 =>
      obtain ⟨o, v, ho, hv, hr⟩ := h
      simp only [upOkT, Bool.and_eq_true, decide_eq_true_eq, Bool.not_eq_true'] at hok
      obtain ⟨h1, h2, h3, h4, h5, h6⟩ := hok
      exact wpAnyT_take (R w) ho h4 hs h2 h1 (fun _ _ _ hp => hp) (.inr ⟨fun _ hh => hh, waitsB_spec h3⟩) hv (.inr (hrefl w)) (.inr h5) (ih fuel _ d _ w (fun e => getD_set_keep (hd e)) hsz' hl' h6 hr)
    | 1 =>
      obtain ⟨o, v, ho, hv, hr⟩ := h
      simp only [upOkT, Bool.and_eq_true, decide_eq_true_eq] at hok
      obtain ⟨h1, h2, h3, h4⟩ := hok
      exact wpAnyT_take (fun _ => True) ho h3 hs h2 h1 (fun _ _ _ hp => hp) (.inl fun _ => trivial) (hv.imp (fun hh => ⟨hh.1, fun w' _ => hh.2 w'⟩) id) (.inr (hrefl w)) (.inl fun _ => trivial) (ih fuel _ d _ w (fun e => getD_set_keep (hd e)) hsz' hl' h4 hr)
    | b + 2 =>
      obtain ⟨o, ho, hc⟩ := h
      simp only [upOkT, Bool.and_eq_true, decide_eq_true_eq] at hok
      obtain ⟨h1, h3⟩ := hok
      refine ⟨fun h0 => (by rw [h1] at h0; cases h0), fun j hj => ?_⟩
      rw [h1] at hj
      obtain rfl : j = i := by simpa using hj
      have hd' : (d || j == t0) = true → (listed.setIfInBounds j true).getD t0 false = true := by
        intro e
        rw [Bool.or_eq_true, beq_iff_eq] at e
        rcases e with e | rfl
        · exact getD_set_keep (hd e)
        · rw [Array.getD_eq_getD_getElem?, Array.getElem?_setIfInBounds, if_pos rfl, if_pos hi0]; rfl
      unfold wpOp
      simp only [ho]
      split
      · rename_i hw
        rw [if_pos hw] at hc
        refine .inl (Oper.wp_mono (fun a' w' hh => ?_) hc)
        obtain ⟨hR, hh⟩ := hh
        have hI := ih fuel _ _ a' w' hd' hsz' hl' h3 hh
        by_cases ht : (listed.setIfInBounds j true).getD t0 false = true
        · exact ⟨.inl ht, wpAnyT_weaken fuel _ a' w' (.inl ht) hI⟩
        · have hR' : R w w' := by
            rcases hR with hR | hR | hR
            · exact absurd (getD_set_keep (hd hR)) ht
            · exact absurd (hd' (by simp [hR])) ht
            · exact hR
          exact ⟨.inr hR', wpAnyT_weaken fuel _ a' w' (.inr fun z hz => htrans hR' hz) hI⟩
      · rename_i hw
        rw [if_neg hw] at hc
        exact ⟨.inr (hrefl w), ih fuel _ _ _ w hd' hsz' hl' h3 hc⟩

theorem wp_region_upT {id : Nat} {a : Act} {w : World} (R : World → World → Prop) (t0 : Nat) (ord : List (Nat × Nat)) (hrefl : ∀ w, R w w) (htrans : ∀ {x y z}, R x y → R y z → R x z) (hm : P.follows .mixedOrders = true)
    (hs : Region.noSelect ops = true) (hl : (decide (ord.length ≤ ops.size) && ord.all fun x => decide (x.2 < ops.size)) = true) (hok : upOkT ops t0 (Array.replicate ops.size false) ord = true) (h : wpUpT P ops R Q t0 ord false a w.drew) : (Code.region id ops true).wp P Q a w := by
  simp only [Bool.and_eq_true, decide_eq_true_eq, List.all_eq_true] at hl
  refine wp_region_noPanic (wp_region_any hm (wpAny_of_T _ _ _ _ (wpAnyT_of_up hrefl htrans hs ord ops.size _ false a _ (by simp) ?_ hl.1 hok h)))
  intro i hi
  simp only [List.mem_map] at hi
  obtain ⟨x, hx, rfl⟩ := hi
  rw [Array.size_replicate]
  exact hl.2 x hx

variable {i : Nat} {r : List (Nat × Nat)} {a : Act} {w : World} {d : Bool} {v : Value}
theorem upT_nil (h : Q .normal a w) : wpUpT P ops R Q t0 [] d a w := h

section
variable {dst : Option Tmp} {op : Op} {ty : TypeId} {pos : String} {af : Array Edge} {gd : Option (Nat × Bool)}
theorem upT_quiet (ho : ops[i]? = some ⟨dst, op, ty, pos, af, gd⟩) (hw : Region.wanted ⟨dst, op, ty, pos, af, gd⟩ (yielded ops a.tmps) = true) (hv : ∀ w', R w w' → (execOp a.eval ⟨dst, op, ty, pos, af, gd⟩).run P w' = .ok (.value v) w') (h : wpUpT P ops R Q t0 r d (a.put dst v) w) : wpUpT P ops R Q t0 ((0, i) :: r) d a w :=
  ⟨_, v, ho, .inl ⟨hw, hv⟩, h⟩
theorem upT_pure (ho : ops[i]? = some ⟨dst, op, ty, pos, af, gd⟩) (hw : Region.wanted ⟨dst, op, ty, pos, af, gd⟩ (yielded ops a.tmps) = true) (hv : ∀ w', (execOp a.eval ⟨dst, op, ty, pos, af, gd⟩).run P w' = .ok (.value v) w') (h : wpUpT P ops R Q t0 r d (a.put dst v) w) : wpUpT P ops R Q t0 ((1, i) :: r) d a w :=
  ⟨_, v, ho, .inl ⟨hw, hv⟩, h⟩
theorem upT_call (ho : ops[i]? = some ⟨dst, op, ty, pos, af, gd⟩) (hw : Region.wanted ⟨dst, op, ty, pos, af, gd⟩ (yielded ops a.tmps) = true) (h : ∀ K : Act → World → Prop, (∀ a' w', (d = true ∨ i = t0 ∨ R w w') → wpUpT P ops R Q t0 r (d || i == t0) a' w' → K a' w') → Oper.wp P ⟨dst, op, ty, pos, af, gd⟩ a w K (NoPanic Q)) : wpUpT P ops R Q t0 ((2, i) :: r) d a w :=
  ⟨_, ho, by rw [if_pos hw]; exact h _ fun _ _ h1 h2 => ⟨h1, h2⟩⟩
end
end

section
variable {P : Program} {o : Oper} {a : Act} {Q : Exit → Act → World → Prop} {K : Act → World → Prop}
/-- append(s, x) behind the block that x was laid in, at the operation. -/
theorem wp_push {w : World} {t e : TypeId} {z : Value} {bytes : Nat} (E : ElT P t e z 1 bytes) (s x : Operand)
    (ho : o.op = .call { callee := .builtin .append, args := #[s, x], argTypes := #[t, t] })
    {W : World} {B base : Nat} {v u : Value} {xs : List Value} (hown : Own w base e v xs) (hs : a.eval s = v) (hx : a.eval x = .slice (some ⟨w.heap.size, 0, none⟩) 1 1)
    (hb : Below B W w) (hbB : B ≤ base) (hbase : base ≤ w.heap.size) (h1 : u.oneCell' = true)
    (hn : (xs.length + 1) * bytes ≤ 140737488355328) (hm : xs.length + 1 ≤ maxLen)
    (h : ∀ A' c' w', xs.length + 1 ≤ c' → c' ≤ maxLen → Own w' base e (.slice A' (xs.length + 1) c') (xs ++ [u]) → w.grownBy w' v.ownBlock → Below B W w' → w.heap.size < w'.heap.size → K (a.put o.dst (.slice A' (xs.length + 1) c')) w') :
    Oper.wp P o a (w.alloc (.cells #[u] e)) K Q := by
  obtain ⟨i, hi, hz0, hz1, hz2⟩ := info_parts E.hi
  obtain ⟨v', w', hr, hown', hg, _, _⟩ := run_append_own_at (P := P) (w.alloc (.cells #[u] e)) base t o.type e i z 1 bytes E.ht hi hz0 hz1 hz2 E.hz (by omega) v xs.length xs (World.ownsRow.alloc hown _) ⟨w.heap.size, 0, none⟩ 1 1 [u] rfl (cell_one_new _ _ _) (by simpa using h1) hm hn (by simp; omega)
  have hxl : (xs ++ [u]).length = xs.length + 1 := by simp
  have hown2 : Own w' base e v' (xs ++ [u]) := by unfold Own; rw [hxl]; exact hown'
  obtain ⟨A', c', rfl, hc1, hc2⟩ := hown2.slice
  rw [hxl] at hc1 hown2 hr
  have hg2 : w.grownBy w' v.ownBlock := (World.grownBy_alloc w (.cells #[u] e) v.ownBlock).trans hg
  have hsz := hg.size
  simp at hsz
  unfold Oper.wp execOp
  simp only [ho, resolve, invoke, builtin, Sem.run_bind, Sem.run_pure, Result.andThen_ok, List.map_toArray, List.map_cons, List.map_nil, hs, hx, hr]
  exact h A' c' w' hc1 hc2 hown2 hg2 (hb.grown hg2 (Nat.le_trans hbB hbase) (fun k hk => by have := (hown.lt k hk).1; omega)) (by omega)
/-- append(s, xs...) onto a row of the call's own, at the operation. -/
theorem wp_pushes {w : World} {t e : TypeId} {z : Value} {bytes : Nat} (E : ElT P t e z 1 bytes) (s x : Operand)
    (ho : o.op = .call { callee := .builtin .append, args := #[s, x], argTypes := #[t, t] })
    {W : World} {B base m c : Nat} {v : Value} {xs news : List Value} {ad : Addr} (hown : Own w base e v xs) (hr : Reads w w.heap.size 1 (some ad) m news) (hm0 : 0 < m) (hs : a.eval s = v) (hx : a.eval x = .slice (some ad) m c)
    (hb : Below B W w) (hbB : B ≤ base) (hbase : base ≤ w.heap.size) (h1 : ∀ u ∈ news, u.oneCell' = true)
    (hn : (xs.length + m) * bytes ≤ 140737488355328) (hm : xs.length + m ≤ maxLen)
    (h : ∀ A' c' w', xs.length + m ≤ c' → c' ≤ maxLen → Own w' base e (.slice A' (xs.length + m) c') (xs ++ news) → w.grownBy w' v.ownBlock → Below B W w' → K (a.put o.dst (.slice A' (xs.length + m) c')) w') :
    Oper.wp P o a w K Q := by
  obtain ⟨i, hi, hz0, hz1, hz2⟩ := info_parts E.hi
  have hl : news.length = m := by have := hr.1; omega
  have hcells : ∀ j u, news[j]? = some u → w.cell? (ad.add j) = some u := by
    intro j u hu
    obtain ⟨ad', h', _, hc⟩ := hr.2 hm0
    injection h' with h'
    subst h'
    exact hc j u hu
  obtain ⟨v', w', hr', hown', hg, _, _⟩ := run_append_own_at (P := P) w base t o.type e i z 1 bytes E.ht hi hz0 hz1 hz2 E.hz (by omega) v xs.length xs hown ad m c news (by omega) hcells h1 hm hn hbase
  have hxl : (xs ++ news).length = xs.length + m := by simp [hl]
  have hown2 : Own w' base e v' (xs ++ news) := by unfold Own; rw [hxl]; exact hown'
  obtain ⟨A', c', rfl, hc1, hc2⟩ := hown2.slice
  rw [hxl] at hc1 hown2 hr'
  unfold Oper.wp execOp
  simp only [ho, resolve, invoke, builtin, Sem.run_bind, Sem.run_pure, Result.andThen_ok, List.map_toArray, List.map_cons, List.map_nil, hs, hx, hr']
  exact h A' c' w' hc1 hc2 hown2 hg (hb.grown hg (Nat.le_trans hbB hbase) (fun k hk => by have := (hown.lt k hk).1; omega))
end

end Go.Hm
/- The contract of stat.Of. -/

namespace Go.Hm
open Go Go.RowKit
theorem IsStat.near {t : Int} {l : List CellS} {s : StatS} (h : IsStat t l s) (hl : ∀ c ∈ l, near c) : near s.2.2.1 ∧ near s.2.2.2 := by
  cases hh : s.2.1 with
  | false =>
    obtain ⟨e1, e2⟩ := h.none hh
    rw [e1, e2]
    exact ⟨near0, near0⟩
  | true => exact ⟨hl _ (h.least hh).1.1, hl _ (h.most hh).1.1⟩

end Go.Hm

namespace Go.Proofs.Ythdkbfffjlkbpaa
open Go.RowKit Go.Hm
def StatPost (t : Int) (L : List CellS) (w : World) (e : Ending) (w' : World) : Prop := ∃ s, e = .returned (statA s) ∧ IsStat t L s ∧ New w w'
set_option maxHeartbeats 4000000 in
set_option maxRecDepth 100000 in
theorem of_any {w : World} {t : Int} {A : Option Addr} {n c : Nat} {L : List CellS} (h : Reads w w.heap.size 5 A n (recs cellV L)) (hL : ∀ y ∈ L, near y) (hn : n ≤ 100000) :
    Calls Try.prog 12 #[.int .i64 t, .slice A n c] w (StatPost t L w) := by
  obtain rfl := h.lenCell
  have HR := Lib.hid h
  have HN := Lib.hid hL
  clear h hL
  have B0 : Blk ((w.alloc (.cells (statV stat0).toArray 31)).alloc (.cells (statV stat0).toArray 31)) w.heap.size 31 (statV stat0).toArray := (Blk.new _ _ _).alloc _
  have B1 : Blk ((w.alloc (.cells (statV stat0).toArray 31)).alloc (.cells (statV stat0).toArray 31)) (w.heap.size + 1) 31 (statV stat0).toArray := by
    have := Blk.new (w.alloc (.cells (statV stat0).toArray 31)) 31 (statV stat0).toArray
    simpa using this
  have hb0 := new2 w (.cells (statV stat0).toArray 31) (.cells (statV stat0).toArray 31)
  have HB0 := Lib.hid B0
  have HB1 := Lib.hid B1
  have Hb0 := Lib.hid hb0
  clear B0 B1 hb0
  go_enter Try.func12, Try.ntmps12
  go_wp2_with fail
  go_loopw [10] (fun i wr => ∃ (k : Nat) (s : StatS), k ≤ L.length ∧ i = .int .i64 (k : Int) ∧ Blk wr (w.heap.size + 1) 31 (statV s).toArray ∧ Blk wr w.heap.size 31 (statV stat0).toArray ∧ New w wr ∧ Hid (IsStat t (L.take k) s)) (fun i _ => L.length - (intOf i).toNat)
  case atStart => exact ⟨0, stat0, Nat.zero_le _, rfl, HB1.out, HB0.out, Hb0.out, Lib.hid (isStat_nil t)⟩
  case round =>
    obtain ⟨k, s, hk, rfl, B1, B0, hW, hs⟩ := hrel
    clear HB0 HB1 Hb0
    by_cases hlt : k < L.length
    · obtain ⟨ad, rfl, hb, d0, d1, d2, d3, d4⟩ := (Reads.later HR.out hW).cell5 hlt
      have hst := hs.out
      have htk := take_snoc L k (false, 0, [], 0, 0) hlt
      have hnr := hst.near (fun c hc => HN.out c (List.mem_of_mem_take hc))
      have hnl := hst.nulls
      have hnl2 := nullsL_le (L.take k)
      rw [List.length_take] at hnl2
      have hy : near (L.getD k (false, 0, [], 0, 0)) := HN.out _ (by rw [List.getD_eq_getElem?_getD, List.getElem?_eq_getElem hlt]; exact List.getElem_mem hlt)
      have hone := isStat_one t (L.getD k (false, 0, [], 0, 0))
      have hnx := hst.merge hone
      rw [← htk] at hnx
      have hnr2 := hone.near (fun c hc => by rw [List.mem_singleton.1 hc]; exact hy)
      have hno := hone.nulls
      have hno2 := nullsL_le [L.getD k (false, 0, [], 0, 0)]
      rw [List.length_singleton] at hno2
      have M := fun (W : World) => merge_any (w := W) (t := t) hnr.1 hnr.2 hnr2.1 hnr2.2 (by omega) (by omega)
      clear htk hy hone hnl hnl2 hno hno2 hnr hnr2 hst hs
      generalize L.getD k (false, 0, [], 0, 0) = y at *
      obtain ⟨y0, y1, y2, y3, y4⟩ := y
      dsimp only at d0 d1 d2 d3 d4
      obtain ⟨V1, hV⟩ : ∃ V, V = statA (singleS (y0, y1, y2, y3, y4)) := ⟨_, rfl⟩
      have S1 : Hid (∀ W, Calls Try.prog 29 #[.agg #[.bool y0, .int .i64 y1, .string (bstr y2), .int .i64 y3, .int .i64 y4]] W (NewPost V1 W)) := Lib.hid fun W => by rw [hV]; exact single_any (y0, y1, y2, y3, y4)
      rw [← hV] at M
      generalize mergeS t s (singleS (y0, y1, y2, y3, y4)) = s2 at *
      obtain ⟨n, b, ⟨p1, p2, p3, p4, p5⟩, ⟨q1, q2, q3, q4, q5⟩⟩ := s
      obtain ⟨n', b', ⟨p1', p2', p3', p4', p5'⟩, ⟨q1', q2', q3', q4', q5'⟩⟩ := s2
      have M1 : Hid (∀ W, Calls Try.prog 14 #[.int .i64 t, .agg #[.int .i64 n, .bool b, .bool p1, .int .i64 p2, .string (bstr p3), .int .i64 p4, .int .i64 p5, .bool q1, .int .i64 q2, .string (bstr q3), .int .i64 q4, .int .i64 q5], V1] W
        (NewPost (.agg #[.int .i64 n', .bool b', .bool p1', .int .i64 p2', .string (bstr p3'), .int .i64 p4', .int .i64 p5', .bool q1', .int .i64 q2', .string (bstr q3'), .int .i64 q4', .int .i64 q5']) W)) := Lib.hid M
      clear M hV
      have HNX := Lib.hid hnx
      clear hnx
      have hsz := hW.size
      have F : Hid (∀ W, New (wr.alloc (.cells #[.bool y0, .int .i64 y1, .string (bstr y2), .int .i64 y3, .int .i64 y4] 29)) W → Blk W (w.heap.size + 1) 31 #[.int .i64 n, .bool b, .bool p1, .int .i64 p2, .string (bstr p3), .int .i64 p4, .int .i64 p5, .bool q1, .int .i64 q2, .string (bstr q3), .int .i64 q4, .int .i64 q5]
          ∧ Blk W w.heap.size 31 (statV stat0).toArray ∧ New w W ∧ Blk W wr.heap.size 29 #[.bool y0, .int .i64 y1, .string (bstr y2), .int .i64 y3, .int .i64 y4]) := Lib.hid fun W hN =>
        ⟨(B1.alloc _).below hN (by have := B1.lt; simp; omega), (B0.alloc _).below hN (by have := B0.lt; simp; omega), New.trans hW (New.trans ((Below.refl _ _).alloc (Nat.le_refl _) _) hN), (Blk.new _ _ _).below hN (by simp)⟩
      clear B0 B1
      go_wp2_with fail
      refine wp_region_upT New 5 [(1, 0), (0, 1), (0, 2), (2, 3), (2, 4), (2, 5)] New.refl New.trans (by kernel_rfl) (by kernel_rfl) (by kernel_rfl) (by kernel_rfl) ?_
      have hU := New.drew (wr.alloc (.cells #[.bool y0, .int .i64 y1, .string (bstr y2), .int .i64 y3, .int .i64 y4] 29))
      repeat (first
        | (refine upT_call rfl rfl (fun K hK => ?_); go_simp
           (with_reducible refine (S1.out _).mono ?_); rintro e w6 ⟨rfl, b6⟩
           refine hK _ _ (.inr (.inr b6)) ?_
           clear hK
           replace hU := New.trans hU b6)
        | (refine upT_call rfl rfl (fun K hK => ?_); go_simp
           (with_reducible refine (M1.out _).mono ?_); rintro e w7 ⟨rfl, b7⟩
           refine hK _ _ (.inr (.inr b7)) ?_
           clear hK
           replace hU := New.trans hU b7)
        | (refine upT_call rfl rfl (fun K hK => ?_)
           obtain ⟨B1, B0, hl, -⟩ := F.out _ hU
           refine wp_storeB 31 (.tmp 5) (.tmp 18) rfl (w.heap.size + 1) _ rfl rfl B1 (by kernel_rfl) (by simp) (by simp [Value.oneCell']) ?_
           intro W5 B1 hlow hfar
           replace B0 := hfar _ _ _ (by omega) B0
           replace hl := hlow _ _ hl (by omega)
           refine hK _ _ (.inr (.inl rfl)) ?_
           clear hK hlow hfar)
        | (refine upT_pure rfl rfl (v := ?_) (fun W => ?_) ?_; rotate_left; (go_simp <;> with_reducible rfl); simp only [Act.put, List.setIfInBounds_toArray, List.set_cons_zero, List.set_cons_succ])
        | (refine upT_quiet rfl rfl (v := ?_) (fun W hQ => ?_) ?_; rotate_left; (obtain ⟨B1, -, -, BY⟩ := F.out W (New.trans hU hQ); obtain ⟨x0, x1, x2, x3, x4, x5, x6, x7, x8, x9, x10, x11⟩ := cells12 B1; obtain ⟨z0, z1, z2, z3, z4⟩ := cells5 BY; clear B1 BY; go_simp <;> with_reducible rfl); simp only [Act.put, List.setIfInBounds_toArray, List.set_cons_zero, List.set_cons_succ]))
      refine upT_nil ?_
      go_wp2_with fail
      go_roundw
      case rel => exact ⟨k + 1, (n', b', (p1', p2', p3', p4', p5'), (q1', q2', q3', q4', q5')), by omega, by go_num, B1, B0, hl, HNX⟩
      case measure => simp [intOf]; omega
    · obtain rfl : k = L.length := by omega
      have hs2 := hs.out
      rw [List.take_length] at hs2
      have HS := Lib.hid hs2
      clear hs hs2
      obtain ⟨n, b, ⟨p1, p2, p3, p4, p5⟩, ⟨q1, q2, q3, q4, q5⟩⟩ := s
      obtain ⟨x0, x1, x2, x3, x4, x5, x6, x7, x8, x9, x10, x11⟩ := cells12 B1
      go_wp2_with (refine wpList_storeB rfl 31 (.tmp 4) (.tmp 20) rfl w.heap.size _ rfl rfl B0 (by kernel_rfl) (by simp [statV, stat0, cellV]) (by simp [Value.oneCell']) ?_
                   intro W5 BR hlow hfar
                   have hl := hlow _ _ hW (Nat.le_refl _)
                   clear hfar hlow
                   obtain ⟨s0, s1, s2, s3, s4, s5, s6, s7, s8, s9, s10, s11⟩ := cells12 BR)
      exact bodyPost_ret (v := statA (n, b, (p1, p2, p3, p4, p5), (q1, q2, q3, q4, q5))) (by simp [results, Try.results12, go_sem, s0, s1, s2, s3, s4, s5, s6, s7, s8, s9, s10, s11, statA, statV, cellV]) rfl ⟨_, rfl, HS.out, hl⟩

end Go.Proofs.Ythdkbfffjlkbpaa
/- The small case of layer 15's statements: what comes out. -/

namespace Go.Hm
open Go Go.RowKit
def cN (n : Int) : CellS := (false, n, [], 0, 0)
def cT (b : Nat) : CellS := (false, 0, [b], 0, 0)
def cO : CellS := (true, 0, [], 0, 0)
theorem sm_isA : IsStat 0 [cN 3, cO, cN 1] (1, true, cN 1, cN 3) := by
  have h := (((isStat_nil 0).merge (isStat_one 0 (cN 3))).merge (isStat_one 0 cO)).merge (isStat_one 0 (cN 1))
  have e : mergeS 0 (mergeS 0 (mergeS 0 stat0 (singleS (cN 3))) (singleS cO)) (singleS (cN 1)) = (1, true, cN 1, cN 3) := rfl
  rw [e] at h
  exact h
theorem sm_A {s : StatS} (h : IsStat 0 [cN 3, cO, cN 1] s) : s = (1, true, cN 1, cN 3) := h.uniq (by simp [cN, cO, rightB]) (by simp [cN, cO]) sm_isA
theorem sm_isB : IsStat 0 [cN 9] (0, true, cN 9, cN 9) := isStat_one 0 (cN 9)
theorem sm_B {s : StatS} (h : IsStat 0 [cN 9] s) : s = (0, true, cN 9, cN 9) := h.uniq (by simp [cN, rightB]) (by simp [cN]) sm_isB
theorem sm_isC : IsStat 2 [cT 98, cT 97] (0, true, cT 97, cT 98) := by
  have h := ((isStat_nil 2).merge (isStat_one 2 (cT 98))).merge (isStat_one 2 (cT 97))
  have e : mergeS 2 (mergeS 2 stat0 (singleS (cT 98))) (singleS (cT 97)) = (0, true, cT 97, cT 98) := rfl
  rw [e] at h
  exact h
theorem sm_C {s : StatS} (h : IsStat 2 [cT 98, cT 97] s) : s = (0, true, cT 97, cT 98) := h.uniq (by simp [cT, rightB]) (by simp [cT]) sm_isC
theorem sm_M : mergeS 0 (1, true, cN 1, cN 3) (0, true, cN 9, cN 9) = (1, true, cN 1, cN 9) := rfl
theorem sm_p1 : putS [] 0 (2, false, cell0, cell0) = [2, 0] := by
  have e : rightS 0 (2, false, cell0, cell0) = true := by unfold rightS; simp
  unfold putS
  rw [if_pos e]
  simp [vp_lt]
theorem sm_p2 : putS [7] 2 (0, true, cT 97, cT 98) = [7, 0, 1, 4, 1, 97, 1, 98] := by
  have e : rightS 2 (0, true, cT 97, cT 98) = true := by
    unfold rightS
    rw [if_neg (by simp), if_pos rfl]
    have h1 : rightB (cT 97) 2 false = true := by simp [rightB, cT]
    have h2 : rightB (cT 98) 2 false = true := by simp [rightB, cT]
    have h3 : cmpD 2 (cT 97) (cT 98) = -1 := rfl
    simp [h1, h2, h3]
  unfold putS
  rw [if_pos e]
  simp [endsL, plB, plE, cT, vp_lt]
theorem sm_h1 : (byteS (lenS 65536 (some [2, 0])).2).1 ≠ 1 := by decide
theorem sm_h2 : (byteS (lenS 65536 (some [0, 2])).2).1 ≠ 1 := by decide
theorem sm_m1 : mayB 0 (1, true, cN 1, cN 3) (cN 2) = true := rfl
theorem sm_m2 : mayB 0 (1, true, cN 1, cN 3) (cN 4) = false := rfl
theorem sm_m3 : mayB 0 (1, true, cN 1, cN 3) cO = true := rfl
theorem sm_r1 : rightS 0 (1, true, cN 1, cN 3) = true := sm_isA.right (by simp [cN, cO, rightB]) (by omega) (by simp)
theorem sm_r2 : rightS 4 stat0 = false := rfl
theorem sm_s1 : (bstr [2, 0]).toList = [2, 0] := by rw [bstr_toList]; rfl
theorem sm_s2 : (bstr [7, 0, 1, 4, 1, 97, 1, 98]).toList = [7, 0, 1, 4, 1, 97, 1, 98] := by rw [bstr_toList]; rfl

end Go.Hm

namespace Go.Proofs.Ythdkbfffjlkbpaa
open Go.RowKit Go.Hm
theorem sm_g1 : getR (some [2, 0]) = ((2, false, cell0, cell0), some []) := rfl
theorem sm_g2 : getR (some [0, 2]) = (stat0, none) := rfl

end Go.Proofs.Ythdkbfffjlkbpaa
/- A region that draws its order, where sometimes two operations are ready that make memory: a plan of all ways. No program is named here. -/

namespace Go.Hm
open Go Go.RowKit
/-- How a region is gone through: what only reads first; one alone; or either of two. -/
inductive Plan where
  | done
  | quiet (i : Nat) (p : Plan)
  | alone (i : Nat) (p : Plan)
  | two (i : Nat) (p : Plan) (j : Nat) (q : Plan)

section
variable {P : Program} {ops : Array Oper} {Q : Exit → Act → World → Prop}
def Plan.ok (ops : Array Oper) : Array Bool → Plan → Bool
  | listed, .done => (Region.ready .any ops listed).isEmpty
  | listed, .quiet i p => (Region.ready .any ops listed).contains i && (Region.free .any ops listed i && p.ok ops (listed.setIfInBounds i true))
  | listed, .alone i p => decide (Region.ready .any ops listed = [i]) && p.ok ops (listed.setIfInBounds i true)
  | listed, .two i p j q => decide (Region.ready .any ops listed = [i, j]) && (p.ok ops (listed.setIfInBounds i true) && q.ok ops (listed.setIfInBounds j true))
def Plan.size : Plan → Nat
  | .done => 0
  | .quiet _ p => p.size + 1
  | .alone _ p => p.size + 1
  | .two _ p _ q => Nat.max p.size q.size + 1
/-- An operation that may make or turn memory, and what comes behind it. -/
def planOp (P : Program) (ops : Array Oper) (R : World → World → Prop) (Q : Exit → Act → World → Prop) (i : Nat) (K : Act → World → Prop) (a : Act) (w : World) : Prop :=
  ∃ o, ops[i]? = some o ∧ if Region.wanted o (yielded ops a.tmps) then o.wp P a w (fun a' w' => R w w' ∧ K a' w') (NoPanic Q) else K (a.put o.dst undef) w
def wpPlan (P : Program) (ops : Array Oper) (R : World → World → Prop) (Q : Exit → Act → World → Prop) : Plan → Act → World → Prop
  | .done, a, w => Q .normal a w
  | .quiet i p, a, w => ∃ o v, ops[i]? = some o ∧ ((Region.wanted o (yielded ops a.tmps) = true ∧ ∀ w', R w w' → (execOp a.eval o).run P w' = .ok (.value v) w') ∨ (Region.wanted o (yielded ops a.tmps) = false ∧ v = undef)) ∧ wpPlan P ops R Q p (a.put o.dst v) w
  | .alone i p, a, w => planOp P ops R Q i (wpPlan P ops R Q p) a w
  | .two i p j q, a, w => planOp P ops R Q i (wpPlan P ops R Q p) a w ∧ planOp P ops R Q j (wpPlan P ops R Q q) a w
variable {R : World → World → Prop}
theorem wpAnyH_of_plan (hrefl : ∀ w, R w w) (htrans : ∀ {x y z}, R x y → R y z → R x z) (hs : Region.noSelect ops = true) :
    ∀ (p : Plan) (fuel : Nat) (listed : Array Bool) (a : Act) (w : World), p.size ≤ fuel → p.ok ops listed = true → wpPlan P ops R Q p a w → wpAnyH P .any ops (NoPanic Q) (R w) fuel listed a w := by
  have key : ∀ (p : Plan), (∀ (fuel : Nat) (listed : Array Bool) (a : Act) (w : World), p.size ≤ fuel → p.ok ops listed = true → wpPlan P ops R Q p a w → wpAnyH P .any ops (NoPanic Q) (R w) fuel listed a w) →
      ∀ (j : Nat) (fuel : Nat) (listed : Array Bool) (a : Act) (w : World), p.size ≤ fuel → p.ok ops (listed.setIfInBounds j true) = true → planOp P ops R Q j (wpPlan P ops R Q p) a w →
        wpOp P ops (NoPanic Q) j (fun a' w' => R w w' ∧ wpAnyH P .any ops (NoPanic Q) (R w) fuel (listed.setIfInBounds j true) a' w') a w := by
    intro p ih j fuel listed a w hl h3 hc
    obtain ⟨o, ho, hc⟩ := hc
    unfold wpOp
    simp only [ho]
    split
    · rename_i hw
      rw [if_pos hw] at hc
      exact .inl (Oper.wp_mono (fun a' w' hh => ⟨hh.1, wpAnyH_weaken (fun z hz => htrans hh.1 hz) fuel _ a' w' (ih fuel _ a' w' hl h3 hh.2)⟩) hc)
    · rename_i hw
      rw [if_neg hw] at hc
      exact ⟨hrefl w, ih fuel _ _ w hl h3 hc⟩
  intro p
  induction p with
  | done =>
    intro fuel listed a w _ hok h
    exact wpAnyH_done (by simpa [Plan.ok] using hok) (NoPanic.normal h) fuel
  | quiet i p ih =>
    intro fuel listed a w hl hok h
    obtain ⟨fuel, rfl⟩ : ∃ k, fuel = k + 1 := ⟨fuel - 1, by simp [Plan.size] at hl; omega⟩
    obtain ⟨o, v, ho, hv, hr⟩ := h
    simp only [Plan.ok, Bool.and_eq_true] at hok
    obtain ⟨h1, h2, h3⟩ := hok
    exact wpAnyH_take ho hs h2 h1 (fun _ _ _ hp => hp) hv (hrefl w) (ih fuel _ _ w (by simp [Plan.size] at hl; omega) h3 hr)
  | alone i p ih =>
    intro fuel listed a w hl hok h
    obtain ⟨fuel, rfl⟩ : ∃ k, fuel = k + 1 := ⟨fuel - 1, by simp [Plan.size] at hl; omega⟩
    simp only [Plan.ok, Bool.and_eq_true, decide_eq_true_eq] at hok
    obtain ⟨h1, h3⟩ := hok
    refine wpAnyH_all h1 (by simp) ?_
    intro j hj
    obtain rfl : j = i := by simpa using hj
    exact key p ih j fuel listed a w (by simp [Plan.size] at hl; omega) h3 h
  | two i p j q ihp ihq =>
    intro fuel listed a w hl hok h
    obtain ⟨fuel, rfl⟩ : ∃ k, fuel = k + 1 := ⟨fuel - 1, by simp [Plan.size] at hl; omega⟩
    simp only [Plan.ok, Bool.and_eq_true, decide_eq_true_eq] at hok
    obtain ⟨h1, h3, h4⟩ := hok
    have hl' : Nat.max p.size q.size ≤ fuel := by simp [Plan.size] at hl; exact hl
    refine wpAnyH_all h1 (by simp) ?_
    intro k hk
    have hk : k = i ∨ k = j := by simpa using hk
    rcases hk with rfl | rfl
    · exact key p ihp k fuel listed a w (Nat.le_trans (Nat.le_max_left _ _) hl') h3 h.1
    · exact key q ihq k fuel listed a w (Nat.le_trans (Nat.le_max_right _ _) hl') h4 h.2
theorem wp_region_plan {id : Nat} {a : Act} {w : World} (R : World → World → Prop) (p : Plan) (hrefl : ∀ w, R w w) (htrans : ∀ {x y z}, R x y → R y z → R x z) (hm : P.follows .mixedOrders = true)
    (hs : Region.noSelect ops = true) (hl : decide (p.size ≤ ops.size) = true) (hok : p.ok ops (Array.replicate ops.size false) = true) (h : wpPlan P ops R Q p a w.drew) : (Code.region id ops true).wp P Q a w :=
  wp_region_noPanic (wp_region_held hm (wpAnyH_of_plan hrefl htrans hs p ops.size _ a _ (by simpa using hl) hok h))
variable {i j : Nat} {p q : Plan} {a : Act} {w : World} {v : Value}
theorem plan_done (h : Q .normal a w) : wpPlan P ops R Q .done a w := h

section
variable {dst : Option Tmp} {op : Op} {ty : TypeId} {pos : String} {af : Array Edge} {gd : Option (Nat × Bool)}
theorem plan_quiet (ho : ops[i]? = some ⟨dst, op, ty, pos, af, gd⟩) (hw : Region.wanted ⟨dst, op, ty, pos, af, gd⟩ (yielded ops a.tmps) = true) (hv : ∀ w', R w w' → (execOp a.eval ⟨dst, op, ty, pos, af, gd⟩).run P w' = .ok (.value v) w') (h : wpPlan P ops R Q p (a.put dst v) w) : wpPlan P ops R Q (.quiet i p) a w :=
  ⟨_, v, ho, .inl ⟨hw, hv⟩, h⟩
theorem plan_op {K0 : Act → World → Prop} (ho : ops[i]? = some ⟨dst, op, ty, pos, af, gd⟩) (hw : Region.wanted ⟨dst, op, ty, pos, af, gd⟩ (yielded ops a.tmps) = true) (h : ∀ K : Act → World → Prop, (∀ a' w', R w w' → K0 a' w' → K a' w') → Oper.wp P ⟨dst, op, ty, pos, af, gd⟩ a w K (NoPanic Q)) : planOp P ops R Q i K0 a w :=
  ⟨_, ho, by rw [if_pos hw]; exact h _ fun _ _ h1 h2 => ⟨h1, h2⟩⟩
theorem plan_alone (h : planOp P ops R Q i (wpPlan P ops R Q p) a w) : wpPlan P ops R Q (.alone i p) a w := h
theorem plan_two (h : planOp P ops R Q i (wpPlan P ops R Q p) a w) (h2 : planOp P ops R Q j (wpPlan P ops R Q q) a w) : wpPlan P ops R Q (.two i p j q) a w := ⟨h, h2⟩
end
end

end Go.Hm
/- Arguments opened, by the types of this program. -/
set_option maxRecDepth 100000

namespace Go.Proofs.Ythdkbfffjlkbpaa
open Go.RowKit Go.Hm Go.WideShapes Go.ChangeShapes
def SmallPost (w : World) (e : Ending) (w' : World) : Prop := e = .returned (.bool true) ∧ Below w.heap.size w w'

section
variable {H : Type} {enc : TypeId × Value → H} {W : World} {base : Nat} {v : Value} {d : DataW H} {ps : List MemPlace}
theorem open_B (hval : Value.okWide Try.prog W .any base 35 v) (h : DataW.Trod enc Try.prog W 0 (fun _ => true) true 35 v d ps) (hlt : ∀ p ∈ ps, p.block < W.heap.size) (hw : ∀ n ∈ d.weights Try.prog 35, n ≤ reachBytes) :
    ∃ A c, ∃ l : List Nat, v = .slice A l.length c ∧ l.length ≤ c ∧ c ≤ 140737488351232 ∧ Reads W W.heap.size 1 A l.length (nums .u8 l) ∧ ∀ x ∈ l, x < 256 := by
  obtain ⟨A, c, l, h1, h2, _, h4, h5, h6⟩ := open_nums (k := .u8) (sz := 1) elB.ht (by kernel_rfl) (by kernel_rfl) rfl (by kernel_rfl) hval h hlt hw
  exact ⟨A, c, l, h1, h2, by unfold reachBytes at h4; omega, h5, fun x hx => by have := h6 x hx; simp [IntKind.max, IntKind.signed, IntKind.bits] at this; omega⟩
theorem open_W (hval : Value.okWide Try.prog W .any base 83 v) (h : DataW.Trod enc Try.prog W 0 (fun _ => true) true 83 v d ps) (hlt : ∀ p ∈ ps, p.block < W.heap.size) (hw : ∀ n ∈ d.weights Try.prog 83, n ≤ reachBytes) :
    ∃ A c, ∃ l : List Nat, v = .slice A l.length c ∧ l.length ≤ c ∧ c * 8 ≤ 140737488351232 ∧ Reads W W.heap.size 1 A l.length (nums .u64 l) ∧ ∀ x ∈ l, x ≤ 18446744073709551615 := by
  obtain ⟨A, c, l, h1, h2, _, h4, h5, h6⟩ := open_nums (k := .u64) (sz := 8) elW.ht (by kernel_rfl) (by kernel_rfl) rfl (by kernel_rfl) hval h hlt hw
  exact ⟨A, c, l, h1, h2, by unfold reachBytes at h4; omega, h5, fun x hx => by have := h6 x hx; simp [IntKind.max, IntKind.signed, IntKind.bits] at this; omega⟩
theorem open_I (hval : Value.okWide Try.prog W .any base 99 v) (h : DataW.Trod enc Try.prog W 0 (fun _ => true) true 99 v d ps) (hlt : ∀ p ∈ ps, p.block < W.heap.size) (hw : ∀ n ∈ d.weights Try.prog 99, n ≤ reachBytes) :
    ∃ A c, ∃ l : List Int, v = .slice A l.length c ∧ l.length ≤ c ∧ c * 8 ≤ 140737488351232 ∧ Reads W W.heap.size 1 A l.length (ints .i64 l) ∧ ∀ x ∈ l, -9223372036854775808 ≤ x ∧ x ≤ 9223372036854775807 := by
  obtain ⟨A, c, l, h1, h2, _, h4, h5, h6⟩ := open_ints_ (k := .i64) (sz := 8) elI.ht (by kernel_rfl) (by kernel_rfl) (by kernel_rfl) hval h hlt hw
  exact ⟨A, c, l, h1, h2, by unfold reachBytes at h4; omega, h5, fun x hx => by have := h6 x hx; simp [IntKind.min, IntKind.max, IntKind.signed, IntKind.bits] at this; omega⟩
theorem open_u64 (hval : Value.okWide Try.prog W .any base 58 v) (h : DataW.Trod enc Try.prog W 0 (fun _ => true) true 58 v d ps) : ∃ x : Nat, v = .int .u64 (x : Int) ∧ x ≤ 18446744073709551615 := by
  obtain ⟨y, rfl, _, _, wy⟩ := open_int (k := .u64) (by kernel_rfl) hval h
  simp [Lit.wf, IntKind.min, IntKind.max, IntKind.signed, IntKind.bits] at wy
  obtain ⟨y, rfl⟩ := Int.eq_ofNat_of_zero_le wy.1
  exact ⟨y, rfl, by omega⟩
theorem open_u32 (hval : Value.okWide Try.prog W .any base 111 v) (h : DataW.Trod enc Try.prog W 0 (fun _ => true) true 111 v d ps) : ∃ x : Nat, v = .int .u32 (x : Int) ∧ x ≤ 4294967295 := by
  obtain ⟨y, rfl, _, _, wy⟩ := open_int (k := .u32) (by kernel_rfl) hval h
  simp [Lit.wf, IntKind.min, IntKind.max, IntKind.signed, IntKind.bits] at wy
  obtain ⟨y, rfl⟩ := Int.eq_ofNat_of_zero_le wy.1
  exact ⟨y, rfl, by omega⟩
theorem open_u8 (hval : Value.okWide Try.prog W .any base 5 v) (h : DataW.Trod enc Try.prog W 0 (fun _ => true) true 5 v d ps) : ∃ x : Nat, v = .int .u8 (x : Int) ∧ x ≤ 255 := by
  obtain ⟨y, rfl, _, _, wy⟩ := open_int (k := .u8) (by kernel_rfl) hval h
  simp [Lit.wf, IntKind.min, IntKind.max, IntKind.signed, IntKind.bits] at wy
  obtain ⟨y, rfl⟩ := Int.eq_ofNat_of_zero_le wy.1
  exact ⟨y, rfl, by omega⟩
theorem open_i64 (hval : Value.okWide Try.prog W .any base 3 v) (h : DataW.Trod enc Try.prog W 0 (fun _ => true) true 3 v d ps) : ∃ x : Int, v = .int .i64 x ∧ -9223372036854775808 ≤ x ∧ x ≤ 9223372036854775807 := by
  obtain ⟨y, rfl, _, _, wy⟩ := open_int (k := .i64) (by kernel_rfl) hval h
  simp [Lit.wf, IntKind.min, IntKind.max, IntKind.signed, IntKind.bits] at wy
  exact ⟨y, rfl, wy.1, by omega⟩
end

end Go.Proofs.Ythdkbfffjlkbpaa
/- The small case of layer 15's statements. -/

namespace Go.Proofs.Ythdkbfffjlkbpaa
open Go.RowKit Go.Hm
theorem litOf {B : Nat} {w0 W : World} (_h : Below B w0 W) (e : TypeId) (cs : Array Value) (n sz : Nat) (xs : List Value) (h : cs.toList = xs) (hn : xs.length = n * sz) : Reads (W.alloc (.cells cs e)) (W.alloc (.cells cs e)).heap.size sz (some ⟨W.heap.size, 0, none⟩) n xs := Reads.litR W e cs n sz xs h hn
theorem blkOf {B : Nat} {w0 W : World} (_h : Below B w0 W) (t : TypeId) (cs : Array Value) : Blk (W.alloc (.cells cs t)) W.heap.size t cs := Blk.new _ _ _
theorem nearN (n : Int) : near (cN n) := by unfold near cN; simp
theorem nearO : near cO := by unfold near cO; decide
theorem nearT (b : Nat) : near (cT b) := by unfold near cT; simp
theorem sm_of1 (w : World) : Calls Try.prog 12 #[.int .i64 0, .slice (some ⟨w.heap.size, 0, none⟩) 3 3] (w.alloc (.cells #[.bool false, .int .i64 3, .string ⟨#[]⟩, .int .i64 0, .int .i64 0, .bool true, .int .i64 0, .string ⟨#[]⟩, .int .i64 0, .int .i64 0, .bool false, .int .i64 1, .string ⟨#[]⟩, .int .i64 0, .int .i64 0] 29)) (StatPost 0 [cN 3, cO, cN 1] (w.alloc (.cells #[.bool false, .int .i64 3, .string ⟨#[]⟩, .int .i64 0, .int .i64 0, .bool true, .int .i64 0, .string ⟨#[]⟩, .int .i64 0, .int .i64 0, .bool false, .int .i64 1, .string ⟨#[]⟩, .int .i64 0, .int .i64 0] 29))) :=
  of_any (Reads.litR w 29 #[.bool false, .int .i64 3, .string ⟨#[]⟩, .int .i64 0, .int .i64 0, .bool true, .int .i64 0, .string ⟨#[]⟩, .int .i64 0, .int .i64 0, .bool false, .int .i64 1, .string ⟨#[]⟩, .int .i64 0, .int .i64 0] 3 5 (recs cellV [cN 3, cO, cN 1]) rfl rfl) (by intro y hy; simp at hy; rcases hy with rfl | rfl | rfl; exact nearN 3; exact nearO; exact nearN 1) (by omega)
theorem sm_of9 {w : World} {A : Option Addr} (h : Reads w w.heap.size 5 A 1 (recs cellV [cN 9])) : Calls Try.prog 12 #[.int .i64 0, .slice A 1 1] w (StatPost 0 [cN 9] w) :=
  of_any h (by intro y hy; simp at hy; rcases hy with rfl; exact nearN 9) (by omega)
theorem sm_ofT (w : World) : Calls Try.prog 12 #[.int .i64 2, .slice (some ⟨w.heap.size, 0, none⟩) 2 2] (w.alloc (.cells #[.bool false, .int .i64 0, .string ⟨#[98]⟩, .int .i64 0, .int .i64 0, .bool false, .int .i64 0, .string ⟨#[97]⟩, .int .i64 0, .int .i64 0] 29)) (StatPost 2 [cT 98, cT 97] (w.alloc (.cells #[.bool false, .int .i64 0, .string ⟨#[98]⟩, .int .i64 0, .int .i64 0, .bool false, .int .i64 0, .string ⟨#[97]⟩, .int .i64 0, .int .i64 0] 29))) :=
  of_any (Reads.litR w 29 #[.bool false, .int .i64 0, .string ⟨#[98]⟩, .int .i64 0, .int .i64 0, .bool false, .int .i64 0, .string ⟨#[97]⟩, .int .i64 0, .int .i64 0] 2 5 (recs cellV [cT 98, cT 97]) rfl rfl) (by intro y hy; simp at hy; rcases hy with rfl | rfl; exact nearT 98; exact nearT 97) (by omega)
theorem sm_merge (w : World) : Calls Try.prog 14 #[.int .i64 0, .agg #[.int .i64 1, .bool true, .bool false, .int .i64 1, .string ⟨#[]⟩, .int .i64 0, .int .i64 0, .bool false, .int .i64 3, .string ⟨#[]⟩, .int .i64 0, .int .i64 0], .agg #[.int .i64 0, .bool true, .bool false, .int .i64 9, .string ⟨#[]⟩, .int .i64 0, .int .i64 0, .bool false, .int .i64 9, .string ⟨#[]⟩, .int .i64 0, .int .i64 0]] w (NewPost (.agg #[.int .i64 1, .bool true, .bool false, .int .i64 1, .string ⟨#[]⟩, .int .i64 0, .int .i64 0, .bool false, .int .i64 9, .string ⟨#[]⟩, .int .i64 0, .int .i64 0]) w) := by
  have := merge_any (w := w) (t := 0) (a := (1, true, cN 1, cN 3)) (b := (0, true, cN 9, cN 9)) (nearN 1) (nearN 3) (nearN 9) (nearN 9) (by decide) (by decide)
  rw [sm_M] at this
  exact this
theorem data0 : statData (2, false, cell0, cell0) := by unfold statData cellData cell0; simp
theorem dataA : statData (1, true, cN 1, cN 3) := by unfold statData cellData cN; simp
theorem dataC : statData (0, true, cT 97, cT 98) := by unfold statData cellData cT; simp
theorem dataS : statData stat0 := by unfold statData cellData stat0 cell0; simp
theorem sm_put1 (W : World) : Calls Try.prog 18 #[.slice none 0 0, .int .i64 0, .agg #[.int .i64 2, .bool false, .bool false, .int .i64 0, .string ⟨#[]⟩, .int .i64 0, .int .i64 0, .bool false, .int .i64 0, .string ⟨#[]⟩, .int .i64 0, .int .i64 0]] W (BytesPost [2, 0] W) := by
  have := sput_any (w := W) (A := none) (n := 0) (c := 0) (l := []) (t := 0) (s := (2, false, cell0, cell0)) Reads.none_ (by omega) data0
  rw [sm_p1] at this
  exact this
theorem sm_put2 {W : World} {A : Option Addr} (h : Reads W W.heap.size 1 A 1 (nums .u8 [7])) : Calls Try.prog 18 #[.slice A 1 1, .int .i64 2, .agg #[.int .i64 0, .bool true, .bool false, .int .i64 0, .string ⟨#[97]⟩, .int .i64 0, .int .i64 0, .bool false, .int .i64 0, .string ⟨#[98]⟩, .int .i64 0, .int .i64 0]] W (BytesPost [7, 0, 1, 4, 1, 97, 1, 98] W) := by
  have := sput_any (c := 1) (t := 2) (s := (0, true, cT 97, cT 98)) h (by omega) dataC
  rw [sm_p2] at this
  exact this
theorem sm_may1 (W : World) : Calls Try.prog 25 #[.int .i64 0, .agg #[.int .i64 1, .bool true, .bool false, .int .i64 1, .string ⟨#[]⟩, .int .i64 0, .int .i64 0, .bool false, .int .i64 3, .string ⟨#[]⟩, .int .i64 0, .int .i64 0], .agg #[.bool false, .int .i64 2, .string ⟨#[]⟩, .int .i64 0, .int .i64 0]] W (NewPost (.bool true) W) := by
  have := may_any (w := W) (t := 0) (s := (1, true, cN 1, cN 3)) (c := cN 2) (nearN 1) (nearN 3) (nearN 2)
  rw [sm_m1] at this
  exact this
theorem sm_may2 (W : World) : Calls Try.prog 25 #[.int .i64 0, .agg #[.int .i64 1, .bool true, .bool false, .int .i64 1, .string ⟨#[]⟩, .int .i64 0, .int .i64 0, .bool false, .int .i64 3, .string ⟨#[]⟩, .int .i64 0, .int .i64 0], .agg #[.bool false, .int .i64 4, .string ⟨#[]⟩, .int .i64 0, .int .i64 0]] W (NewPost (.bool false) W) := by
  have := may_any (w := W) (t := 0) (s := (1, true, cN 1, cN 3)) (c := cN 4) (nearN 1) (nearN 3) (nearN 4)
  rw [sm_m2] at this
  exact this
theorem sm_may3 (W : World) : Calls Try.prog 25 #[.int .i64 0, .agg #[.int .i64 1, .bool true, .bool false, .int .i64 1, .string ⟨#[]⟩, .int .i64 0, .int .i64 0, .bool false, .int .i64 3, .string ⟨#[]⟩, .int .i64 0, .int .i64 0], .agg #[.bool true, .int .i64 0, .string ⟨#[]⟩, .int .i64 0, .int .i64 0]] W (NewPost (.bool true) W) := by
  have := may_any (w := W) (t := 0) (s := (1, true, cN 1, cN 3)) (c := cO) (nearN 1) (nearN 3) nearO
  rw [sm_m3] at this
  exact this
theorem sm_right1 (W : World) : Calls Try.prog 16 #[.int .i64 0, .agg #[.int .i64 1, .bool true, .bool false, .int .i64 1, .string ⟨#[]⟩, .int .i64 0, .int .i64 0, .bool false, .int .i64 3, .string ⟨#[]⟩, .int .i64 0, .int .i64 0]] W (NewPost (.bool true) W) := by
  have := sright_any (w := W) (t := 0) dataA.fine
  rw [sm_r1] at this
  exact this
theorem sm_right2 (W : World) : Calls Try.prog 16 #[.int .i64 4, .agg #[.int .i64 0, .bool false, .bool false, .int .i64 0, .string ⟨#[]⟩, .int .i64 0, .int .i64 0, .bool false, .int .i64 0, .string ⟨#[]⟩, .int .i64 0, .int .i64 0]] W (NewPost (.bool false) W) := by
  have := sright_any (w := W) (t := 4) dataS.fine
  rw [sm_r2] at this
  exact this
theorem sm_get1 {W : World} {g : Nat} (h : CurS W g (some [2, 0])) : Calls Try.prog 21 #[.pointer (some ⟨g, 0, none⟩), .int .i64 0] W (SGetPost (2, false, cell0, cell0) g (some []) W) := by
  have := sget_no (t := 0) h sm_h1 (by omega)
  rw [sm_g1] at this
  exact this
theorem sm_get2 {W : World} {g : Nat} (h : CurS W g (some [0, 2])) : Calls Try.prog 21 #[.pointer (some ⟨g, 0, none⟩), .int .i64 0] W (SGetPost stat0 g none W) := by
  have := sget_no (t := 0) h sm_h2 (by omega)
  rw [sm_g2] at this
  exact this
theorem sm_eqA (W : World) : (binOp .eql 31 (.agg #[.int .i64 1, .bool true, .bool false, .int .i64 1, .string ⟨#[]⟩, .int .i64 0, .int .i64 0, .bool false, .int .i64 3, .string ⟨#[]⟩, .int .i64 0, .int .i64 0]) (.agg #[.int .i64 1, .bool true, .bool false, .int .i64 1, .string ⟨#[]⟩, .int .i64 0, .int .i64 0, .bool false, .int .i64 3, .string ⟨#[]⟩, .int .i64 0, .int .i64 0])).run Try.prog W = .ok (.bool true) W := by
  have := eqStat_any (n := 1) (n' := 1) (b := true) (b' := true) (p := cN 1) (q := cN 3) (p' := cN 1) (q' := cN 3) W
  rw [show eqS (1, true, cN 1, cN 3) (1, true, cN 1, cN 3) = true by simp [eqS, eqC]] at this
  exact this
theorem sm_eq2 (W : World) : (binOp .eql 31 (.agg #[.int .i64 2, .bool false, .bool false, .int .i64 0, .string ⟨#[]⟩, .int .i64 0, .int .i64 0, .bool false, .int .i64 0, .string ⟨#[]⟩, .int .i64 0, .int .i64 0]) (.agg #[.int .i64 2, .bool false, .bool false, .int .i64 0, .string ⟨#[]⟩, .int .i64 0, .int .i64 0, .bool false, .int .i64 0, .string ⟨#[]⟩, .int .i64 0, .int .i64 0])).run Try.prog W = .ok (.bool true) W := by
  have := eqStat_any (n := 2) (n' := 2) (b := false) (b' := false) (p := cell0) (q := cell0) (p' := cell0) (q' := cell0) W
  rw [show eqS (2, false, cell0, cell0) (2, false, cell0, cell0) = true by simp [eqS, eqC]] at this
  exact this
theorem sm_eq0 (W : World) : (binOp .eql 31 (.agg #[.int .i64 0, .bool false, .bool false, .int .i64 0, .string ⟨#[]⟩, .int .i64 0, .int .i64 0, .bool false, .int .i64 0, .string ⟨#[]⟩, .int .i64 0, .int .i64 0]) (.agg #[.int .i64 0, .bool false, .bool false, .int .i64 0, .string ⟨#[]⟩, .int .i64 0, .int .i64 0, .bool false, .int .i64 0, .string ⟨#[]⟩, .int .i64 0, .int .i64 0])).run Try.prog W = .ok (.bool true) W := by
  have := eqStat_any (n := 0) (n' := 0) (b := false) (b' := false) (p := cell0) (q := cell0) (p' := cell0) (q' := cell0) W
  rw [show eqS (0, false, cell0, cell0) (0, false, cell0, cell0) = true by simp [eqS, eqC]] at this
  exact this
set_option maxHeartbeats 4000000 in
set_option maxRecDepth 100000 in
theorem small15_any (w : World) : Calls Try.prog 9 #[] w (SmallPost w) := by
  have O1 := Lib.hid (sm_of1 w)
  have H0 : New w (w.alloc (.cells #[.bool false, .int .i64 3, .string ⟨#[]⟩, .int .i64 0, .int .i64 0, .bool true, .int .i64 0, .string ⟨#[]⟩, .int .i64 0, .int .i64 0, .bool false, .int .i64 1, .string ⟨#[]⟩, .int .i64 0, .int .i64 0] 29)) := (Below.refl _ _).alloc (Nat.le_refl _) _
  go_enter Try.func9, Try.ntmps9
  go_wp2_with fail
  refine O1.out.mono ?_
  rintro e w1 ⟨s, rfl, hs, b1⟩
  obtain rfl := sm_A hs
  have b01 := New.trans H0 b1
  clear hs b1 H0 O1
  rw [show statA (1, true, cN 1, cN 3) = .agg #[.int .i64 1, .bool true, .bool false, .int .i64 1, .string ⟨#[]⟩, .int .i64 0, .int .i64 0, .bool false, .int .i64 3, .string ⟨#[]⟩, .int .i64 0, .int .i64 0] from rfl]
  go_wp2_with fail
  obtain ⟨w2, hw2⟩ : ∃ W, W = w1.alloc (.cells #[.int .i64 1, .bool true, .bool false, .int .i64 1, .string ⟨#[]⟩, .int .i64 0, .int .i64 0, .bool false, .int .i64 3, .string ⟨#[]⟩, .int .i64 0, .int .i64 0] 31) := ⟨_, rfl⟩
  have BA : Blk w2 w1.heap.size 31 #[.int .i64 1, .bool true, .bool false, .int .i64 1, .string ⟨#[]⟩, .int .i64 0, .int .i64 0, .bool false, .int .i64 3, .string ⟨#[]⟩, .int .i64 0, .int .i64 0] := by rw [hw2]; exact Blk.new _ _ _
  have b02 : New w w2 := by rw [hw2]; exact New.trans b01 ((Below.refl _ _).alloc (Nat.le_refl _) _)
  rw [← hw2]
  have HBA := Lib.hid BA
  have Hb02 := Lib.hid b02
  obtain ⟨gA, hgA⟩ : ∃ g, g = w1.heap.size := ⟨_, rfl⟩
  rw [← hgA] at HBA ⊢
  clear BA b02 hw2 b01 hgA
  go_cut [2] (fun v wx => ∃ g2, v = .pointer (some ⟨g2, 0, none⟩) ∧ Hid (Blk wx g2 31 #[.int .i64 1, .bool true, .bool false, .int .i64 1, .string ⟨#[]⟩, .int .i64 0, .int .i64 0, .bool false, .int .i64 9, .string ⟨#[]⟩, .int .i64 0, .int .i64 0]) ∧ Hid (New w2 wx))
  case first =>
    refine wp_region_plan (Below w2.heap.size) (.quiet 0 (.quiet 1 (.two 2 (.two 3 (.two 4 (.alone 5 (.alone 6 .done)) 5 (.alone 4 (.alone 6 .done))) 5 (.alone 3 (.alone 4 (.alone 6 .done)))) 5 (.alone 2 (.alone 3 (.alone 4 (.alone 6 .done)))))))
      (Below.refl _) Below.trans (by kernel_rfl) (by kernel_rfl) (by kernel_rfl) (by kernel_rfl) ?_
    have hU : Below w2.heap.size w2 w2.drew := (Below.refl _ _).drew
    obtain ⟨w3, hw3⟩ : ∃ W, W = w2.drew := ⟨_, rfl⟩
    rw [← hw3] at hU ⊢
    clear hw3
    iterate 2 ((refine plan_quiet rfl rfl (v := ?_) (fun W hW => ?_) ?_); rotate_left; (obtain ⟨x0, x1, x2, x3, x4, x5, x6, x7, x8, x9, x10, x11⟩ := cells12 (HBA.out.below (Below.trans hU hW) HBA.out.lt); go_simp <;> with_reducible rfl); simp only [Act.put, List.setIfInBounds_toArray, List.set_cons_zero, List.set_cons_succ])
    refine plan_two ?_ ?_
    · refine plan_op rfl rfl (fun K hK => ?_)
      go_simp
      refine hK _ _ ((Below.refl _ _).alloc hU.size _) ?_
      have hLit := litOf hU 29 #[.bool false, .int .i64 9, .string ⟨#[]⟩, .int .i64 0, .int .i64 0] 1 5 (recs cellV [cN 9]) rfl rfl
      replace hU := hU.alloc hU.size (.cells #[.bool false, .int .i64 9, .string ⟨#[]⟩, .int .i64 0, .int .i64 0] 29)
      clear hK
      refine plan_two ?_ ?_
      · refine plan_op rfl rfl (fun K hK => ?_)
        go_simp
        (with_reducible refine (sm_of9 hLit).mono ?_)
        rintro e u ⟨s, rfl, hs, b⟩
        obtain rfl := sm_B hs
        rw [show statA (0, true, cN 9, cN 9) = .agg #[.int .i64 0, .bool true, .bool false, .int .i64 9, .string ⟨#[]⟩, .int .i64 0, .int .i64 0, .bool false, .int .i64 9, .string ⟨#[]⟩, .int .i64 0, .int .i64 0] from rfl]
        have b' := Below.mono b hU.size
        refine hK _ _ b' ?_
        replace hU := Below.trans hU b'
        clear hK hs b b' hLit
        refine plan_two ?_ ?_
        · refine plan_op rfl rfl (fun K hK => ?_)
          go_simp
          (with_reducible refine (sm_merge _).mono ?_)
          rintro e u ⟨rfl, b⟩
          have b' := Below.mono b hU.size
          refine hK _ _ b' ?_
          replace hU := Below.trans hU b'
          clear hK b b'
          refine plan_alone ?_
          refine plan_op rfl rfl (fun K hK => ?_)
          go_simp
          refine hK _ _ ((Below.refl _ _).alloc hU.size _) ?_
          have BT := blkOf hU 31 #[.int .i64 0, .bool false, .bool false, .int .i64 0, .string ⟨#[]⟩, .int .i64 0, .int .i64 0, .bool false, .int .i64 0, .string ⟨#[]⟩, .int .i64 0, .int .i64 0]
          have hg2 := hU.size
          replace hU := hU.alloc hU.size (.cells #[.int .i64 0, .bool false, .bool false, .int .i64 0, .string ⟨#[]⟩, .int .i64 0, .int .i64 0, .bool false, .int .i64 0, .string ⟨#[]⟩, .int .i64 0, .int .i64 0] 31)
          clear hK
          refine plan_alone ?_
          refine plan_op rfl rfl (fun K hK => ?_)
          refine wp_storeB 31 (.tmp 2) (.tmp 18) rfl _ _ rfl rfl BT (by kernel_rfl) (by simp) (by simp [Value.oneCell']) ?_
          intro W5 BT' hlow hfar
          have b' := hlow _ _ (Below.refl w2.heap.size _) hg2
          refine hK _ _ b' ?_
          replace hU := Below.trans hU b'
          clear BT hK hlow hfar b'
          refine plan_done ?_
          go_wp2_with fail
          go_meet
          exact ⟨_, rfl, Lib.hid BT', Lib.hid hU⟩
        · refine plan_op rfl rfl (fun K hK => ?_)
          go_simp
          refine hK _ _ ((Below.refl _ _).alloc hU.size _) ?_
          have BT := blkOf hU 31 #[.int .i64 0, .bool false, .bool false, .int .i64 0, .string ⟨#[]⟩, .int .i64 0, .int .i64 0, .bool false, .int .i64 0, .string ⟨#[]⟩, .int .i64 0, .int .i64 0]
          have hg2 := hU.size
          replace hU := hU.alloc hU.size (.cells #[.int .i64 0, .bool false, .bool false, .int .i64 0, .string ⟨#[]⟩, .int .i64 0, .int .i64 0, .bool false, .int .i64 0, .string ⟨#[]⟩, .int .i64 0, .int .i64 0] 31)
          clear hK
          refine plan_alone ?_
          refine plan_op rfl rfl (fun K hK => ?_)
          go_simp
          (with_reducible refine (sm_merge _).mono ?_)
          rintro e u ⟨rfl, b⟩
          have b' := Below.mono b hU.size
          refine hK _ _ b' ?_
          replace BT := BT.below b BT.lt
          replace hU := Below.trans hU b'
          clear hK b b'
          refine plan_alone ?_
          refine plan_op rfl rfl (fun K hK => ?_)
          refine wp_storeB 31 (.tmp 2) (.tmp 18) rfl _ _ rfl rfl BT (by kernel_rfl) (by simp) (by simp [Value.oneCell']) ?_
          intro W5 BT' hlow hfar
          have b' := hlow _ _ (Below.refl w2.heap.size _) hg2
          refine hK _ _ b' ?_
          replace hU := Below.trans hU b'
          clear BT hK hlow hfar b'
          refine plan_done ?_
          go_wp2_with fail
          go_meet
          exact ⟨_, rfl, Lib.hid BT', Lib.hid hU⟩
      · refine plan_op rfl rfl (fun K hK => ?_)
        go_simp
        refine hK _ _ ((Below.refl _ _).alloc hU.size _) ?_
        have BT := blkOf hU 31 #[.int .i64 0, .bool false, .bool false, .int .i64 0, .string ⟨#[]⟩, .int .i64 0, .int .i64 0, .bool false, .int .i64 0, .string ⟨#[]⟩, .int .i64 0, .int .i64 0]
        have hg2 := hU.size
        replace hLit := Reads.later hLit ((Below.refl _ _).alloc (Nat.le_refl _) (.cells #[.int .i64 0, .bool false, .bool false, .int .i64 0, .string ⟨#[]⟩, .int .i64 0, .int .i64 0, .bool false, .int .i64 0, .string ⟨#[]⟩, .int .i64 0, .int .i64 0] 31))
        have e1 : (w3.alloc (.cells #[.bool false, .int .i64 9, .string ⟨#[]⟩, .int .i64 0, .int .i64 0] 29)).heap.size = w3.heap.size + 1 := by simp
        rw [e1] at BT hg2
        clear e1
        replace hU := hU.alloc hU.size (.cells #[.int .i64 0, .bool false, .bool false, .int .i64 0, .string ⟨#[]⟩, .int .i64 0, .int .i64 0, .bool false, .int .i64 0, .string ⟨#[]⟩, .int .i64 0, .int .i64 0] 31)
        clear hK
        refine plan_alone ?_
        refine plan_op rfl rfl (fun K hK => ?_)
        go_simp
        (with_reducible refine (sm_of9 hLit).mono ?_)
        rintro e u ⟨s, rfl, hs, b⟩
        obtain rfl := sm_B hs
        rw [show statA (0, true, cN 9, cN 9) = .agg #[.int .i64 0, .bool true, .bool false, .int .i64 9, .string ⟨#[]⟩, .int .i64 0, .int .i64 0, .bool false, .int .i64 9, .string ⟨#[]⟩, .int .i64 0, .int .i64 0] from rfl]
        have b' := Below.mono b hU.size
        refine hK _ _ b' ?_
        replace BT := BT.below b BT.lt
        replace hU := Below.trans hU b'
        clear hK hs b b' hLit
        refine plan_alone ?_
        refine plan_op rfl rfl (fun K hK => ?_)
        go_simp
        (with_reducible refine (sm_merge _).mono ?_)
        rintro e u ⟨rfl, b⟩
        have b' := Below.mono b hU.size
        refine hK _ _ b' ?_
        replace BT := BT.below b BT.lt
        replace hU := Below.trans hU b'
        clear hK b b'
        refine plan_alone ?_
        refine plan_op rfl rfl (fun K hK => ?_)
        refine wp_storeB 31 (.tmp 2) (.tmp 18) rfl _ _ rfl rfl BT (by kernel_rfl) (by simp) (by simp [Value.oneCell']) ?_
        intro W5 BT' hlow hfar
        have b' := hlow _ _ (Below.refl w2.heap.size _) hg2
        refine hK _ _ b' ?_
        replace hU := Below.trans hU b'
        clear BT hK hlow hfar b'
        refine plan_done ?_
        go_wp2_with fail
        go_meet
        exact ⟨_, rfl, Lib.hid BT', Lib.hid hU⟩
    · refine plan_op rfl rfl (fun K hK => ?_)
      go_simp
      refine hK _ _ ((Below.refl _ _).alloc hU.size _) ?_
      have BT := blkOf hU 31 #[.int .i64 0, .bool false, .bool false, .int .i64 0, .string ⟨#[]⟩, .int .i64 0, .int .i64 0, .bool false, .int .i64 0, .string ⟨#[]⟩, .int .i64 0, .int .i64 0]
      have hg2 := hU.size
      replace hU := hU.alloc hU.size (.cells #[.int .i64 0, .bool false, .bool false, .int .i64 0, .string ⟨#[]⟩, .int .i64 0, .int .i64 0, .bool false, .int .i64 0, .string ⟨#[]⟩, .int .i64 0, .int .i64 0] 31)
      clear hK
      refine plan_alone ?_
      refine plan_op rfl rfl (fun K hK => ?_)
      go_simp
      refine hK _ _ ((Below.refl _ _).alloc hU.size _) ?_
      have hLit := litOf hU 29 #[.bool false, .int .i64 9, .string ⟨#[]⟩, .int .i64 0, .int .i64 0] 1 5 (recs cellV [cN 9]) rfl rfl
      replace BT := BT.alloc (.cells #[.bool false, .int .i64 9, .string ⟨#[]⟩, .int .i64 0, .int .i64 0] 29)
      have e1 : (w3.alloc (.cells #[.int .i64 0, .bool false, .bool false, .int .i64 0, .string ⟨#[]⟩, .int .i64 0, .int .i64 0, .bool false, .int .i64 0, .string ⟨#[]⟩, .int .i64 0, .int .i64 0] 31)).heap.size = w3.heap.size + 1 := by simp
      rw [e1] at hLit
      clear e1
      replace hU := hU.alloc hU.size (.cells #[.bool false, .int .i64 9, .string ⟨#[]⟩, .int .i64 0, .int .i64 0] 29)
      clear hK
      refine plan_alone ?_
      refine plan_op rfl rfl (fun K hK => ?_)
      go_simp
      (with_reducible refine (sm_of9 hLit).mono ?_)
      rintro e u ⟨s, rfl, hs, b⟩
      obtain rfl := sm_B hs
      rw [show statA (0, true, cN 9, cN 9) = .agg #[.int .i64 0, .bool true, .bool false, .int .i64 9, .string ⟨#[]⟩, .int .i64 0, .int .i64 0, .bool false, .int .i64 9, .string ⟨#[]⟩, .int .i64 0, .int .i64 0] from rfl]
      have b' := Below.mono b hU.size
      refine hK _ _ b' ?_
      replace BT := BT.below b BT.lt
      replace hU := Below.trans hU b'
      clear hK hs b b' hLit
      refine plan_alone ?_
      refine plan_op rfl rfl (fun K hK => ?_)
      go_simp
      (with_reducible refine (sm_merge _).mono ?_)
      rintro e u ⟨rfl, b⟩
      have b' := Below.mono b hU.size
      refine hK _ _ b' ?_
      replace BT := BT.below b BT.lt
      replace hU := Below.trans hU b'
      clear hK b b'
      refine plan_alone ?_
      refine plan_op rfl rfl (fun K hK => ?_)
      refine wp_storeB 31 (.tmp 2) (.tmp 18) rfl _ _ rfl rfl BT (by kernel_rfl) (by simp) (by simp [Value.oneCell']) ?_
      intro W5 BT' hlow hfar
      have b' := hlow _ _ (Below.refl w2.heap.size _) hg2
      refine hK _ _ b' ?_
      replace hU := Below.trans hU b'
      clear BT hK hlow hfar b'
      refine plan_done ?_
      go_wp2_with fail
      go_meet
      exact ⟨_, rfl, Lib.hid BT', Lib.hid hU⟩
  case rest =>
    obtain ⟨g2, rfl, BM, bx⟩ := hcut
    have b0x := New.trans Hb02.out bx.out
    have HA1 := Lib.hid (HBA.out.below bx.out HBA.out.lt)
    clear HBA Hb02 bx
    go_wp2_with fail
    refine (sm_put1 _).mono ?_
    rintro e w5 ⟨A5, n5, c5, rfl, k5, b5⟩
    obtain rfl : n5 = 2 := by have := k5.len; rw [nums_length] at this; simpa using this
    have b05 := New.trans b0x b5
    have HA5 := Lib.hid (HA1.out.below b5 HA1.out.lt)
    have HM5 := Lib.hid (BM.out.below b5 BM.out.lt)
    have r5 := k5.reads
    clear b0x b5 HA1 BM k5
    have OT := Lib.hid (sm_ofT (w5.alloc (.cells #[.int .u8 7] 5)))
    rw [show (w5.alloc (.cells #[.int .u8 7] 5)).heap.size = w5.heap.size + 1 by simp] at OT
    have l7 := Reads.lit w5 5 #[.int .u8 7] 1 .u8 [7] rfl rfl
    go_wp2_with fail
    refine OT.out.mono ?_
    rintro e w6 ⟨s, rfl, hs, b6⟩
    obtain rfl := sm_C hs
    rw [show statA (0, true, cT 97, cT 98) = .agg #[.int .i64 0, .bool true, .bool false, .int .i64 0, .string ⟨#[97]⟩, .int .i64 0, .int .i64 0, .bool false, .int .i64 0, .string ⟨#[98]⟩, .int .i64 0, .int .i64 0] from rfl]
    have b56 : New (w5.alloc (.cells #[.int .u8 7] 5)) w6 := New.trans ((Below.refl _ _).alloc (Nat.le_refl _) _) b6
    have P7 := Lib.hid (sm_put2 (Reads.later l7 b56))
    have b55 : New w5 w6 := New.trans ((Below.refl _ _).alloc (Nat.le_refl _) _) b56
    clear hs b6 OT l7 b56
    go_wp2_with fail
    refine P7.out.mono ?_
    rintro e w7 ⟨A7, n7, c7, rfl, k7, b7⟩
    obtain rfl : n7 = 8 := by have := k7.len; rw [nums_length] at this; simpa using this
    have b57 := New.trans b55 b7
    have b07 := New.trans b05 b57
    have HA7 := Lib.hid (HA5.out.below b57 HA5.out.lt)
    have HM7 := Lib.hid (HM5.out.below b57 HM5.out.lt)
    have r57 := Reads.later r5 b57
    have r7 := k7.reads
    have V8 := Lib.hid (over_any (c := c5) r57 (by omega) (by decide))
    clear b05 b55 b7 b57 HA5 HM5 r5 k7 P7
    go_wp2_with fail
    refine V8.out.mono ?_
    rintro e w8 ⟨g8, rfl, hg8, hc8, b8⟩
    have s8 := CurS.of hc8
    have V9 := Lib.hid (over_any (c := 2) (Reads.lit w8 5 #[.int .u8 0, .int .u8 2] 2 .u8 [0, 2] rfl rfl) (by omega) (by decide))
    have ba : New w8 (w8.alloc (.cells #[.int .u8 0, .int .u8 2] 5)) := (Below.refl _ _).alloc (Nat.le_refl _) _
    clear hc8 V8
    go_wp2_with fail
    refine V9.out.mono ?_
    rintro e w9 ⟨g9, rfl, hg9, hc9, b9⟩
    have s9 := CurS.of hc9
    have b89 := New.trans ba b9
    have s89 := s8.below b89
    have b79 := New.trans b8 b89
    have b09 := New.trans b07 b79
    have hs8 := s8.lt
    have hs78 := b8.size
    have G1 := Lib.hid (sm_get1 s89)
    clear hc9 V9 ba b9 b89 s8 b8
    go_wp2_with fail
    refine G1.out.mono ?_
    rintro e w10 ⟨rfl, s10, g10⟩
    rw [show statA (2, false, cell0, cell0) = .agg #[.int .i64 2, .bool false, .bool false, .int .i64 0, .string ⟨#[]⟩, .int .i64 0, .int .i64 0, .bool false, .int .i64 0, .string ⟨#[]⟩, .int .i64 0, .int .i64 0] from rfl]
    have hz9 := b79.size
    have b7a : New w7 w10 := b79.grown g10 hz9 (fun k e => by injection e with e; omega)
    obtain ⟨cs8, hT8⟩ := s89.blk
    have hs9 := s9.lt
    simp only [World.size_alloc] at hg9
    have s910 := s9.keep g10 hT8 (by omega) (by decide)
    have hz10 := g10.size
    have al : New w10 (w10.alloc (.cells #[.int .i64 2, .bool false, .bool false, .int .i64 0, .string ⟨#[]⟩, .int .i64 0, .int .i64 0, .bool false, .int .i64 0, .string ⟨#[]⟩, .int .i64 0, .int .i64 0] 31)) := (Below.refl _ _).alloc (Nat.le_refl _) _
    have s11 := s910.below al
    have s811 := s10.below al
    have B7 := Blk.new w10 31 #[.int .i64 2, .bool false, .bool false, .int .i64 0, .string ⟨#[]⟩, .int .i64 0, .int .i64 0, .bool false, .int .i64 0, .string ⟨#[]⟩, .int .i64 0, .int .i64 0]
    have b7b := New.trans b7a al
    have G2 := Lib.hid (sm_get2 s11)
    clear G1 s89 g10 s9 s910 s10 hT8 al b7a b79 b09
    go_wp2_with fail
    refine G2.out.mono ?_
    rintro e w12 ⟨rfl, s12, g12⟩
    rw [show statA stat0 = .agg #[.int .i64 0, .bool false, .bool false, .int .i64 0, .string ⟨#[]⟩, .int .i64 0, .int .i64 0, .bool false, .int .i64 0, .string ⟨#[]⟩, .int .i64 0, .int .i64 0] from rfl]
    have hz11 := b7b.size
    have b7c : New w7 w12 := b7b.grown g12 hz11 (fun k e => by injection e with e; omega)
    obtain ⟨cs9, hT9⟩ := s11.blk
    have s812 := s811.keep g12 hT9 (by omega) (by decide)
    have B7c := B7.grown g12 (by intro e; injection e with e; omega)
    have al : New w12 (w12.alloc (.cells #[.int .i64 0, .bool false, .bool false, .int .i64 0, .string ⟨#[]⟩, .int .i64 0, .int .i64 0, .bool false, .int .i64 0, .string ⟨#[]⟩, .int .i64 0, .int .i64 0] 31)) := (Below.refl _ _).alloc (Nat.le_refl _) _
    have b7d := New.trans b7c al
    have s13 := s12.below al
    have s813 := s812.below al
    have B8 := Blk.new w12 31 #[.int .i64 0, .bool false, .bool false, .int .i64 0, .string ⟨#[]⟩, .int .i64 0, .int .i64 0, .bool false, .int .i64 0, .string ⟨#[]⟩, .int .i64 0, .int .i64 0]
    have B7d := B7c.alloc (.cells #[.int .i64 0, .bool false, .bool false, .int .i64 0, .string ⟨#[]⟩, .int .i64 0, .int .i64 0, .bool false, .int .i64 0, .string ⟨#[]⟩, .int .i64 0, .int .i64 0] 31)
    have q1 := run_strB (c := c5) (Reads.later r57 b7d)
    have q2 := run_strB (c := c7) (Reads.later r7 b7d)
    have q3 := sm_s1
    have q4 := sm_s2
    have EN := Lib.hid (endS_any s813)
    rw [show endS (some []) = true from rfl] at EN
    have BD := Lib.hid (badS s13)
    rw [show (Option.isNone (none : St)) = true from rfl] at BD
    obtain ⟨x0, x1, x2, x3, x4, x5, x6, x7, x8, x9, x10, x11⟩ := cells12 (HA7.out.below b7d HA7.out.lt)
    obtain ⟨z0, z1, z2, z3, z4, z5, z6, z7, z8, z9, z10, z11⟩ := cells12 (HM7.out.below b7d HM7.out.lt)
    obtain ⟨v0, v1, v2, v3, v4, v5, v6, v7, v8, v9, v10, v11⟩ := cells12 B7d
    obtain ⟨y0, y1, y2, y3, y4, y5, y6, y7, y8, y9, y10, y11⟩ := cells12 B8
    have EA := sm_eqA
    have E2 := sm_eq2
    have E0 := sm_eq0
    have B07 := Lib.hid b07
    clear G2 s11 s811 B7 b7b s12 g12 b7c hT9 s812 B7c al s13 s813 B8 B7d r57 r7 b07
    go_wp2_with fail
    refine EN.out.mono ?_
    rintro e w14 ⟨rfl, rfl⟩
    go_wp2_with fail
    refine BD.out.mono ?_
    rintro e w14 ⟨rfl, rfl⟩
    clear z0 z1 z2 z3 z4 z5 z6 z7 z8 z9 z10 z11 v0 v1 v2 v3 v4 v5 v6 v7 v8 v9 v10 v11 y0 y1 y2 y3 y4 y5 y6 y7 y8 y9 y10 y11 EA E2 E0 q1 q2 q3 q4 EN BD
    go_wp2_with fail
    refine (sm_may1 _).mono ?_
    rintro e w14 ⟨rfl, b⟩
    have b7e := New.trans b7d b
    clear x0 x1 x2 x3 x4 x5 x6 x7 x8 x9 x10 x11
    obtain ⟨x0, x1, x2, x3, x4, x5, x6, x7, x8, x9, x10, x11⟩ := cells12 (HA7.out.below b7e HA7.out.lt)
    clear b
    go_wp2_with fail
    refine (sm_may2 _).mono ?_
    rintro e w15 ⟨rfl, b⟩
    have b7f := New.trans b7e b
    clear x0 x1 x2 x3 x4 x5 x6 x7 x8 x9 x10 x11
    obtain ⟨x0, x1, x2, x3, x4, x5, x6, x7, x8, x9, x10, x11⟩ := cells12 (HA7.out.below b7f HA7.out.lt)
    clear b
    go_wp2_with fail
    refine (sm_may3 _).mono ?_
    rintro e w16 ⟨rfl, b⟩
    have b7g := New.trans b7f b
    clear x0 x1 x2 x3 x4 x5 x6 x7 x8 x9 x10 x11
    obtain ⟨x0, x1, x2, x3, x4, x5, x6, x7, x8, x9, x10, x11⟩ := cells12 (HA7.out.below b7g HA7.out.lt)
    clear b
    go_wp2_with fail
    refine (sm_right1 _).mono ?_
    rintro e w17 ⟨rfl, b⟩
    have b7h := New.trans b7g b
    clear x0 x1 x2 x3 x4 x5 x6 x7 x8 x9 x10 x11
    obtain ⟨x0, x1, x2, x3, x4, x5, x6, x7, x8, x9, x10, x11⟩ := cells12 (HA7.out.below b7h HA7.out.lt)
    clear b
    go_wp2_with fail
    refine (sm_right2 _).mono ?_
    rintro e w18 ⟨rfl, b⟩
    have b7i := New.trans b7h b
    go_wp2
    go_ret
    exact ⟨rfl, New.trans B07.out b7i⟩

end Go.Proofs.Ythdkbfffjlkbpaa
/- The contract of hypostyleref15.Merge. -/

namespace Go.Proofs.Ythdkbfffjlkbpaa
open Go.RowKit Go.Hm
theorem rcompareA_any {w : World} {t : Int} {a b : CellS} (ha : near a) (hb : near b) : Calls Try.prog 30 #[.int .i64 t, cellA a, cellA b] w (NewPost (.int .i64 (cmpD t a b)) w) := rcompareD_any (near_two ha hb)
set_option maxHeartbeats 4000000 in
set_option maxRecDepth 100000 in
theorem rmerge_any {w : World} {t : Int} {a b : StatS} (hz : a.2.1 = false → a.2.2.1 = cell0 ∧ a.2.2.2 = cell0) (ha1 : near a.2.2.1) (ha2 : near a.2.2.2) (hb1 : near b.2.2.1) (hb2 : near b.2.2.2) (hn : 0 ≤ a.1 ∧ a.1 ≤ 1000000) (hm : 0 ≤ b.1 ∧ b.1 ≤ 1000000) :
    Calls Try.prog 15 #[.int .i64 t, statA a, statA b] w (NewPost (statA (mergeS t a b)) w) := by
  have C1 := Lib.hid (fun (W : World) => rcompareA_any (w := W) (t := t) hb1 ha1)
  have C2 := Lib.hid (fun (W : World) => rcompareA_any (w := W) (t := t) hb2 ha2)
  obtain ⟨n, ah, p, q⟩ := a
  obtain ⟨m, bh, r, s⟩ := b
  dsimp only at *
  obtain ⟨M, hM⟩ : ∃ M, M = mergeS t (n, ah, p, q) (m, bh, r, s) := ⟨_, rfl⟩
  rw [← hM]
  unfold mergeS at hM
  dsimp only at hM
  generalize cmpD t r p = o1 at *
  generalize cmpD t s q = o2 at *
  obtain ⟨p1, p2, p3, p4, p5⟩ := p
  obtain ⟨q1, q2, q3, q4, q5⟩ := q
  obtain ⟨r1, r2, r3, r4, r5⟩ := r
  obtain ⟨s1, s2, s3, s4, s5⟩ := s
  unfold cellA cellV at C1 C2
  dsimp only at C1 C2
  show Calls Try.prog 15 #[.int .i64 t, .agg #[.int .i64 n, .bool ah, .bool p1, .int .i64 p2, .string (bstr p3), .int .i64 p4, .int .i64 p5, .bool q1, .int .i64 q2, .string (bstr q3), .int .i64 q4, .int .i64 q5],
    .agg #[.int .i64 m, .bool bh, .bool r1, .int .i64 r2, .string (bstr r3), .int .i64 r4, .int .i64 r5, .bool s1, .int .i64 s2, .string (bstr s3), .int .i64 s4, .int .i64 s5]] w (NewPost (statA M) w)
  have B0 := Blk.new w 31 #[.int .i64 n, .bool ah, .bool p1, .int .i64 p2, .string (bstr p3), .int .i64 p4, .int .i64 p5, .bool q1, .int .i64 q2, .string (bstr q3), .int .i64 q4, .int .i64 q5]
  have B1 := Blk.new (w.alloc (.cells #[.int .i64 n, .bool ah, .bool p1, .int .i64 p2, .string (bstr p3), .int .i64 p4, .int .i64 p5, .bool q1, .int .i64 q2, .string (bstr q3), .int .i64 q4, .int .i64 q5] 31)) 31 #[.int .i64 m, .bool bh, .bool r1, .int .i64 r2, .string (bstr r3), .int .i64 r4, .int .i64 r5, .bool s1, .int .i64 s2, .string (bstr s3), .int .i64 s4, .int .i64 s5]
  have hnm : IntKind.i64.wrap (n + m) = n + m := IntWalk.i64_in _ (by omega)
  have HM := Lib.hid hM
  have HZ := Lib.hid hz
  clear hM ha1 ha2 hb1 hb2 hz
  have BO := fun (cs : Array Value) => Blk.new (((w.alloc (.cells #[.int .i64 n, .bool ah, .bool p1, .int .i64 p2, .string (bstr p3), .int .i64 p4, .int .i64 p5, .bool q1, .int .i64 q2, .string (bstr q3), .int .i64 q4, .int .i64 q5] 31)).alloc (.cells #[.int .i64 m, .bool bh, .bool r1, .int .i64 r2, .string (bstr r3), .int .i64 r4, .int .i64 r5, .bool s1, .int .i64 s2, .string (bstr s3), .int .i64 s4, .int .i64 s5] 31)).alloc (.cells #[.int .i64 0, .bool false, .bool false, .int .i64 0, .string ⟨#[]⟩, .int .i64 0, .int .i64 0, .bool false, .int .i64 0, .string ⟨#[]⟩, .int .i64 0, .int .i64 0] 31)) 31 cs
  obtain ⟨Z, hZ⟩ : ∃ Z : Obj, Z = .cells #[.int .i64 0, .bool false, .bool false, .int .i64 0, .string ⟨#[]⟩, .int .i64 0, .int .i64 0, .bool false, .int .i64 0, .string ⟨#[]⟩, .int .i64 0, .int .i64 0] 31 := ⟨_, rfl⟩
  obtain ⟨x0, x1, x2, x3, x4, x5, x6, x7, x8, x9, x10, x11⟩ := cells12 ((B0.alloc (.cells #[.int .i64 m, .bool bh, .bool r1, .int .i64 r2, .string (bstr r3), .int .i64 r4, .int .i64 r5, .bool s1, .int .i64 s2, .string (bstr s3), .int .i64 s4, .int .i64 s5] 31)).alloc Z)
  obtain ⟨y0, y1, y2, y3, y4, y5, y6, y7, y8, y9, y10, y11⟩ := cells12 (B1.alloc Z)
  have HB0 := Lib.hid ((B0.alloc (.cells #[.int .i64 m, .bool bh, .bool r1, .int .i64 r2, .string (bstr r3), .int .i64 r4, .int .i64 r5, .bool s1, .int .i64 s2, .string (bstr s3), .int .i64 s4, .int .i64 s5] 31)).alloc Z)
  have HB1 := Lib.hid (B1.alloc Z)
  subst hZ
  simp only [World.size_alloc] at y0 y1 y2 y3 y4 y5 y6 y7 y8 y9 y10 y11
  clear B0 B1
  have hNN4 : Hid (∀ (o1 o2 o3 o4 : Obj) (W : World), New ((((w.alloc o1).alloc o2).alloc o3).alloc o4) W → New w W) := Lib.hid fun o1 o2 o3 o4 W h => New.trans (New.trans (new2 w o1 o2) (new2 _ o3 o4)) h
  cases ah with
  | true =>
    cases bh with
    | true =>
      have hM := HM.out
      clear HM
      rw [if_pos rfl] at hM
      simp only [Bool.true_and, decide_eq_true_eq] at hM
      have HM := Lib.hid hM
      clear hM
      go_enter Try.func15, Try.ntmps15
      go_wp2_with fail
      refine (C1.out _).mono ?_
      rintro e w1 ⟨rfl, b1⟩
      have B0 := (HB0.out.alloc (.cells #[.int .i64 (n + m), .bool true, .bool p1, .int .i64 p2, .string (bstr p3), .int .i64 p4, .int .i64 p5, .bool q1, .int .i64 q2, .string (bstr q3), .int .i64 q4, .int .i64 q5] 31)).below b1 (by simp; omega)
      have B1 := (HB1.out.alloc (.cells #[.int .i64 (n + m), .bool true, .bool p1, .int .i64 p2, .string (bstr p3), .int .i64 p4, .int .i64 p5, .bool q1, .int .i64 q2, .string (bstr q3), .int .i64 q4, .int .i64 q5] 31)).below b1 (by simp)
      have B2 := (BO #[.int .i64 (n + m), .bool true, .bool p1, .int .i64 p2, .string (bstr p3), .int .i64 p4, .int .i64 p5, .bool q1, .int .i64 q2, .string (bstr q3), .int .i64 q4, .int .i64 q5]).below b1 (by simp)
      have BZ := ((Blk.new _ _ _).alloc _).below b1 (by simp)
      have hl := hNN4.out _ _ _ _ _ b1
      clear x0 x1 x2 x3 x4 x5 x6 x7 x8 x9 x10 x11 y0 y1 y2 y3 y4 y5 y6 y7 y8 y9 y10 y11 BO HB0 HB1 b1
      simp only [World.size_alloc] at B0 B1 B2 BZ
      obtain ⟨x0, x1, x2, x3, x4, x5, x6, x7, x8, x9, x10, x11⟩ := cells12 B0
      obtain ⟨y0, y1, y2, y3, y4, y5, y6, y7, y8, y9, y10, y11⟩ := cells12 B1
      by_cases h1 : o1 < 0
      all_goals
        have H1 := Lib.hid h1
        go_wp2_with (refine wpList_store5 rfl 29 (.tmp 39) (.tmp 38) rfl (w.heap.size + 1 + 1 + 1) 2 rfl rfl B2 (by simp) (by kernel_rfl) (by simp [Value.oneCell']) ?_
                     intro W2 B2 hlow hfar
                     replace B0 := hfar _ _ _ (by omega) B0
                     replace B1 := hfar _ _ _ (by omega) B1
                     replace BZ := hfar _ _ _ (by omega) BZ
                     replace hl := hlow _ _ hl (by omega)
                     clear x0 x1 x2 x3 x4 x5 x6 x7 x8 x9 x10 x11 y0 y1 y2 y3 y4 y5 y6 y7 y8 y9 y10 y11
                     obtain ⟨x0, x1, x2, x3, x4, x5, x6, x7, x8, x9, x10, x11⟩ := cells12 B0
                     obtain ⟨y0, y1, y2, y3, y4, y5, y6, y7, y8, y9, y10, y11⟩ := cells12 B1
                     simp only [List.setIfInBounds_toArray, List.set_cons_zero, List.set_cons_succ] at B2)
      all_goals
        refine (C2.out _).mono ?_
        rintro e w3 ⟨rfl, b3⟩
        replace B0 := B0.below b3 B0.lt
        replace B1 := B1.below b3 B1.lt
        replace B2 := B2.below b3 B2.lt
        replace BZ := BZ.below b3 BZ.lt
        replace hl := New.trans hl b3
        clear b3 x0 x1 x2 x3 x4 x5 x6 x7 x8 x9 x10 x11 y0 y1 y2 y3 y4 y5 y6 y7 y8 y9 y10 y11
        obtain ⟨x0, x1, x2, x3, x4, x5, x6, x7, x8, x9, x10, x11⟩ := cells12 B0
        obtain ⟨y0, y1, y2, y3, y4, y5, y6, y7, y8, y9, y10, y11⟩ := cells12 B1
        obtain ⟨z0, z1, z2, z3, z4, z5, z6, z7, z8, z9, z10, z11⟩ := cells12 B2
        by_cases h2 : 0 < o2
      all_goals
        have H2 := Lib.hid h2
        go_wp2_with (first
          | (refine wpList_store5 rfl 29 (.tmp 49) (.tmp 48) rfl (w.heap.size + 1 + 1 + 1) 7 rfl rfl B2 (by simp) (by kernel_rfl) (by simp [Value.oneCell']) ?_
             intro W4 B2 hlow hfar
             replace BZ := hfar _ _ _ (by omega) BZ
             replace hl := hlow _ _ hl (by omega)
             clear x0 x1 x2 x3 x4 x5 x6 x7 x8 x9 x10 x11 y0 y1 y2 y3 y4 y5 y6 y7 y8 y9 y10 y11 z0 z1 z2 z3 z4 z5 z6 z7 z8 z9 z10 z11 hfar hlow
             simp only [List.setIfInBounds_toArray, List.set_cons_zero, List.set_cons_succ] at B2
             obtain ⟨z0, z1, z2, z3, z4, z5, z6, z7, z8, z9, z10, z11⟩ := cells12 B2)
          | (refine wpList_storeB rfl 31 (.tmp 6) (.tmp 50) rfl (w.heap.size + 1 + 1) _ rfl rfl BZ (by kernel_rfl) (by simp) (by simp [Value.oneCell']) ?_
             intro W5 BR hlow hfar
             replace hl := hlow _ _ hl (by omega)
             clear hfar hlow
             obtain ⟨s0, s1, s2, s3, s4, s5, s6, s7, s8, s9, s10, s11⟩ := cells12 BR))
        have hM := HM.out
        first
          | rw [if_pos H1.out] at hM
          | rw [if_neg (show ¬ o1 < 0 by have := H1.out; omega)] at hM
        first
          | rw [if_pos H2.out] at hM
          | rw [if_neg (show ¬ 0 < o2 by have := H2.out; omega)] at hM
        subst hM
        exact bodyPost_ret (v := statA _) (by simp [results, Try.results15, go_sem, s0, s1, s2, s3, s4, s5, s6, s7, s8, s9, s10, s11, statA, statV, cellV]) rfl ⟨rfl, hl⟩
    | false =>
      have hM := HM.out
      simp only [if_pos, Bool.false_and, Bool.false_eq_true, if_false] at hM
      clear HM
      go_enter Try.func15, Try.ntmps15
      go_wp2_with fail
      subst hM
      exact bodyPost_ret (v := statA (n + m, true, (p1, p2, p3, p4, p5), (q1, q2, q3, q4, q5))) (by simp [results, Try.results15, go_sem, statA, statV, cellV]) rfl ⟨rfl, New.trans (new2 w _ _) (new2 _ _ _)⟩
  | false =>
    cases bh with
    | true =>
      have hM := HM.out
      clear HM
      rw [if_neg (by simp), if_pos rfl] at hM
      have HM := Lib.hid hM
      clear hM
      go_enter Try.func15, Try.ntmps15
      go_wp2_with fail
      have hM := HM.out
      subst hM
      exact bodyPost_ret (v := statA (n + m, true, (r1, r2, r3, r4, r5), (s1, s2, s3, s4, s5))) (by simp [results, Try.results15, go_sem, statA, statV, cellV]) rfl ⟨rfl, New.trans (new2 w _ _) (new2 _ _ _)⟩
    | false =>
      have hM := HM.out
      clear HM
      rw [if_neg (by simp), if_neg (by simp)] at hM
      have HM := Lib.hid hM
      clear hM
      go_enter Try.func15, Try.ntmps15
      go_wp2_with fail
      have hM := HM.out
      obtain ⟨e1, e2⟩ := HZ.out (by trivial)
      have hM2 : M = (n + m, false, (p1, p2, p3, p4, p5), (q1, q2, q3, q4, q5)) := by rw [hM, e1, e2]
      clear hM HM e1 e2
      subst hM2
      exact bodyPost_ret (v := statA (n + m, false, (p1, p2, p3, p4, p5), (q1, q2, q3, q4, q5))) (by simp [results, Try.results15, go_sem, statA, statV, cellV]) rfl ⟨rfl, New.trans (new2 w _ _) (new2 _ _ _)⟩

end Go.Proofs.Ythdkbfffjlkbpaa
/- The contract of hypostyleref15.Of. -/

namespace Go.Proofs.Ythdkbfffjlkbpaa
open Go.RowKit Go.Hm
theorem mergeS_null {t : Int} {l : List CellS} {s : StatS} (h : IsStat t l s) {c : CellS} (hc : c.1 = true) : mergeS t s (singleS c) = (s.1 + 1, s.2.1, s.2.2.1, s.2.2.2) := by
  unfold singleS mergeS
  rw [if_pos hc]
  dsimp only
  cases hh : s.2.1 with
  | true => simp
  | false =>
    obtain ⟨e1, e2⟩ := h.none hh
    rw [e1, e2]
    simp
theorem mergeS_val {t : Int} {s : StatS} {c : CellS} (hc : c.1 = false) : mergeS t s (singleS c) = (s.1, true, if (!s.2.1 || decide (cmpD t c s.2.2.1 < 0)) = true then c else s.2.2.1, if (!s.2.1 || decide (0 < cmpD t c s.2.2.2)) = true then c else s.2.2.2) := by
  have e : singleS c = (0, true, c, c) := by unfold singleS; rw [if_neg (by simp [hc])]
  rw [e]
  unfold mergeS
  dsimp only
  cases hh : s.2.1 with
  | true => simp
  | false => simp
theorem both_later {w W : World} {g g0 : Nat} {t t0 : TypeId} {cs cs0 : Array Value} (h : Blk W g t cs) (k : Blk W g0 t0 cs0) (hl : New w W) : Hid (∀ W', New W W' → Blk W' g t cs ∧ Blk W' g0 t0 cs0 ∧ New w W') :=
  Lib.hid fun _ hN => ⟨h.below hN h.lt, k.below hN k.lt, New.trans hl hN⟩
theorem drew_of {W : World} {g : Nat} {t : TypeId} {cs : Array Value} (_h : Blk W g t cs) : New W W.drew := New.drew W
set_option maxHeartbeats 4000000 in
set_option maxRecDepth 100000 in
theorem rof_any {w : World} {t : Int} {A : Option Addr} {n c : Nat} {L : List CellS} (h : Reads w w.heap.size 5 A n (recs cellV L)) (hL : ∀ y ∈ L, near y) (hn : n ≤ 100000) :
    Calls Try.prog 13 #[.int .i64 t, .slice A n c] w (StatPost t L w) := by
  obtain rfl := h.lenCell
  have HR := Lib.hid h
  have HN := Lib.hid hL
  clear h hL
  have B0 : Blk ((w.alloc (.cells (statV stat0).toArray 31)).alloc (.cells (statV stat0).toArray 31)) w.heap.size 31 (statV stat0).toArray := (Blk.new _ _ _).alloc _
  have B1 : Blk ((w.alloc (.cells (statV stat0).toArray 31)).alloc (.cells (statV stat0).toArray 31)) (w.heap.size + 1) 31 (statV stat0).toArray := by
    have := Blk.new (w.alloc (.cells (statV stat0).toArray 31)) 31 (statV stat0).toArray
    simpa using this
  have hb0 := new2 w (.cells (statV stat0).toArray 31) (.cells (statV stat0).toArray 31)
  have HB0 := Lib.hid B0
  have HB1 := Lib.hid B1
  have Hb0 := Lib.hid hb0
  clear B0 B1 hb0
  go_enter Try.func13, Try.ntmps13
  go_wp2_with fail
  go_loopw [6] (fun i wr => ∃ (k : Nat) (s : StatS), k ≤ L.length ∧ i = .int .i64 (k : Int) ∧ Blk wr (w.heap.size + 1) 31 (statV s).toArray ∧ Blk wr w.heap.size 31 (statV stat0).toArray ∧ New w wr ∧ Hid (IsStat t (L.take k) s)) (fun i _ => L.length - (intOf i).toNat)
  case atStart => exact ⟨0, stat0, Nat.zero_le _, rfl, HB1.out, HB0.out, Hb0.out, Lib.hid (isStat_nil t)⟩
  case round =>
    obtain ⟨k, s, hk, rfl, B1, B0, hW, hs⟩ := hrel
    clear HB0 HB1 Hb0
    by_cases hlt : k < L.length
    · obtain ⟨ad, rfl, hb, -⟩ := (Reads.later HR.out hW).cell5 hlt
      have HY : ∀ W, New w W → W.cell? (ad.add (k * 5)) = some (.bool (L.getD k (false, 0, [], 0, 0)).1) ∧ W.cell? ⟨(ad.add (k * 5)).block, (ad.add (k * 5)).off + 1, none⟩ = some (.int .i64 (L.getD k (false, 0, [], 0, 0)).2.1) ∧ W.cell? ⟨(ad.add (k * 5)).block, (ad.add (k * 5)).off + 2, none⟩ = some (.string (bstr (L.getD k (false, 0, [], 0, 0)).2.2.1))
          ∧ W.cell? ⟨(ad.add (k * 5)).block, (ad.add (k * 5)).off + 3, none⟩ = some (.int .i64 (L.getD k (false, 0, [], 0, 0)).2.2.2.1) ∧ W.cell? ⟨(ad.add (k * 5)).block, (ad.add (k * 5)).off + 4, none⟩ = some (.int .i64 (L.getD k (false, 0, [], 0, 0)).2.2.2.2) := fun W hN => by
        obtain ⟨ad', e, _, d⟩ := (Reads.later HR.out hN).cell5 hlt
        injection e with e
        subst e
        exact d
      have hst := hs.out
      have htk := take_snoc L k (false, 0, [], 0, 0) hlt
      have hnr := hst.near (fun c hc => HN.out c (List.mem_of_mem_take hc))
      have hnl := hst.nulls
      have hnl2 := nullsL_le (L.take k)
      rw [List.length_take] at hnl2
      have hy : near (L.getD k (false, 0, [], 0, 0)) := HN.out _ (by rw [List.getD_eq_getElem?_getD, List.getElem?_eq_getElem hlt]; exact List.getElem_mem hlt)
      have hnx := hst.merge (isStat_one t (L.getD k (false, 0, [], 0, 0)))
      rw [← htk] at hnx
      have C1 := Lib.hid (fun (W : World) => rcompareA_any (w := W) (t := t) hy hnr.1)
      have C2 := Lib.hid (fun (W : World) => rcompareA_any (w := W) (t := t) hy hnr.2)
      have h1 := fun (e : (L.getD k (false, 0, [], 0, 0)).1 = true) => mergeS_null (c := L.getD k (false, 0, [], 0, 0)) hst e
      have h2 := fun (e : (L.getD k (false, 0, [], 0, 0)).1 = false) => mergeS_val (t := t) (s := s) (c := L.getD k (false, 0, [], 0, 0)) e
      have hn0 : 0 ≤ s.1 ∧ s.1 ≤ 100000 := by omega
      clear htk hnr hy hst hs hnl hnl2
      generalize mergeS t s (singleS (L.getD k (false, 0, [], 0, 0))) = s' at *
      generalize L.getD k (false, 0, [], 0, 0) = y at *
      generalize cmpD t y s.2.2.1 = o1 at *
      generalize cmpD t y s.2.2.2 = o2 at *
      obtain ⟨y0, y1, y2, y3, y4⟩ := y
      obtain ⟨n, b, ⟨p1, p2, p3, p4, p5⟩, ⟨q1, q2, q3, q4, q5⟩⟩ := s
      unfold cellA cellV at C1 C2
      dsimp only at C1 C2 h1 h2 HY hn0
      have B1 : Blk wr (w.heap.size + 1) 31 #[.int .i64 n, .bool b, .bool p1, .int .i64 p2, .string (bstr p3), .int .i64 p4, .int .i64 p5, .bool q1, .int .i64 q2, .string (bstr q3), .int .i64 q4, .int .i64 q5] := B1
      have HY := Lib.hid HY
      have HNX := Lib.hid hnx
      clear hnx
      cases y0 with
      | true =>
        have hs' := h1 rfl
        have HS := Lib.hid hs'
        clear h1 h2 hs'
        obtain ⟨x0, x1, x2, x3, x4, x5, x6, x7, x8, x9, x10, x11⟩ := cells12 B1
        obtain ⟨z0, z1, z2, z3, z4⟩ := HY.out _ hW
        have f0 := B1.frozen 0
        have hnm : IntKind.i64.wrap (n + 1) = n + 1 := IntWalk.i64_in _ (by omega)
        go_wp2_with fail
        go_roundw
        case rel => exact ⟨k + 1, s', by omega, by go_num, by rw [HS.out]; have := B1.set_ 0 (.int .i64 (n + 1)); simpa [statV, cellV] using this, B0.far (p := ⟨w.heap.size + 1, 0, none⟩) (by simp) _, hW.setCell (p := ⟨w.heap.size + 1, 0, none⟩) (by simp) _, HNX⟩
        case measure => simp [intOf]; omega
      | false =>
        have h2 := h2 rfl
        clear h1
        cases b
        all_goals
          have hs' := h2
          simp only [Bool.not_false, Bool.not_true, Bool.true_or, Bool.false_or, if_true, decide_eq_true_eq] at hs'
          have HS := Lib.hid hs'
          clear h2 hs'
          obtain ⟨x0, x1, x2, x3, x4, x5, x6, x7, x8, x9, x10, x11⟩ := cells12 B1
          obtain ⟨z0, z1, z2, z3, z4⟩ := HY.out _ hW
          have F := Lib.hid (fun (W : World) (hN : New wr W) => And.intro (B1.below hN B1.lt) (And.intro (B0.below hN B0.lt) (New.trans hW hN)))
          clear B1 B0
          go_wp2_with fail
          clear x0 x1 x2 x3 x4 x5 x6 x7 x8 x9 x10 x11 z0 z1 z2 z3 z4
          refine wp_region_up New [(true, 0), (true, 1), (true, 2), (true, 3), (true, 4), (true, 5), (true, 6), (true, 7), (true, 8), (true, 9), (true, 10), (false, 11), (true, 12), (true, 13)] New.refl New.trans (by kernel_rfl) (by kernel_rfl) (by kernel_rfl) (by kernel_rfl) ?_
          have hU := New.drew wr
          repeat (first
            | (refine up_call rfl rfl (fun K hK => ?_); go_simp
               (with_reducible refine (C1.out _).mono ?_); rintro e w6 ⟨rfl, b6⟩
               refine hK _ _ b6 ?_
               clear hK
               replace hU := New.trans hU b6)
            | (refine up_skip rfl rfl ?_; simp only [Act.put, List.setIfInBounds_toArray, List.set_cons_zero, List.set_cons_succ])
            | (refine up_quiet rfl rfl (v := ?_) (fun W hQ => ?_) ?_; rotate_left; (obtain ⟨B1, -, hl⟩ := F.out W (New.trans hU hQ); obtain ⟨x0, x1, x2, x3, x4, x5, x6, x7, x8, x9, x10, x11⟩ := cells12 B1; obtain ⟨z0, z1, z2, z3, z4⟩ := HY.out _ hl; clear B1 hl; go_simp <;> with_reducible rfl); simp only [Act.put, List.setIfInBounds_toArray, List.set_cons_zero, List.set_cons_succ]))
          refine up_nil ?_
          obtain ⟨B1, B0, hl⟩ := F.out _ hU
          clear F hU
          obtain ⟨x0, x1, x2, x3, x4, x5, x6, x7, x8, x9, x10, x11⟩ := cells12 B1
          obtain ⟨z0, z1, z2, z3, z4⟩ := HY.out _ hl
          by_cases h1 : o1 < 0
        all_goals
          have H1 := Lib.hid h1
          go_wp2_with (refine wpList_store5 rfl 29 (.tmp 40) (.tmp 39) rfl (w.heap.size + 1) 2 rfl rfl B1 (by simp) (by kernel_rfl) (by simp [Value.oneCell']) ?_
                       intro W2 B1 hlow hfar
                       replace B0 := hfar _ _ _ (by omega) B0
                       replace hl := hlow _ _ hl (by omega)
                       clear x0 x1 x2 x3 x4 x5 x6 x7 x8 x9 x10 x11 z0 z1 z2 z3 z4 hlow hfar
                       simp only [List.setIfInBounds_toArray, List.set_cons_zero, List.set_cons_succ] at B1
                       obtain ⟨x0, x1, x2, x3, x4, x5, x6, x7, x8, x9, x10, x11⟩ := cells12 B1
                       obtain ⟨z0, z1, z2, z3, z4⟩ := HY.out _ hl)
          have F := both_later B1 B0 hl
          have hU := drew_of B1
          clear B1 B0 x0 x1 x2 x3 x4 x5 x6 x7 x8 x9 x10 x11 z0 z1 z2 z3 z4
          refine wp_region_up New [(true, 0), (true, 1), (true, 2), (true, 3), (true, 4), (true, 5), (true, 6), (true, 7), (true, 8), (true, 9), (true, 10), (false, 11), (true, 12), (true, 13)] New.refl New.trans (by kernel_rfl) (by kernel_rfl) (by kernel_rfl) (by kernel_rfl) ?_
          repeat (first
            | (refine up_call rfl rfl (fun K hK => ?_); go_simp
               (with_reducible refine (C2.out _).mono ?_); rintro e w6 ⟨rfl, b6⟩
               refine hK _ _ b6 ?_
               clear hK
               replace hU := New.trans hU b6)
            | (refine up_skip rfl rfl ?_; simp only [Act.put, List.setIfInBounds_toArray, List.set_cons_zero, List.set_cons_succ])
            | (refine up_quiet rfl rfl (v := ?_) (fun W hQ => ?_) ?_; rotate_left; (obtain ⟨B1, -, hl⟩ := F.out W (New.trans hU hQ); obtain ⟨x0, x1, x2, x3, x4, x5, x6, x7, x8, x9, x10, x11⟩ := cells12 B1; obtain ⟨z0, z1, z2, z3, z4⟩ := HY.out _ hl; clear B1 hl; go_simp <;> with_reducible rfl); simp only [Act.put, List.setIfInBounds_toArray, List.set_cons_zero, List.set_cons_succ]))
          refine up_nil ?_
          obtain ⟨B1, B0, hl⟩ := F.out _ hU
          clear F hU
          obtain ⟨x0, x1, x2, x3, x4, x5, x6, x7, x8, x9, x10, x11⟩ := cells12 B1
          obtain ⟨z0, z1, z2, z3, z4⟩ := HY.out _ hl
          by_cases h2 : 0 < o2
        all_goals
          have H2 := Lib.hid h2
          have f1 := B1.frozen 1
          go_wp2_with (refine wpList_store5 rfl 29 (.tmp 59) (.tmp 58) rfl (w.heap.size + 1) 7 rfl rfl B1 (by simp) (by kernel_rfl) (by simp [Value.oneCell']) ?_
                       intro W2 B1 hlow hfar
                       replace B0 := hfar _ _ _ (by omega) B0
                       replace hl := hlow _ _ hl (by omega)
                       clear x0 x1 x2 x3 x4 x5 x6 x7 x8 x9 x10 x11 z0 z1 z2 z3 z4 hlow hfar
                       simp only [List.setIfInBounds_toArray, List.set_cons_zero, List.set_cons_succ] at B1
                       obtain ⟨x0, x1, x2, x3, x4, x5, x6, x7, x8, x9, x10, x11⟩ := cells12 B1
                       obtain ⟨z0, z1, z2, z3, z4⟩ := HY.out _ hl
                       have f1 := B1.frozen 1)
          have hs' := HS.out
          try
            first
              | rw [if_pos H1.out] at hs'
              | rw [if_neg (show ¬ o1 < 0 by have := H1.out; omega)] at hs'
          try
            first
              | rw [if_pos H2.out] at hs'
              | rw [if_neg (show ¬ 0 < o2 by have := H2.out; omega)] at hs'
          clear HS
          subst hs'
          go_roundw
          case rel => exact ⟨k + 1, _, by omega, by go_num, by have := B1.set_ 1 (.bool true); simpa [statV, cellV] using this, B0.far (p := ⟨w.heap.size + 1, 1, none⟩) (by simp) _, hl.setCell (p := ⟨w.heap.size + 1, 1, none⟩) (by simp) _, HNX⟩
          case measure => simp [intOf]; omega
    · obtain rfl : k = L.length := by omega
      have hs2 := hs.out
      rw [List.take_length] at hs2
      have HS := Lib.hid hs2
      clear hs hs2
      obtain ⟨n, b, ⟨p1, p2, p3, p4, p5⟩, ⟨q1, q2, q3, q4, q5⟩⟩ := s
      obtain ⟨x0, x1, x2, x3, x4, x5, x6, x7, x8, x9, x10, x11⟩ := cells12 B1
      go_wp2_with (refine wpList_storeB rfl 31 (.tmp 4) (.tmp 61) rfl w.heap.size _ rfl rfl B0 (by kernel_rfl) (by simp [statV, stat0, cellV]) (by simp [Value.oneCell']) ?_
                   intro W5 BR hlow hfar
                   have hl := hlow _ _ hW (Nat.le_refl _)
                   clear hfar hlow
                   obtain ⟨s0, s1, s2, s3, s4, s5, s6, s7, s8, s9, s10, s11⟩ := cells12 BR)
      exact bodyPost_ret (v := statA (n, b, (p1, p2, p3, p4, p5), (q1, q2, q3, q4, q5))) (by simp [results, Try.results13, go_sem, s0, s1, s2, s3, s4, s5, s6, s7, s8, s9, s10, s11, statA, statV, cellV]) rfl ⟨_, rfl, HS.out, hl⟩

end Go.Proofs.Ythdkbfffjlkbpaa
/- Contract on ref07.Right. -/

namespace Go.Proofs.Ythdkbfffjlkbpaa
open Go.RowKit Go.Hm
theorem two_cells {w W : World} {e e2 : TypeId} {a b c d f : Value} {o : Array Value} (h : New ((w.alloc (.cells #[a, b, c, d, f] e)).alloc (.cells o e2)) W) :
    W.cell? ⟨w.heap.size, 0, none⟩ = some a ∧ W.cell? ⟨w.heap.size, 1, none⟩ = some b ∧ W.cell? ⟨w.heap.size, 2, none⟩ = some c ∧ W.cell? ⟨w.heap.size, 3, none⟩ = some d ∧ W.cell? ⟨w.heap.size, 4, none⟩ = some f :=
  have B := (Blk.new w e #[a, b, c, d, f]).alloc (.cells o e2)
  cells5 (B.below h B.lt)
set_option maxHeartbeats 2000000 in
set_option maxRecDepth 100000 in
theorem rpright_any {w : World} (x y : Int) :
    Calls Try.prog 47 #[.agg #[.int .i64 x, .int .i64 y]] w (NewPost (.bool (inBox x y)) w) := by
  obtain ⟨W0, hW0⟩ : ∃ W, W = w.alloc (.cells #[.int .i64 x, .int .i64 y] 27) := ⟨_, rfl⟩
  have b0 : New w W0 := by rw [hW0]; exact (Below.refl _ _).alloc (Nat.le_refl _) _
  have B0 : Blk W0 w.heap.size 27 #[.int .i64 x, .int .i64 y] := by rw [hW0]; exact Blk.new _ _ _
  obtain ⟨x0, x1⟩ := cells2 B0
  have HO := Lib.hid (show inBox x y = (decide (-1048576 ≤ x) && decide (x ≤ 1048576) && decide (-1048576 ≤ y) && decide (y ≤ 1048576)) from rfl)
  generalize inBox x y = O at *
  rw [hW0] at x0 x1
  clear B0
  cases h1 : decide (-1048576 ≤ x) <;> cases h2 : decide (x ≤ 1048576) <;> cases h3 : decide (-1048576 ≤ y) <;> cases h4 : decide (y ≤ 1048576)
  all_goals
    rw [h1, h2, h3, h4] at HO
    go_enter Try.func47, Try.ntmps47
    go_wp2
    go_ret
    exact ⟨by rw [HO.out]; rfl, by rw [← hW0]; exact b0⟩
set_option maxHeartbeats 2000000 in
set_option maxRecDepth 100000 in
theorem rcright_any {w : World} {b : Bool} {n : Int} {s : List Nat} {x y : Int} {cn : List Nat} {t : Int} {nu : Bool} (hs : s.length ≤ 140737488351232) :
    Calls Try.prog 28 #[.agg #[.bool b, .int .i64 n, .string (bstr s), .int .i64 x, .int .i64 y], .agg #[.string (bstr cn), .int .i64 t, .bool nu]] w (NewPost (.bool (rightB (b, n, s, x, y) t nu)) w) := by
  have z1 := bstr_size s
  generalize hO : rightB (b, n, s, x, y) t nu = O
  have HO := Lib.hid hO
  have Z := Lib.hid (bstr_nil (s := s))
  clear hO
  have B0 := Blk.new w 29 #[.bool b, .int .i64 n, .string (bstr s), .int .i64 x, .int .i64 y]
  have B1 := Blk.new (w.alloc (.cells #[.bool b, .int .i64 n, .string (bstr s), .int .i64 x, .int .i64 y] 29)) 53 #[.string (bstr cn), .int .i64 t, .bool nu]
  obtain ⟨x0, x1, x2, x3, x4⟩ := cells5 (B0.alloc (.cells #[.string (bstr cn), .int .i64 t, .bool nu] 53))
  obtain ⟨y0, y1, y2⟩ := ccells B1
  clear B0 B1
  go_enter Try.func28, Try.ntmps28
  go_wp2_with (first
    | (go_at_call 47; refine (rpright_any x y).mono ?_; rintro e w' ⟨rfl, b1⟩; obtain ⟨p0, p1, p2, p3, p4⟩ := two_cells b1))
  all_goals go_ret
  all_goals try refine ⟨?_, new2 w _ _⟩
  all_goals try refine ⟨?_, New.trans (new2 w _ _) (by assumption)⟩
  all_goals
    rw [← HO.out]
    have Z := Z.out
    clear x0 x1 x2 x3 x4 y0 y1 y2 HO
    try clear p0 p1 p2 p3 p4
    simp_all [rightB]
  · by_cases h1 : n = 1 <;> simp [*]
  · omega

end Go.Proofs.Ythdkbfffjlkbpaa
