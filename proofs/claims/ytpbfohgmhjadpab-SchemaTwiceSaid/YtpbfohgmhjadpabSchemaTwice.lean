/- SchemaTwice returns true whatever comes in, and leaves all that was there as it was. -/
import Derived.Test.YtpbfohgmhjadpabLaw16
import Derived.Test.YtpbfohgmhjadpabOpenT

namespace Go.Hm
open Go Go.RowKit
theorem set1_app {A B : List Value} {x y z a : Value} {m : Nat} (h : A.length = m) : (A ++ ([x, y, z] ++ B)).set m a = A ++ ([a, y, z] ++ B) := by
  subst h
  rw [List.set_append_right _ _ (Nat.le_refl _)]
  simp
theorem row_set1 {w : World} {base : Nat} {e : TypeId} {g n c m : Nat} {A B : List Value} {x y z a : Value} (h : w.ownsRow base e 3 (.slice (some ⟨g, 0, none⟩) n c) n (A ++ ([x, y, z] ++ B))) (hm : A.length = m) :
    (w.setCell ⟨g, m, none⟩ a).ownsRow base e 3 (.slice (some ⟨g, 0, none⟩) n c) n (A ++ ([a, y, z] ++ B)) ∧ w.grownBy (w.setCell ⟨g, m, none⟩ a) (some g) := by
  obtain ⟨h1, g1⟩ := h.stored m a
  rw [set1_app hm] at h1
  exact ⟨h1, g1⟩

section
variable {P : Program} {ops : Array Oper} {rest : List Oper} {o : Oper} {a : Act} {Q : Exit → Act → World → Prop}
/-- append(s, xs...) of records, of which there is one. -/
theorem wpList_pushesR {w : World} {t e : TypeId} {z : Value} {sz bytes : Nat} (E : ElT P t e z sz bytes) (hgd : o.guard = none) (s x : Operand)
    (ho : o.op = .call { callee := .builtin .append, args := #[s, x], argTypes := #[t, t] })
    {W : World} {B base n m c : Nat} {v : Value} {us xs : List Value} {ad : Addr} (hown : w.ownsRow base e sz v n xs) (hr : Reads w w.heap.size sz (some ad) m us) (hm0 : 0 < m) (hs : a.eval s = v) (hx : a.eval x = .slice (some ad) m c)
    (hb : Below B W w) (hbB : B ≤ base) (hbase : base ≤ w.heap.size) (h1 : ∀ u ∈ us, u.oneCell' = true)
    (hn : (n + m) * bytes ≤ 140737488355328) (hm : n + m ≤ maxLen)
    (h : ∀ A' c' w', n + m ≤ c' → c' ≤ maxLen → w'.ownsRow base e sz (.slice A' (n + m) c') (n + m) (xs ++ us) → w.grownBy w' v.ownBlock → Below B W w' → wpList P ops Q rest (a.put o.dst (.slice A' (n + m) c')) w') :
    wpList P ops Q (o :: rest) a w := by
  obtain ⟨i, hi, hz0, hz1, hz2⟩ := info_parts E.hi
  refine wpList_append_own_at _ hgd s x t ho base e i z sz bytes E.ht hi hz0 hz1 hz2 E.hz E.hs v n xs hs hown ad m c us hx hr.1 ?_ h1 hm hn hbase ?_
  · intro j u hu
    obtain ⟨ad', h', _, hc⟩ := hr.2 hm0
    injection h' with h'
    subst h'
    exact hc j u hu
  intro v' w' hown' hg _ _
  obtain ⟨A', c', rfl, hc1, hc2⟩ := row_slice hown'
  exact h A' c' w' hc1 hc2 hown' hg (hb.grown hg (Nat.le_trans hbB hbase) (fun k hk => by have := (World.ownsRow.lt hown k hk).1; omega))
end
theorem colV_one (l : List ColS) : ∀ u ∈ recs colV l, u.oneCell' = true := by
  intro u hu
  unfold recs at hu
  obtain ⟨c, _, hc⟩ := List.mem_flatMap.1 hu
  simp [colV] at hc
  rcases hc with rfl | rfl | rfl <;> rfl
theorem twice_no {l : List ColS} {s : List Nat} {t : Int} {u : Bool} (h : s ∈ l.map (·.1)) : putC [] (l ++ [(s, t, u)]) = [] := by
  unfold putC
  rw [if_neg]
  intro hk
  obtain ⟨_, _, hd⟩ := (colsCk_iff _).1 hk
  rw [List.map_append, List.nodup_append] at hd
  exact hd.2.2 s h s (by simp) rfl

end Go.Hm

namespace Go.Proofs.Ytpbfohgmhjadpab
open Go.RowKit Go.Hm
def nmOk (L : List ColS) : Prop := ∀ x ∈ L, (∀ z ∈ x.1, z < 256) ∧ x.1.length ≤ 200

set_option maxHeartbeats 2000000 in
set_option maxRecDepth 100000 in
theorem schemaTwice_walk {w : World} {s : List Nat} {n m : Nat} (h8 : ∀ x ∈ s, x < 256) (h0 : 0 < s.length) (h1 : s.length ≤ 100) (hn : n ≤ 20) (hm : m ≤ 20) :
    Calls Try.prog 7 #[.string (bstr s), .int .i64 (n : Int), .int .i64 (m : Int)] w (SmallPost w) := by
  have zs := bstr_size s
  have g0 : ¬ (bstr s).toList = [] := by
    rw [bstr_toList]
    cases s with
    | nil => simp at h0
    | cons => simp
  have g1 : (bstr s).toList.isEmpty = false := by simpa using g0
  have d1 : decide (100 < (s.length : Int)) = false := by simp; omega
  have d2 : decide ((n : Int) < 0) = false := by simp
  have d3 : decide ((20 : Int) < (n : Int)) = false := by simp; omega
  have d4 : decide ((m : Int) < 0) = false := by simp
  have d5 : decide ((20 : Int) < (m : Int)) = false := by simp; omega
  have i1 : ∀ W, (Op.stringOp .add (bstr s) ⟨#[120]⟩).run Try.prog W = .ok (.string (bstr (s ++ [120]))) W := run_sadd Try.prog s [120] (by simp; omega)
  have i2 : ∀ W, (Instr.slice 9 (.string (bstr s)) none (some (.int .i64 1)) none).run Try.prog W = .ok (.string (bstr (s.take 1))) W := run_to strT s 1 (by omega)
  have i3 : ∀ W, (Op.stringOp .add (bstr (s.take 1)) ⟨#[0]⟩).run Try.prog W = .ok (.string (bstr (s.take 1 ++ [0]))) W := run_sadd Try.prog (s.take 1) [0] (by simp; omega)
  have i4 : ∀ (k : Nat) W, (Op.stringOp .add (bstr (s.take 1 ++ [0])) (bstr [k + 1])).run Try.prog W = .ok (.string (bstr (s.take 1 ++ [0, k + 1]))) W := fun k W => by
    have := run_sadd Try.prog (s.take 1 ++ [0]) [k + 1] (by simp; omega) W
    rwa [List.append_assoc] at this
  have i5 : ∀ (k : Nat) W, (Op.stringOp .add (bstr (s.take 1 ++ [0, k + 1])) ⟨#[0]⟩).run Try.prog W = .ok (.string (bstr (s.take 1 ++ [0, k + 1, 0]))) W := fun k W => by
    have := run_sadd Try.prog (s.take 1 ++ [0, k + 1]) [0] (by simp; omega) W
    rwa [List.append_assoc] at this
  have I := Lib.hid (And.intro i2 (And.intro i3 (And.intro i4 i5)))
  have H8 := Lib.hid h8
  clear i2 i3 i4 i5 h8
  go_enter Try.func7, Try.ntmps7
  go_wp2_with fail
  refine (small16_any w).mono ?_
  rintro e w1 ⟨rfl, b1⟩
  go_wp2
  clear g0 g1 d1 d2 d3 d4 d5
  go_loopw [8, 9] (fun v i wr => ∃ (k : Nat) (A : Option Addr) (c : Nat) (L : List ColS), i = .int .i64 (k : Int) ∧ k ≤ n + m + 1 ∧ v = .slice A k c ∧ wr.ownsRow w.heap.size 42 3 (.slice A k c) k (recs colV L) ∧ Hid (L.length = k ∧ nmOk L) ∧ New w wr) (fun _ i _ => n + m + 1 - (intOf i).toNat)
  case atStart => exact ⟨0, none, 0, [], rfl, by omega, rfl, row_nil, Lib.hid ⟨rfl, by intro x hx; simp at hx⟩, b1⟩
  case round =>
    obtain ⟨k, A3, c3, L, rfl, hk, rfl, o3, HL, b3⟩ := hrel
    have z3 := b3.size
    by_cases hlt : k < n + m + 1
    · have hk8 : IntKind.u8.wrap ((k : Int) + 1) = ((k + 1 : Nat) : Int) := by rw [IntKind.wrap_u8]; omega
      go_wp2_with (refine wpList_pushR elC rfl (.tmp 45) (.tmp 49) rfl (W := w) (B := w.heap.size) (base := w.heap.size) (n := k) o3 rfl rfl b3 (Nat.le_refl _) z3 rfl (by simp [Value.oneCell']) (by omega) (by simp only [maxLen]; omega) ?_
                   intro A4 c4 w4 _ _ o4 g4 b4 z4 _)
      obtain ⟨gm, cap, hv, hgm, hgl⟩ := World.ownsRow.form o4 (by omega)
      injection hv with hv1 _ hv3
      subst hv1 hv3
      have hrl : (recs colV L).length = k * 3 := by rw [recs_length (sz := 3) (fun _ => rfl), HL.out.1]
      have hki : (k : Int) < (k : Int) + 1 := by omega
      have hw : IntKind.i64.wrap ((k : Int) + 1) = (k : Int) + 1 := IntWalk.i64_in _ (by omega)
      obtain ⟨W9, hW9⟩ : ∃ W, W = (w4.alloc (.cells #[.int .u8 ((k : Int) + 1)] 5)).drew := ⟨_, rfl⟩
      have o9 : W9.ownsRow w.heap.size 42 3 (.slice (some ⟨gm, 0, none⟩) (k + 1) c4) (k + 1) (recs colV L ++ ([.string (bstr (s ++ [120])), .int .i64 0, .bool false] ++ [])) := by rw [hW9]; exact World.ownsRow.alloc o4 _
      have r9 : Reads W9 W9.heap.size 1 (some ⟨w4.heap.size, 0, none⟩) 1 (nums .u8 [k + 1]) := by rw [hW9]; exact Reads.litV w4 5 #[.int .u8 ((k : Int) + 1)] 1 (nums .u8 [k + 1]) rfl rfl
      have G9 : w4.drew.grownBy W9 (some gm) := by rw [hW9]; exact World.grownBy_alloc w4.drew _ _
      have c0 := o9.cellAt (k * 3) (by omega)
      rw [List.getElem?_append_right (by omega), hrl] at c0
      simp only [Nat.sub_self, List.cons_append, List.getElem?_cons_zero] at c0
      have f0 := o9.frozenAt (k * 3)
      obtain ⟨i2, i3, i4, i5⟩ := I.out
      have i4 := i4 k
      have i5 := i5 k
      have b9 : New w W9 := by rw [hW9]; exact (b4.alloc b4.size _).drew
      obtain ⟨o10, g10⟩ := row_set1 (a := .string (bstr (s.take 1 ++ [0, k + 1, 0]))) o9 hrl
      have RS := Lib.hid (fun (W : World) (hW : W9.grownBy W (some gm)) => run_strB (c := 1) (r9.grown_far hW (fun ad g hA hg => by injection hA with hA; injection hg with hg; subst hA hg; intro e; simp at e; omega)))
      have HO10 := Lib.hid (And.intro o10 (And.intro g10 b9))
      have HW9 := Lib.hid hW9
      clear o4 o9 r9 o10 g10 b9 o3 hW9
      refine wp_region_up (fun x y => x.grownBy y (some gm)) [(true, 0), (true, 1), (true, 2), (true, 3), (true, 4), (true, 5), (true, 6), (true, 7), (false, 8), (true, 9), (true, 10), (true, 11), (true, 12), (true, 13), (false, 14)]
        (fun x => World.grownBy.refl x _) World.grownBy.trans (by kernel_rfl) (by kernel_rfl) (by kernel_rfl) (by kernel_rfl) ?_
      iterate 8 (refine up_quiet rfl rfl (v := ?_) (fun W hW => ?_) ?_; rotate_left; (go_simp <;> with_reducible rfl); simp only [Act.put, List.setIfInBounds_toArray, List.set_cons_zero, List.set_cons_succ])
      refine up_call rfl rfl (fun K hK => ?_)
      go_simp
      rw [← HW9.out]
      refine hK _ _ G9 ?_
      clear hK
      refine up_quiet rfl rfl (v := ?_) (fun W hW => ?_) ?_
      rotate_left
      · have X := RS.out W hW
        go_simp <;> with_reducible rfl
      simp only [Act.put, List.setIfInBounds_toArray, List.set_cons_zero, List.set_cons_succ]
      iterate 4 (refine up_quiet rfl rfl (v := ?_) (fun W hW => ?_) ?_; rotate_left; (go_simp <;> with_reducible rfl); simp only [Act.put, List.setIfInBounds_toArray, List.set_cons_zero, List.set_cons_succ])
      refine up_call rfl rfl (fun K hK => ?_)
      go_simp
      refine hK _ _ HO10.out.2.1 ?_
      clear hK
      refine up_nil ?_
      clear i2 i3 i4 i5 c0 f0
      go_wp2
      go_roundw
      case rel =>
        refine ⟨k + 1, _, c4, L ++ [(s.take 1 ++ [0, k + 1, 0], 0, false)], by go_num, by omega, rfl, by rw [recs_append]; exact HO10.out.1, Lib.hid ⟨by rw [List.length_append, HL.out.1]; rfl, ?_⟩, ?_⟩
        · intro x hx
          rcases List.mem_append.1 hx with hx | hx
          · exact HL.out.2 x hx
          · simp only [List.mem_singleton] at hx
            subst hx
            refine ⟨fun z hz => ?_, ?_⟩
            · simp only [List.mem_append, List.mem_cons, List.not_mem_nil, or_false] at hz
              rcases hz with hz | hz | hz | hz
              · exact H8.out z (List.mem_of_mem_take hz)
              · omega
              · omega
              · omega
            · simp only [List.length_append, List.length_take, List.length_cons, List.length_nil]; omega
        · exact HO10.out.2.2.setCell hgm _
      case measure => simp [intOf]; omega
    · obtain rfl : k = n + m + 1 := by omega
      obtain ⟨gm, cap, hv, hgm, hgl⟩ := World.ownsRow.form o3 (by omega)
      injection hv with hv1 _ hv3
      subst hv1 hv3
      have hsplit : L = L.take n ++ (L.getD n ([], 0, false) :: L.drop (n + 1)) := by rw [← drop_cons_getD L n ([], 0, false) (by rw [HL.out.1]; omega), List.take_append_drop]
      have htl : (L.take n).length = n := by rw [List.length_take, HL.out.1]; omega
      have hLL := HL.out
      generalize L.take n = L1 at *
      generalize L.getD n ([], 0, false) = cx at *
      generalize L.drop (n + 1) = L2 at *
      obtain ⟨nx, tx, ux⟩ := cx
      subst hsplit
      rw [recs_append, recs_cons] at o3
      have hrl : (recs colV L1).length = n * 3 := by rw [recs_length (sz := 3) (fun _ => rfl), htl]
      have c0 := o3.cellAt (n * 3) (by omega)
      rw [List.getElem?_append_right (by omega), hrl] at c0
      simp [colV] at c0
      have f0 := o3.frozenAt (n * 3)
      obtain ⟨o4, g4⟩ := row_set1 (a := .string (bstr s)) o3 hrl
      have b4 : New w (wr.setCell ⟨gm, n * 3, none⟩ (.string (bstr s))) := b3.setCell hgm _
      obtain ⟨W4, hW4⟩ : ∃ W, W = wr.setCell ⟨gm, n * 3, none⟩ (.string (bstr s)) := ⟨_, rfl⟩
      rw [← hW4] at o4 b4
      have o4 : W4.ownsRow w.heap.size 42 3 (.slice (some ⟨gm, 0, none⟩) (n + m + 1) c3) (n + m + 1) (recs colV (L1 ++ (s, tx, ux) :: L2)) := by rw [recs_append, recs_cons]; exact o4
      have hmem : s ∈ (L1 ++ (s, tx, ux) :: L2).map (·.1) := by simp
      have hok : ∀ x ∈ L1 ++ (s, tx, ux) :: L2, (∀ z ∈ x.1, z < 256) ∧ x.1.length ≤ 200 := by
        intro x hx
        rcases List.mem_append.1 hx with hx | hx
        · exact hLL.2 x (List.mem_append_left _ hx)
        · rcases List.mem_cons.1 hx with rfl | hx
          · exact ⟨H8.out, by simp only; omega⟩
          · exact hLL.2 x (List.mem_append_right _ (List.mem_cons_of_mem _ hx))
      have HW4 := Lib.hid hW4
      have hcle : n + m + 1 ≤ c3 := by
        obtain ⟨A', c', hcv, hcv1, _⟩ := row_slice o3
        injection hcv with _ _ e3
        omega
      clear o3 g4 hW4 b3 hLL
      generalize hLX : L1 ++ (s, tx, ux) :: L2 = LX at *
      clear hLX
      have hni : (n : Int) < ((n + m + 1 : Nat) : Int) := by omega
      have hL4 : ∀ x ∈ LX, (∀ z ∈ x.1, z < 256) ∧ x.1.length ≤ 140737488351232 := fun x hx => ⟨(hok x hx).1, by have := (hok x hx).2; omega⟩
      have r4 := Reads.of_own o4
      have P1 := Lib.hid (sput_any (w := W4) (A := none) (n := 0) (c := 0) (b := []) (c2 := c3) Reads.none_ (by omega) r4 hL4 hcle (by omega))
      rw [HW4.out] at P1
      have hV : (colsCk LX ≠ 0 → putC [] LX = []) ∧ (colsCk LX = 0 → 0 < (putC [] LX).length ∧ (putC [] LX).length ≤ 1000000) := by
        refine ⟨fun hk => by rw [putC, if_neg hk], fun hk => ?_⟩
        obtain ⟨m1, m2, _⟩ := (colsCk_iff LX).1 hk
        rw [putC, if_pos hk, List.nil_append, List.length_append]
        have := vp_pos LX.length
        have := vp_len10 (n := LX.length) (by omega)
        have := catC_len LX (fun x hx => (m2 x hx).2.1)
        omega
      have htw := twice_no (l := LX) (s := s) (t := 2) (u := false) hmem
      have HL4 := Lib.hid hL4
      have R4 := Lib.hid r4
      have HOK := Lib.hid hok
      have CC := Lib.hid (fun (W : World) (hW : New W4 W) => cols_any (c := c3) (Reads.later r4 hW) HL4.out hcle (by omega))
      generalize colsCk LX = ck at *
      generalize putC [] LX = V1 at *
      clear r4 hL4 hok hmem
      go_wp2_with fail
      refine P1.out.mono ?_
      rintro e w5 ⟨A5, n5, c5, rfl, k5, b5⟩
      rw [← HW4.out] at b5
      have q5 := k5.len
      rw [nums_length] at q5
      subst q5
      have b45 : New W4 w5 := b5
      have bw5 := New.trans b4 b5
      have z5 := bw5.size
      have o5 : (w5.alloc (.cells #[] 42)).ownsRow W4.heap.size 42 3 (.slice (some ⟨w5.heap.size, 0, none⟩) 0 0) 0 [] := ⟨by simp, .inr ⟨_, 0, #[], rfl, b45.size, heap_alloc_new w5 _, Nat.le_refl _, by simp [maxLen], by simp, by simp⟩⟩
      have r5 := (Reads.later R4.out b45).over (.cells #[] 42)
      have B4 := Lib.hid b4
      have b46 : New W4 (w5.alloc (.cells #[] 42)) := Below.alloc b45 b45.size _
      clear P1 b5 k5 o4 b4 bw5
      go_wp2_with (first
        | (refine wpList_pushesR elC rfl (.tmp 72) (.tmp 73) rfl (W := W4) (B := W4.heap.size) (base := W4.heap.size) (n := 0) o5 r5 (by omega) rfl rfl b46 (Nat.le_refl _) b46.size (colV_one _) (by omega) (by simp only [maxLen]; omega) ?_
           intro A7 c7 w7 _ _ o7 g7 b7
           rw [Nat.zero_add] at o7
           rw [Nat.zero_add]
           have z7 := b7.size)
        | (refine wpList_pushR elC rfl (.tmp 74) (.tmp 77) rfl (W := W4) (B := W4.heap.size) (base := W4.heap.size) (n := n + m + 1) o7 rfl rfl b7 (Nat.le_refl _) z7 rfl (by simp [Value.oneCell']) (by omega) (by simp only [maxLen]; omega) ?_
           intro A8 c8 w8 hc8 _ o8 g8 b8 z8 _))
      rw [List.nil_append] at o8
      have o8 : w8.ownsRow W4.heap.size 42 3 (.slice A8 (n + m + 1 + 1) c8) (n + m + 1 + 1) (recs colV (LX ++ [(s, 2, false)])) := by rw [recs_append]; exact o8
      have P2 := Lib.hid (sput_any (w := w8) (A := none) (n := 0) (c := 0) (b := []) (c2 := c8) Reads.none_ (by omega) (Reads.of_own o8) (fun x hx => by
        rcases List.mem_append.1 hx with hx | hx
        · exact HL4.out x hx
        · simp only [List.mem_singleton] at hx
          subst hx
          exact ⟨H8.out, by simp only; omega⟩) hc8 (by omega))
      rw [htw] at P2
      clear o5 r5 o7 o8 g7 g8 b46 b45
      refine P2.out.mono ?_
      rintro e w9 ⟨A9, n9, c9, rfl, k9, b9⟩
      obtain rfl : n9 = 0 := by have := k9.len; simpa [nums] using this
      have b49 := New.trans b8 b9
      have CX := Lib.hid (CC.out w9 b49)
      clear P2 k9 b9 CC b8
      go_wp2_with fail
      refine CX.out.mono ?_
      rintro e w10 ⟨rfl, b10⟩
      have bend : New w w10 := New.trans B4.out (New.trans b49 b10)
      by_cases hk0 : ck = 0
      · subst hk0
        obtain ⟨v1, v2⟩ := hV.2 rfl
        have e1 : decide (0 < V1.length) = true := by simpa using v1
        have e2 : decide ((0 : Int) < (V1.length : Int)) = true := by simpa using v1
        clear hV
        go_wp2
        go_ret
        exact ⟨by simp, bend⟩
      · have hv := hV.1 hk0
        have e1 : (ck != 0) = true := by simpa using hk0
        subst hv
        clear hV hk0
        go_wp2
        go_ret
        exact ⟨by simp, bend⟩

set_option maxHeartbeats 1000000 in
theorem schemaTwice_big {w : World} {s : List Nat} {n m : Int} (hb : s.length = 0 ∨ 100 < s.length ∨ n < 0 ∨ 20 < n ∨ m < 0 ∨ 20 < m) :
    Calls Try.prog 7 #[.string (bstr s), .int .i64 n, .int .i64 m] w (SmallPost w) := by
  have zs := bstr_size s
  have hc : s.length = 0 ∨ (¬ s.length = 0 ∧ 100 < s.length) ∨ (¬ s.length = 0 ∧ ¬ 100 < s.length ∧ n < 0) ∨ (¬ s.length = 0 ∧ ¬ 100 < s.length ∧ ¬ n < 0 ∧ 20 < n) ∨ (¬ s.length = 0 ∧ ¬ 100 < s.length ∧ ¬ n < 0 ∧ ¬ 20 < n ∧ m < 0) ∨ (¬ s.length = 0 ∧ ¬ 100 < s.length ∧ ¬ n < 0 ∧ ¬ 20 < n ∧ ¬ m < 0 ∧ 20 < m) := by omega
  have g1 : (bstr s).toList.isEmpty = decide (s.length = 0) := by
    rw [bstr_toList]
    cases s <;> simp
  clear hb
  rcases hc with h1 | ⟨h1, h2⟩ | ⟨h1, h2, h3⟩ | ⟨h1, h2, h3, h4⟩ | ⟨h1, h2, h3, h4, h5⟩ | ⟨h1, h2, h3, h4, h5, h6⟩
  all_goals
    first
      | (rw [decide_eq_true h1] at g1; have g0 : (bstr s).toList = [] := by simpa using g1)
      | (rw [decide_eq_false h1] at g1; have g0 : ¬ (bstr s).toList = [] := by simpa using g1)
    try (have d1 : decide (100 < (s.length : Int)) = true := by simp; omega)
    try (have d1 : decide (100 < (s.length : Int)) = false := by simp; omega)
    try (have d2 : decide (n < 0) = false := decide_eq_false h3)
    try (have d3 : decide (20 < n) = false := decide_eq_false h4)
    try (have d4 : decide (m < 0) = false := decide_eq_false h5)
    clear h1
    go_enter Try.func7, Try.ntmps7
    go_wp2_with (go_at_call 8; refine (small16_any w).mono ?_; rintro e w1 ⟨rfl, b1⟩)
    go_ret
    exact ⟨rfl, b1⟩

set_option maxRecDepth 100000 in
open Go.WideShapes Go.ChangeShapes in
theorem schemaTwice_contract {H : Type} {enc : TypeId × Value → H} (W : World) (base : Nat) (args : Array Value) (ds : List (DataW H)) (ps : List MemPlace)
    (hval : ∀ (j : Nat) t v, Try.f7.params[j]? = some t → args[j]? = some v → Value.okWide Try.prog W .any base t v)
    (hA : DataW.TrodAll enc Try.prog W 0 (fun _ => true) true Try.f7.params.toList args.toList ds ps) (hlt : ∀ p ∈ ps, p.block < W.heap.size)
    (hsz : (DataW.weightsEach Try.prog Try.f7.params.toList ds).all (· ≤ reachBytes) = true) :
    Calls Try.prog 7 args W fun e W' => e = .returned (.bool true) ∧ Below W.heap.size W W' := by
  rw [Try.params7] at hA hval hsz
  obtain ⟨v0, v1, v2, d0, d1, d2, p0, p1, p2, rfl, rfl, rfl, h0, h1, h2⟩ := trodAll_three hA
  obtain ⟨s, rfl, h8_s, hl_s⟩ := open_s (hval 0 _ _ rfl rfl) h0 (fun p hp => hlt p (by simp [hp])) (sized_at hsz (j := 0) rfl rfl)
  obtain ⟨n, rfl, wn, wn'⟩ := open_i64 (hval 1 _ _ rfl rfl) h1
  obtain ⟨m, rfl, wm, wm'⟩ := open_i64 (hval 2 _ _ rfl rfl) h2
  by_cases hb : s.length = 0 ∨ 100 < s.length ∨ n < 0 ∨ 20 < n ∨ m < 0 ∨ 20 < m
  · exact schemaTwice_big hb
  · obtain ⟨n, rfl⟩ := Int.eq_ofNat_of_zero_le (show 0 ≤ n by omega)
    obtain ⟨m, rfl⟩ := Int.eq_ofNat_of_zero_le (show 0 ≤ m by omega)
    exact schemaTwice_walk h8_s (by omega) (by omega) (by omega) (by omega)

end Go.Proofs.Ytpbfohgmhjadpab
