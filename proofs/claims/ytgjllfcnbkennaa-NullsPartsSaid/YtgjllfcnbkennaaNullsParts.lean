/- NullsParts returns true whatever comes in, and leaves all that was there as it was. -/
import Derived.Test.YtgjllfcnbkennaaLaw08
import Derived.Test.YtgjllfcnbkennaaTrod

namespace Go.Hm
open Go Go.RowKit
theorem num_app (l m : List Nat) : num (l ++ m) = num l + 256 ^ l.length * num m := by
  induction l with
  | nil => simp [num]
  | cons a l ih =>
    simp only [List.cons_append, num, ih, List.length_cons, Nat.pow_succ]
    rw [Nat.mul_add, Nat.add_assoc, Nat.mul_comm (256 ^ l.length) 256, Nat.mul_assoc]
theorem pk_app (l m : List Nat) : pk 1 (l ++ m) = pk 1 l + 2 ^ l.length * pk 1 m := by
  induction l with
  | nil => simp [pk]
  | cons a l ih =>
    simp only [List.cons_append, pk, ih, List.length_cons]
    rw [show (2 : Nat) ^ (l.length + 1) = 2 ^ 1 * 2 ^ l.length by rw [Nat.pow_succ, Nat.mul_comm, Nat.pow_one], Nat.mul_add, Nat.mul_assoc, Nat.add_assoc]
theorem low_cat {X Y q s : Nat} (hX : X < 256 ^ q) (hY : Y < 256 ^ s) : low (X + 256 ^ q * Y) (q + s) = low X q ++ low Y s := by
  have h8 : ∀ x ∈ low X q ++ low Y s, x < 256 := by
    intro x hx
    rcases List.mem_append.1 hx with hx | hx
    · exact low_lt _ _ x hx
    · exact low_lt _ _ x hx
  have h := low_num _ h8
  rw [num_app, num_low_of_lt hX, num_low_of_lt hY, low_len, List.length_append, low_len, low_len] at h
  exact h
theorem vals_app (a b : List CellS) : valsN (a ++ b) = valsN a ++ valsN b := by simp [valsN]

section
variable {P : Program} {ops : Array Oper} {rest : List Oper} {o : Oper} {a : Act} {Q : Exit → Act → World → Prop}
theorem wpList_want (hw : Region.wanted o (yielded ops a.tmps) = true) {w : World} (h : ∀ K : Act → World → Prop, (∀ a w, wpList P ops Q rest a w → K a w) → o.wp P a w K Q) : wpList P ops Q (o :: rest) a w :=
  wpList_step fun K hK => by simp only [hw, if_true]; exact h K hK
/-- append(s, xs...) of records onto a row of the call's own. -/
theorem wpList_appR {w : World} {t e : TypeId} {z : Value} {sz bytes : Nat} (E : ElT P t e z sz bytes) (hgd : o.guard = none) (s x : Operand)
    (ho : o.op = .call { callee := .builtin .append, args := #[s, x], argTypes := #[t, t] })
    {W : World} {B base n m c : Nat} {v : Value} {xs news : List Value} {A : Option Addr} (hown : w.ownsRow base e sz v n xs) (hr : Reads w w.heap.size sz A m news) (hs : a.eval s = v) (hx : a.eval x = .slice A m c)
    (hb : Below B W w) (hbB : B ≤ base) (hbase : base ≤ w.heap.size) (h1 : ∀ u ∈ news, u.oneCell' = true)
    (hn : (n + m) * bytes ≤ 140737488355328) (hm : n + m ≤ maxLen)
    (h : ∀ A' c' w', n + m ≤ c' → c' ≤ maxLen → w'.ownsRow base e sz (.slice A' (n + m) c') (n + m) (xs ++ news) → w.grownBy w' v.ownBlock → Below B W w' → wpList P ops Q rest (a.put o.dst (.slice A' (n + m) c')) w') :
    wpList P ops Q (o :: rest) a w :=
  wpList_plain hgd fun _ hK => wp_appR E s x ho hown hr hs hx hb hbB hbase h1 hn hm fun A' c' w' a1 a2 a3 a4 a5 => hK _ _ (h A' c' w' a1 a2 a3 a4 a5)
/-- append(s, xs...) of records onto a row of the call's own, behind a guard that is met. -/
theorem wpList_appW {w : World} {t e : TypeId} {z : Value} {sz bytes : Nat} (E : ElT P t e z sz bytes) (hgd : Region.wanted o (yielded ops a.tmps) = true) (s x : Operand)
    (ho : o.op = .call { callee := .builtin .append, args := #[s, x], argTypes := #[t, t] })
    {W : World} {B base n m c : Nat} {v : Value} {xs news : List Value} {A : Option Addr} (hown : w.ownsRow base e sz v n xs) (hr : Reads w w.heap.size sz A m news) (hs : a.eval s = v) (hx : a.eval x = .slice A m c)
    (hb : Below B W w) (hbB : B ≤ base) (hbase : base ≤ w.heap.size) (h1 : ∀ u ∈ news, u.oneCell' = true)
    (hn : (n + m) * bytes ≤ 140737488355328) (hm : n + m ≤ maxLen)
    (h : ∀ A' c' w', n + m ≤ c' → c' ≤ maxLen → w'.ownsRow base e sz (.slice A' (n + m) c') (n + m) (xs ++ news) → w.grownBy w' v.ownBlock → Below B W w' → wpList P ops Q rest (a.put o.dst (.slice A' (n + m) c')) w') :
    wpList P ops Q (o :: rest) a w :=
  wpList_want hgd fun _ hK => wp_appR E s x ho hown hr hs hx hb hbB hbase h1 hn hm fun A' c' w' a1 a2 a3 a4 a5 => hK _ _ (h A' c' w' a1 a2 a3 a4 a5)
end

end Go.Hm

namespace Go.Proofs.Ytgjllfcnbkennaa
open Go.RowKit Go.Hm
theorem splitB_app {a b : List CellS} {q : Nat} (hq : a.length = 8 * q) : splitB (a ++ b) = splitB a ++ splitB b := by
  have e1 : marksN (a ++ b) = marksN a ++ marksN b := by simp [marksN]
  have hl1 : (marksN a).length = 8 * q := by rw [marks_len, hq]
  have h256 : (2 : Nat) ^ (8 * q) = 256 ^ q := by rw [Nat.pow_mul]
  unfold splitB
  rw [e1, pk_app, List.length_append, hl1, h256, show (1 * (8 * q + (marksN b).length) + 7) / 8 = q + (1 * (marksN b).length + 7) / 8 by omega, show (1 * (8 * q) + 7) / 8 = q by omega]
  refine low_cat ?_ ?_
  · have := pk_lt 1 (marksN a) (marks_le a)
    rwa [Nat.one_mul, hl1, h256] at this
  · have := pk_lt 1 (marksN b) (marks_le b)
    refine Nat.lt_of_lt_of_le this ?_
    rw [show (256 : Nat) = 2 ^ 8 from rfl, ← Nat.pow_mul]
    exact Nat.pow_le_pow_right (by omega) (by omega)
theorem made5 (w : World) (e : TypeId) : (w.alloc (.cells #[] e)).ownsRow w.heap.size e 5 (.slice (some ⟨w.heap.size, 0, none⟩) 0 0) 0 [] :=
  World.ownsRow_made w #[] 0 (Nat.le_refl _) (Nat.zero_le _) rfl
theorem cellV_one5 (x : CellS) : ∀ u ∈ cellV x, u.oneCell' = true := by
  intro u hu
  simp only [cellV, List.mem_cons, List.not_mem_nil, or_false] at hu
  rcases hu with rfl | rfl | rfl | rfl | rfl <;> rfl
theorem recs_one5 (l : List CellS) : ∀ u ∈ recs cellV l, u.oneCell' = true := by
  intro u hu
  obtain ⟨x, _, hx⟩ := List.mem_flatMap.1 hu
  exact cellV_one5 x u hx
set_option maxHeartbeats 4000000 in
set_option maxRecDepth 100000 in
theorem nullsParts_walk {w : World} {A : Option Addr} {n c : Nat} {l : List CellS} {A2 : Option Addr} {n2 c2 : Nat} {r : List CellS} (h : Reads w w.heap.size 5 A n (recs cellV l)) (hL : ∀ y ∈ l, CellFine y) (hn : n ≤ 2932031007317) (hc : n ≤ c) (h2 : Reads w w.heap.size 5 A2 n2 (recs cellV r)) (hR : ∀ y ∈ r, CellFine y) (hn2 : n2 ≤ 2932031007317) :
    Calls Try.prog 7 #[.slice A n c, .slice A2 n2 c2] w (SmallPost w) := by
  obtain rfl := h.lenCell
  obtain rfl := h2.lenCell
  have F1 := Lib.hid (fun (W : World) (hW : New w W) => few08_any (c := c) (Reads.later h hW) hL (by omega))
  have F2 := Lib.hid (fun (W : World) (hW : New w W) => few08_any (c := c2) (Reads.later h2 hW) hR (by omega))
  go_enter Try.func7, Try.ntmps7
  go_wp2_with fail
  refine (small08_any w).mono ?_
  rintro e w1 ⟨rfl, b1⟩
  go_wp2_with fail
  refine (F1.out w1 b1).mono ?_
  rintro e w1' ⟨b3, rfl, hf, rfl⟩
  go_wp2_with fail
  refine (F2.out w1 b1).mono ?_
  rintro e w1' ⟨b4, rfl, hf2, rfl⟩
  clear F1 F2
  cases b3 with
  | false =>
    go_wp2
    go_ret
    exact ⟨rfl, b1⟩
  | true =>
    cases b4 with
    | false =>
      go_wp2
      go_ret
      exact ⟨rfl, b1⟩
    | true =>
      have k1 := hf rfl
      have k2 := hf2 rfl
      obtain ⟨q, hq⟩ : ∃ q, q = l.length / 8 := ⟨_, rfl⟩
      have e1 : (l.length : Int).tdiv 8 = (q : Int) := by rw [Int.tdiv_eq_ediv_of_nonneg (by omega)]; omega
      have e2 : IntKind.i64.wrap (q : Int) = (q : Int) := by rw [IntKind.wrap_i64]; omega
      have e3 : IntKind.i64.wrap ((q : Int) * 8) = ((q * 8 : Nat) : Int) := by rw [IntKind.wrap_i64]; omega
      have hq8 : q * 8 ≤ l.length := by omega
      have R1 := (Reads.later h b1).take (k := q * 8) hq8
      rw [recs_take (f := cellV) (sz := 5) (fun _ => rfl) l (q * 8) hq8] at R1
      have hal : (l.take (q * 8)).length = 8 * q := by rw [List.length_take]; omega
      have HS := Lib.hid (splitB_app (b := r) hal)
      have hfa : ∀ y ∈ l.take (q * 8), CellFine y := fun y hy => hL y (List.mem_of_mem_take hy)
      generalize l.take (q * 8) = a at *
      have HAL := Lib.hid hal
      have RA := Lib.hid (fun (W : World) (hW : New w1 W) => Reads.later R1 hW)
      have R2 := Lib.hid (fun (W : World) (hW : New w1 W) => Reads.later h2 (New.trans b1 hW))
      have i1 : ((q * 8 : Nat) : Int) ≤ (c : Int) := by omega
      have P1 := Lib.hid (split_any (c := c) (RA.out w1 (New.refl _)) (by omega))
      clear h h2 R1 hf hf2 hq hal
      go_wp2_with fail
      refine P1.out.mono ?_
      rintro e w2 ⟨A3, n3, c3, A4, n4, c4, rfl, o2, u2, b2⟩
      have P2 := Lib.hid (split_any (c := c2) (R2.out w2 b2) (by omega))
      obtain rfl : n4 = (valsN a).length := (Reads.of_own u2).lenCell
      clear P1 e1 e2 e3
      go_wp2_with fail
      refine P2.out.mono ?_
      rintro e w3 ⟨A5, n5, c5, A6, n6, c6, rfl, o3, u3, b3⟩
      obtain rfl : n6 = (valsN r).length := (Reads.of_own u3).lenCell
      have b13 := New.trans b2 b3
      obtain ⟨w4, hw4⟩ : ∃ W, W = w3.alloc (.cells #[] 34) := ⟨_, rfl⟩
      have b34 : New w3 w4 := by rw [hw4]; exact (Below.refl _ _).alloc (Nat.le_refl _) _
      have M4 : w4.ownsRow w3.heap.size 34 5 (.slice (some ⟨w3.heap.size, 0, none⟩) 0 0) 0 [] := by rw [hw4]; exact made5 w3 _
      have HW4 := Lib.hid hw4
      have z34 := b34.size
      have hq9 : q * 8 ≤ 300 := by omega
      have RA4 := RA.out w4 (New.trans b13 b34)
      have va := vals_len a
      have vr := vals_len r
      have hal := HAL.out
      have va2 : (valsN a).length ≤ 300 := by omega
      have K := Lib.hid (And.intro o2 (And.intro u2 (And.intro o3 u3)))
      clear hw4 P2 o2 u2 o3 u3 hal
      go_wp2_with (first
        | (rw [← HW4.out]
           refine wpList_appR elCell rfl (.tmp 43) (.tmp 44) rfl (W := w3) (B := w3.heap.size) M4 RA4 rfl rfl b34 (Nat.le_refl _) z34 (recs_one5 _) (by omega) (by simp only [maxLen]; omega) ?_
           intro A7 c7 w7 _ _ u7 _ b37
           rw [Nat.zero_add, List.nil_append] at u7
           rw [Nat.zero_add]
           have R27 := R2.out w7 (New.trans b13 b37)
           have z37 := b37.size)
        | (refine wpList_appR elCell rfl (.tmp 45) (.tmp 46) rfl (W := w3) (B := w3.heap.size) u7 R27 rfl rfl b37 (Nat.le_refl _) z37 (recs_one5 _) (by omega) (by simp only [maxLen]; omega) ?_
           intro A8 c8 w8 _ _ u8 _ b38
           rw [← recs_append] at u8))
      have P3 := Lib.hid (split_any (c := c8) (Reads.of_own u8) (by omega))
      clear M4 RA4 R27 u7 b37
      refine P3.out.mono ?_
      rintro e w9 ⟨A9, n9, c9, A10, n10, c10, rfl, o9, u9, b9⟩
      obtain rfl : n10 = (valsN (a ++ r)).length := (Reads.of_own u9).lenCell
      rw [HS.out] at o9
      have b39 := New.trans b38 b9
      obtain ⟨o2, u2, o3, u3⟩ := K.out
      have X1 := run_strB (c := c9) o9.reads
      have X2 := run_strB (c := c3) (Reads.later o2.reads (New.trans b3 b39))
      have X3 := run_strB (c := c5) (Reads.later o3.reads b39)
      have X4 := fun W => run_sadd Try.prog (splitB a) (splitB r) (by have := HAL.out; have := o2.len; have := o3.len; rw [nums_length] at *; have h1 := o2.cap.2; have h2 := o3.cap.2; unfold splitB; rw [low_len, low_len, marks_len, marks_len]; omega) W
      obtain ⟨w10, hw10⟩ : ∃ W, W = w9.alloc (.cells #[] 34) := ⟨_, rfl⟩
      have b10 : New w9 w10 := by rw [hw10]; exact (Below.refl _ _).alloc (Nat.le_refl _) _
      have M10 : w10.ownsRow w9.heap.size 34 5 (.slice (some ⟨w9.heap.size, 0, none⟩) 0 0) 0 [] := by rw [hw10]; exact made5 w9 _
      have HW10 := Lib.hid hw10
      have z910 := b10.size
      have RP := Reads.later (Reads.of_own u2) (New.trans b3 (New.trans b39 b10))
      have RQ := Lib.hid (fun (W : World) (hW : New w9 W) => Reads.later (Reads.of_own u3) (New.trans b39 hW))
      have RZ := Lib.hid (fun (W : World) (hW : New w9 W) => Reads.later (Reads.of_own u9) hW)
      have HF := Lib.hid (fun (x : CellS) (hx : x ∈ valsN (a ++ r)) => show ∀ z ∈ x.2.2.1, z < 256 by
        have hx := (List.mem_filter.1 hx).1
        rcases List.mem_append.1 hx with hx | hx
        · exact (hfa x hx).1.2
        · exact (hR x hx).1.2)
      have hend := New.trans b1 (New.trans b13 b39)
      have HV := Lib.hid (vals_app a r)
      have hvz : (valsN (a ++ r)).length ≤ 700 := by rw [vals_app, List.length_append]; omega
      clear hw10 P3 o2 u2 o3 u3 o9 u9 u8 K hfa hR hL
      go_wp2_with (first
        | (rw [← HW10.out]
           refine wpList_appW elCell rfl (.tmp 64) (.tmp 65) rfl (W := w9) (B := w9.heap.size) M10 RP rfl rfl b10 (Nat.le_refl _) z910 (recs_one5 _) (by omega) (by simp only [maxLen]; omega) ?_
           intro A11 c11 w11 _ _ u11 _ b11
           rw [Nat.zero_add, List.nil_append] at u11
           rw [Nat.zero_add]
           have RQ11 := RQ.out w11 b11
           have z11 := b11.size
           clear X1 X2 X3 X4)
        | (refine wpList_appW elCell rfl (.tmp 66) (.tmp 67) rfl (W := w9) (B := w9.heap.size) u11 RQ11 rfl rfl b11 (Nat.le_refl _) z11 (recs_one5 _) (by omega) (by simp only [maxLen]; omega) ?_
           intro A12 c12 w12 _ _ u12 _ b12
           rw [← recs_append, ← HV.out] at u12))
      have P4 := rcells_any (c := c10) (c2 := c12) (RZ.out w12 b12) (Reads.of_own u12) (by omega) (by omega) HF.out HF.out
      rw [decide_eq_true rfl] at P4
      have P4 := Lib.hid P4
      refine P4.out.mono ?_
      rintro e w13 ⟨rfl, q9, rfl⟩
      clear P4 u11 u12 RQ11 M10 RP
      go_wp2
      go_ret
      exact ⟨by simp, New.trans hend (New.trans b12 (new_drewN _ _))⟩

set_option maxRecDepth 100000 in
open Go.WideShapes Go.ChangeShapes in
theorem nullsParts_contract {H : Type} {enc : TypeId × Value → H} (W : World) (base : Nat) (args : Array Value) (ds : List (DataW H)) (ps : List MemPlace)
    (hval : ∀ (j : Nat) t v, Try.f7.params[j]? = some t → args[j]? = some v → Value.okWide Try.prog W .any base t v)
    (hA : DataW.TrodAll enc Try.prog W 0 (fun _ => true) true Try.f7.params.toList args.toList ds ps) (hlt : ∀ p ∈ ps, p.block < W.heap.size)
    (hsz : (DataW.weightsEach Try.prog Try.f7.params.toList ds).all (· ≤ reachBytes) = true) :
    Calls Try.prog 7 args W fun e W' => e = .returned (.bool true) ∧ Below W.heap.size W W' := by
  rw [Try.params7] at hA hval hsz
  obtain ⟨v0, v1, d0, d1, p0, p1, rfl, rfl, rfl, h0, h1⟩ := trodAll_two hA
  -- l: v0 d0 p0 h0, hval 0
  -- r: v1 d1 p1 h1, hval 1
  obtain ⟨A1, c1, l, rfl, hr, hf, hc1, hl1⟩ := open_Cells (hval 0 _ _ rfl rfl) h0 (fun p hp => hlt p (by simp [hp])) (sized_at hsz (j := 0) rfl rfl)
  obtain ⟨A2, c2, r, rfl, hr2, hf2, hc2, hl2⟩ := open_Cells (hval 1 _ _ rfl rfl) h1 (fun p hp => hlt p (by simp [hp])) (sized_at hsz (j := 1) rfl rfl)
  exact nullsParts_walk hr hf hl1 hc1 hr2 hf2 hl2

end Go.Proofs.Ytgjllfcnbkennaa
