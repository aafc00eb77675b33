/- TreePlaces returns true whatever comes in, and leaves all that was there as it was. -/
import Derived.Test.YtgfemjpeegbhhaaDoorBun7

namespace Go.Hm
open Go Go.RowKit
theorem u64N_lt (k : Int) : u64N k < 256 ^ 8 := by unfold u64N; omega
theorem u64N_inj {k i : Int} (h1 : -9223372036854775808 ≤ k) (h2 : k ≤ 9223372036854775807) (h3 : -9223372036854775808 ≤ i) (h4 : i ≤ 9223372036854775807) (h : u64N k = u64N i) : k = i := by
  unfold u64N at h
  omega
theorem leafP_inj {k n i m : Int} {d e : List Nat} (h1 : -9223372036854775808 ≤ k ∧ k ≤ 9223372036854775807) (h2 : -9223372036854775808 ≤ n ∧ n ≤ 9223372036854775807) (h3 : -9223372036854775808 ≤ i ∧ i ≤ 9223372036854775807) (h4 : -9223372036854775808 ≤ m ∧ m ≤ 9223372036854775807) (h : leafP k n d = leafP i m e) : k = i ∧ n = m ∧ d = e := by
  unfold leafP at h
  simp only [List.cons.injEq, and_true] at h
  obtain ⟨a, b, c⟩ := h
  have a := congrArg num a
  have b := congrArg num b
  rw [num_low_of_lt (u64N_lt _), num_low_of_lt (u64N_lt _)] at a b
  exact ⟨u64N_inj h1.1 h1.2 h3.1 h3.2 a, u64N_inj h2.1 h2.2 h4.1 h4.2 b, c⟩
theorem leafP_len {k n : Int} {d : List Nat} : ∀ p ∈ leafP k n d, p.length = 8 ∨ p = d := by
  intro p hp
  unfold leafP at hp
  simp only [List.mem_cons, List.not_mem_nil, or_false] at hp
  rcases hp with rfl | rfl | rfl
  · exact .inl (low_len _ _)
  · exact .inl (low_len _ _)
  · exact .inr rfl
theorem frame_leaf {s d : List Nat} {k n : Int} (h1 : 1 ≤ s.length) (h2 : s.length ≤ 200) : frameO s (leafP k n d) = some (frameL s (leafP k n d)) := by unfold frameO; exact if_pos ⟨h1, by omega, by simp [leafP]⟩

end Go.Hm

namespace Go.Proofs.YtgfemjpeegbhhaaDoor
open Go.RowKit Go.Hm
theorem leaf_good {s d : List Nat} {k n : Int} (hs : ∀ x ∈ s, x < 256) (hd : ∀ x ∈ d, x < 256) (hl : d.length ≤ 500) (h1 : 1 ≤ s.length) (h2 : s.length ≤ 200) : GoodF [frameL s (leafP k n d)] := by
  intro f hf
  obtain rfl := List.mem_singleton.1 hf
  exact ⟨frameO_lt hs (leafP_lt hd) (frame_leaf h1 h2), frameO_len (frame_leaf h1 h2) (by simp [tsum, leafP, low_len]; omega)⟩
set_option maxHeartbeats 8000000 in
set_option maxRecDepth 100000 in
theorem treePlaces_walk {w : World} {A B : Option Addr} {c e : Nat} {s t x y : List Nat} {k n i m : Int} (hs8 : ∀ z ∈ s, z < 256) (hsl : s.length ≤ 140737488351232) (ht8 : ∀ z ∈ t, z < 256) (htl : t.length ≤ 140737488351232)
    (hk : -9223372036854775808 ≤ k ∧ k ≤ 9223372036854775807) (hn : -9223372036854775808 ≤ n ∧ n ≤ 9223372036854775807) (hi : -9223372036854775808 ≤ i ∧ i ≤ 9223372036854775807) (hm : -9223372036854775808 ≤ m ∧ m ≤ 9223372036854775807)
    (hx : Reads w w.heap.size 1 A x.length (nums .u8 x)) (hx8 : ∀ z ∈ x, z < 256) (hxc : x.length ≤ c) (hcm : c ≤ 140737488351232) (hy : Reads w w.heap.size 1 B y.length (nums .u8 y)) (hy8 : ∀ z ∈ y, z < 256) (hye : y.length ≤ e) (hem : e ≤ 140737488351232) (hC : ConstIn w) :
    Calls Tryd.prog 6 #[.string (bstr s), .int .i64 k, .int .i64 n, .slice A x.length c, .string (bstr t), .int .i64 i, .int .i64 m, .slice B y.length e] w (SmallPost w) := by
  have SM := Lib.hid (small21_any w hC)
  have HX := Lib.hid hx
  have HY := Lib.hid hy
  have HC := Lib.hid hC
  have S8 := Lib.hid hs8
  have T8 := Lib.hid ht8
  have X8 := Lib.hid hx8
  have Y8 := Lib.hid hy8
  have RG := Lib.hid (And.intro hk (And.intro hn (And.intro hi hm)))
  have z1 := bstr_size s
  have z2 := bstr_size t
  clear hx hy hC hs8 ht8 hx8 hy8 hk hn hi hm
  go_enter Tryd.func6, Tryd.ntmps6
  go_wp2_with fail
  refine SM.out.mono ?_
  rintro e0 w1 ⟨rfl, b1⟩
  have B1 := Lib.hid b1
  clear SM b1
  go_wp2_with fail
  refine new_any.mono ?_
  rintro e0 w2 ⟨rfl, rfl⟩
  go_wp2_with fail
  refine new_any.mono ?_
  rintro e0 w3 ⟨rfl, rfl⟩
  have l1 := (LogOf.made w1 w.heap.size).new (new_alloc2 _ (.cells #[.slice none 0 0] 62))
  have l2 := LogOf.made (w1.alloc (.cells #[.slice none 0 0] 62)) w.heap.size
  have hz : (w1.alloc (.cells #[.slice none 0 0] 62)).heap.size = w1.heap.size + 1 := by simp
  rw [hz] at l2
  obtain ⟨w3, hw3⟩ : ∃ W, W = (w1.alloc (.cells #[.slice none 0 0] 62)).alloc (.cells #[.slice none 0 0] 62) := ⟨_, rfl⟩
  have b3 : New w w3 := by rw [hw3]; exact New.trans B1.out (New.trans (new_alloc2 _ _) (new_alloc2 _ _))
  rw [← hw3] at l1 l2
  rw [← hw3, hz]
  have hgw : w.heap.size ≤ w1.heap.size := B1.out.size
  generalize w1.heap.size = g at *
  have B3 := Lib.hid b3
  have L1 := Lib.hid l1
  have L2 := Lib.hid l2
  clear hw3 hz B1 b3 l1 l2
  obtain ⟨S, hS⟩ : ∃ S, S = bstr s := ⟨_, rfl⟩
  obtain ⟨T, hT⟩ : ∃ T, T = bstr t := ⟨_, rfl⟩
  have BB := bstr_beq S8.out T8.out
  rw [← hS, ← hT] at BB
  have HB := Lib.hid BB
  have HS := Lib.hid hS
  have HT := Lib.hid hT
  rw [← hS] at z1 ⊢
  rw [← hT] at z2 ⊢
  obtain ⟨p, hp⟩ : ∃ p, p = s.length := ⟨_, rfl⟩
  obtain ⟨q, hq⟩ : ∃ q, q = t.length := ⟨_, rfl⟩
  have HP := Lib.hid hp
  have HQ := Lib.hid hq
  rw [← hp] at z1 hsl
  rw [← hq] at z2 htl
  clear hS hT BB hp hq
  by_cases a1 : p < 1
  · have e1 : decide ((p : Int) < 1) = true := by simp; omega
    have e2 : decide (p = 0) = true := by simp; omega
    go_wp2
    go_ret
    exact ⟨rfl, B3.out⟩
  have e1 : decide ((p : Int) < 1) = false := by simp; omega
  have e2 : decide (p = 0) = false := by simp; omega
  by_cases a2 : 200 < p
  · have e3 : decide ((200 : Int) < (p : Int)) = true := by simp; omega
    go_wp2
    go_ret
    exact ⟨rfl, B3.out⟩
  have e3 : decide ((200 : Int) < (p : Int)) = false := by simp; omega
  by_cases a3 : q < 1
  · have e4 : decide ((q : Int) < 1) = true := by simp; omega
    have e5 : decide (q = 0) = true := by simp; omega
    go_wp2
    go_ret
    exact ⟨rfl, B3.out⟩
  have e4 : decide ((q : Int) < 1) = false := by simp; omega
  have e5 : decide (q = 0) = false := by simp; omega
  by_cases a4 : 200 < q
  · have e6 : decide ((200 : Int) < (q : Int)) = true := by simp; omega
    go_wp2
    go_ret
    exact ⟨rfl, B3.out⟩
  have e6 : decide ((200 : Int) < (q : Int)) = false := by simp; omega
  by_cases a5 : 500 < x.length
  · have e7 : decide ((500 : Int) < (x.length : Int)) = true := by simp; omega
    go_wp2
    go_ret
    exact ⟨rfl, B3.out⟩
  have e7 : decide ((500 : Int) < (x.length : Int)) = false := by simp; omega
  by_cases a6 : 500 < y.length
  · have e8 : decide ((500 : Int) < (y.length : Int)) = true := by simp; omega
    go_wp2
    go_ret
    exact ⟨rfl, B3.out⟩
  have e8 : decide ((500 : Int) < (y.length : Int)) = false := by simp; omega
  have own := L1.out.own (B := w.heap.size) (Nat.le_refl _) hgw
  have own2 := L2.out.own (B := w.heap.size) (Nat.le_refl _) (by omega)
  have RT := leaf_any (k := k) (n := n) L1.out B3.out.size (by simp) S8.out (by rw [← HP.out]; omega) (Reads.later HX.out B3.out) X8.out (by omega) hxc (by omega) (fun w' u => HC.out.turn2 B3.out u own)
  rw [dV_hash, frame_leaf (by rw [← HP.out]; omega) (by rw [← HP.out]; omega), ← HS.out] at RT
  obtain ⟨ca, ea, ia, za, oa, -⟩ := dV_agg (hashN_dig s (leafP k n x))
  obtain ⟨cb, eb, ib, zb, ob, -⟩ := dV_agg (hashN_dig t (leafP i m y))
  have EQ := fun W => eqDV (hashN_dig s (leafP k n x)) (hashN_dig t (leafP i m y)) W
  rw [ea, eb] at EQ
  replace EQ := Lib.hid EQ
  rw [ea] at RT
  replace RT := Lib.hid RT
  have EB := Lib.hid eb
  have Ia := Lib.hid ia
  have Za := Lib.hid za
  have Oa := Lib.hid oa
  have Ib := Lib.hid ib
  have Zb := Lib.hid zb
  have Ob := Lib.hid ob
  have OWN := Lib.hid own
  have OWN2 := Lib.hid own2
  clear own own2 ea eb ia za oa ib zb ob
  go_wp2_with fail
  (with_reducible refine RT.out.mono ?_)
  rintro e0 w4 ⟨rfl, V4, l4, _, t4⟩
  have l4 : LogOf tL w4 w.heap.size g V4 [frameL s (leafP k n x)] := l4
  have m4 := L2.out.beside (by decide) (by decide) (by decide) L1.out (by omega) (by simp [rowT, Value.ownBlock]) t4
  have b4 := Turns.below B3.out t4 OWN.out (Nat.le_refl _)
  have B4 := Lib.hid b4
  have L4 := Lib.hid l4
  have M4 := Lib.hid m4
  clear RT l4 m4 b4 t4 L1 L2 B3 e1 e2 e3 e4 e5 e6 e7 e8
  go_wp2_with (refine wpList_store_row rfl 32 (.tmp 20) (.tmp 79) rfl w4.heap.size ca rfl rfl _ _ (heap_alloc_new _ _) Ia.out Za.out Oa.out ?_; rw [alloc_setRow])
  obtain ⟨w5, hw5⟩ : ∃ W, W = w4.alloc (.cells ca 32) := ⟨_, rfl⟩
  have n5 : New w4 w5 := by rw [hw5]; exact new_alloc2 _ _
  have GA := Lib.hid (show Blk w5 w4.heap.size 32 ca by rw [hw5]; exact Blk.new _ _ _)
  rw [← hw5]
  generalize w4.heap.size = ba at *
  have L5 := Lib.hid (L4.out.new n5)
  have M5 := Lib.hid (M4.out.new n5)
  have B5 := Lib.hid (New.trans B4.out n5)
  have RT := leaf_any (k := i) (n := m) M5.out B5.out.size (by simp) T8.out (by rw [← HQ.out]; omega) (Reads.later HY.out B5.out) Y8.out (by omega) hye (by omega) (fun w' u => HC.out.turn2 B5.out u OWN2.out)
  rw [dV_hash, frame_leaf (by rw [← HQ.out]; omega) (by rw [← HQ.out]; omega), EB.out, ← HT.out] at RT
  replace RT := Lib.hid RT
  clear hw5 n5 L4 M4 B4
  (with_reducible refine RT.out.mono ?_)
  rintro e0 w6 ⟨rfl, V6, m6, _, t6⟩
  have m6 : LogOf tL w6 w.heap.size (g + 1) V6 [frameL t (leafP i m y)] := m6
  have l6 := L5.out.beside (by decide) (by decide) (by decide) M5.out (by omega) (by simp [rowT, Value.ownBlock]) t6
  have b6 := Turns.below B5.out t6 OWN2.out (Nat.le_refl _)
  have ga6 := GA.out.touch t6 (M5.out.notT GA.out (by decide) (by decide))
  have B6 := Lib.hid b6
  have L6 := Lib.hid l6
  have M6 := Lib.hid m6
  have GA6 := Lib.hid ga6
  clear RT l6 m6 b6 t6 ga6 L5 M5 B5 GA
  go_upto_region 8 with (refine wpList_store_row rfl 32 (.tmp 21) (.tmp 85) rfl w6.heap.size cb rfl rfl _ _ (heap_alloc_new _ _) Ib.out Zb.out Ob.out ?_; rw [alloc_setRow])
  obtain ⟨w7, hw7⟩ : ∃ W, W = w6.alloc (.cells cb 32) := ⟨_, rfl⟩
  have n7 : New w6 w7 := by rw [hw7]; exact new_alloc2 _ _
  have GB := Lib.hid (show Blk w7 w6.heap.size 32 cb by rw [hw7]; exact Blk.new _ _ _)
  rw [← hw7]
  generalize w6.heap.size = bb at *
  have GA := Lib.hid (GA6.out.below n7 GA6.out.lt)
  have L7 := Lib.hid (L6.out.new n7)
  have M7 := Lib.hid (M6.out.new n7)
  have B7 := Lib.hid (New.trans B6.out n7)
  clear hw7 n7 L6 M6 B6 GA6 OWN OWN2 Za Zb Oa Ob
  have st1 := run_str (P := Tryd.prog) (c := c) (src := 22) (dst := 9) (e := 5) (by kernel_rfl) (by kernel_rfl) (by kernel_rfl) (Reads.later HX.out B7.out)
  have st2 := run_str (P := Tryd.prog) (c := e) (src := 22) (dst := 9) (e := 5) (by kernel_rfl) (by kernel_rfl) (by kernel_rfl) (Reads.later HY.out B7.out)
  have XY := bstr_beq X8.out Y8.out
  generalize bstr x = sx at *
  generalize bstr y = sy at *
  have XY := Lib.hid XY
  obtain ⟨sm, hsm⟩ : ∃ sm, sm = decide (s = t ∧ k = i ∧ n = m ∧ x = y) := ⟨_, rfl⟩
  have HSM := Lib.hid hsm
  clear hsm
  simp only [Act.put]
  go_cut [22] (fun s22 wx => s22 = .bool sm ∧ wx = w7)
  case first =>
    have q1 := HB.out
    have q4 := XY.out
    by_cases c1 : s = t
    rotate_left
    · rw [decide_eq_false c1] at q1
      have hs0 : sm = false := by rw [HSM.out]; exact decide_eq_false (fun h => c1 h.1)
      subst hs0
      clear c1
      go_wp2_with fail
      go_meet
      exact ⟨rfl, rfl⟩
    rw [decide_eq_true c1] at q1
    by_cases c2 : k = i
    rotate_left
    · have q2 : (k == i) = false := beq_eq_false_iff_ne.2 c2
      have hs0 : sm = false := by rw [HSM.out]; exact decide_eq_false (fun h => c2 h.2.1)
      subst hs0
      clear c1 c2
      go_wp2_with fail
      go_meet
      exact ⟨rfl, rfl⟩
    have q2 : (k == i) = true := beq_iff_eq.2 c2
    by_cases c3 : n = m
    rotate_left
    · have q3 : (n == m) = false := beq_eq_false_iff_ne.2 c3
      have hs0 : sm = false := by rw [HSM.out]; exact decide_eq_false (fun h => c3 h.2.2.1)
      subst hs0
      clear c1 c2 c3
      go_wp2_with fail
      go_meet
      exact ⟨rfl, rfl⟩
    have q3 : (n == m) = true := beq_iff_eq.2 c3
    have hs0 : sm = decide (x = y) := by rw [HSM.out]; simp [c1, c2, c3]
    rw [← hs0] at q4
    have HS0 := Lib.hid hs0
    clear c1 c2 c3 hs0 HSM
    go_wp2_with fail
    go_meet
    exact ⟨by simp [HS0.out], rfl⟩
  case rest =>
    obtain ⟨rfl, rfl⟩ := hcut
    have FA := frame_apart (s := s) (t := t) (L := leafP k n x) (M := leafP i m y) (by intro z hz; rcases leafP_len z hz with h | rfl <;> omega) (by intro z hz; rcases leafP_len z hz with h | rfl <;> omega) (frame_leaf (by rw [← HP.out]; omega) (by rw [← HP.out]; omega)) (frame_leaf (by rw [← HQ.out]; omega) (by rw [← HQ.out]; omega))
    have GF := leaf_good (k := k) (n := n) S8.out X8.out (by omega) (by rw [← HP.out]; omega) (by rw [← HP.out]; omega)
    have GE := leaf_good (k := i) (n := m) T8.out Y8.out (by omega) (by rw [← HQ.out]; omega) (by rw [← HQ.out]; omega)
    have fs := frame_leaf (s := s) (d := x) (k := k) (n := n) (by rw [← HP.out]; omega) (by rw [← HP.out]; omega)
    have ft := frame_leaf (s := t) (d := y) (k := i) (n := m) (by rw [← HQ.out]; omega) (by rw [← HQ.out]; omega)
    have EX := Lib.hid (lextract_any L7.out M7.out (by simp) (by simp) GF GE (HC.out.new B7.out))
    have NS := Lib.hid (fun (h : sm = false) (h2 : hashN s (leafP k n x) = hashN t (leafP i m y)) => show ∃ z, extractO [frameL s (leafP k n x)] [frameL t (leafP i m y)] = some z by
      have hf : frameL s (leafP k n x) ≠ frameL t (leafP i m y) := fun hf => by
        have := FA.1 hf
        obtain ⟨r1, r2, r3⟩ := leafP_inj RG.out.1 RG.out.2.1 RG.out.2.2.1 RG.out.2.2.2 this.2
        have h3 := HSM.out
        rw [h] at h3
        exact absurd (decide_eq_true (show s = t ∧ k = i ∧ n = m ∧ x = y from ⟨this.1, r1, r2, r3⟩)) (by rw [← h3]; simp)
      have hh := hashN_inj h2
      unfold hashO at hh
      rw [fs, ft] at hh
      exact extractO_some (List.mem_singleton.2 rfl) (List.mem_singleton.2 rfl) hf hh)
    have SA := Lib.hid (fun (h : sm = true) => show hashN s (leafP k n x) = hashN t (leafP i m y) by
      have h3 := HSM.out
      rw [h] at h3
      obtain ⟨r1, r2, r3, r4⟩ := of_decide_eq_true h3.symm
      rw [r1, r2, r3, r4])
    clear FA GF GE fs ft st1 st2
    generalize extractO [frameL s (leafP k n x)] [frameL t (leafP i m y)] = o at *
    go_wp2_with fail
    refine EX.out.mono ?_
    rintro e0 w9 hx
    obtain ⟨A1, n1, c1, A2, n2, c2, rfl, _, _, _, _, b9⟩ := hx
    have B9 := Lib.hid (New.trans B7.out b9)
    have GA9 := Lib.hid (GA.out.below b9 GA.out.lt)
    have GB9 := Lib.hid (GB.out.below b9 GB.out.lt)
    have EQ2 := fun W => run_neq_agg (EQ.out W)
    have EQ1 := EQ.out
    obtain ⟨ab, hab⟩ : ∃ ab, ab = decide (hashN s (leafP k n x) = hashN t (leafP i m y)) := ⟨_, rfl⟩
    rw [← hab] at EQ1 EQ2
    have HAB := Lib.hid hab
    clear hab b9 EX
    cases sm with
    | true =>
      have hab : ab = true := by rw [HAB.out]; exact decide_eq_true (SA.out rfl)
      subst hab
      generalize o.isSome = os at *
      go_wp2_with (first
        | (refine wpList_loadD rfl (.tmp 20) rfl ba ca rfl GA9.out Ia.out ?_)
        | (refine wpList_loadD rfl (.tmp 21) rfl bb cb rfl GB9.out Ib.out ?_))
      go_ret
      exact ⟨by simp, B9.out⟩
    | false =>
      cases ab with
      | true =>
        obtain ⟨z, rfl⟩ := NS.out rfl (of_decide_eq_true HAB.out.symm)
        go_wp2_with (first
          | (refine wpList_loadD rfl (.tmp 20) rfl ba ca rfl GA9.out Ia.out ?_)
          | (refine wpList_loadD rfl (.tmp 21) rfl bb cb rfl GB9.out Ib.out ?_))
        go_ret
        exact ⟨by simp, B9.out⟩
      | false =>
        generalize o.isSome = os at *
        go_wp2_with (first
          | (refine wpList_loadD rfl (.tmp 20) rfl ba ca rfl GA9.out Ia.out ?_)
          | (refine wpList_loadD rfl (.tmp 21) rfl bb cb rfl GB9.out Ib.out ?_))
        go_ret
        exact ⟨by simp, B9.out⟩

set_option maxRecDepth 100000 in
open Go.WideShapes Go.ChangeShapes in
theorem treePlaces_contract {H : Type} {enc : TypeId × Value → H} (W : World) (base : Nat) (args : Array Value) (ds : List (DataW H)) (ps : List MemPlace)
    (hval : ∀ (j : Nat) t v, Tryd.f6.params[j]? = some t → args[j]? = some v → Value.okWide Tryd.prog W .any base t v)
    (hA : DataW.TrodAll enc Tryd.prog W 0 (fun _ => true) true Tryd.f6.params.toList args.toList ds ps) (hlt : ∀ p ∈ ps, p.block < W.heap.size)
    (hsz : (DataW.weightsEach Tryd.prog Tryd.f6.params.toList ds).all (· ≤ reachBytes) = true) (hL : laidMetH Tryd.prog laidC W) :
    Calls Tryd.prog 6 args W fun e W' => e = .returned (.bool true) ∧ Below W.heap.size W W' := by
  rw [Tryd.params6] at hA hval hsz
  obtain ⟨v0, v1, v2, v3, v4, v5, v6, v7, d0, d1, d2, d3, d4, d5, d6, d7, p0, p1, p2, p3, p4, p5, p6, p7, rfl, rfl, rfl, h0, h1, h2, h3, h4, h5, h6, h7⟩ := trodAll_eight hA
  obtain ⟨kind, rfl, h8_kind, hl_kind⟩ := open_s (hval 0 _ _ rfl rfl) h0 (fun p hp => hlt p (by simp [hp])) (sized_at hsz (j := 0) rfl rfl)
  obtain ⟨k, rfl, wk, wk'⟩ := open_i64 (hval 1 _ _ rfl rfl) h1
  obtain ⟨n, rfl, wn, wn'⟩ := open_i64 (hval 2 _ _ rfl rfl) h2
  obtain ⟨A_data, c_data, data, rfl, hc_data, hm_data, hr_data, hl_data⟩ := open_B (hval 3 _ _ rfl rfl) h3 (fun p hp => hlt p (by simp [hp])) (sized_at hsz (j := 3) rfl rfl)
  obtain ⟨other, rfl, h8_other, hl_other⟩ := open_s (hval 4 _ _ rfl rfl) h4 (fun p hp => hlt p (by simp [hp])) (sized_at hsz (j := 4) rfl rfl)
  obtain ⟨i, rfl, wi, wi'⟩ := open_i64 (hval 5 _ _ rfl rfl) h5
  obtain ⟨m, rfl, wm, wm'⟩ := open_i64 (hval 6 _ _ rfl rfl) h6
  obtain ⟨A_more, c_more, more, rfl, hc_more, hm_more, hr_more, hl_more⟩ := open_B (hval 7 _ _ rfl rfl) h7 (fun p hp => hlt p (by simp [hp])) (sized_at hsz (j := 7) rfl rfl)
  exact treePlaces_walk h8_kind hl_kind h8_other hl_other ⟨wk, wk'⟩ ⟨wn, wn'⟩ ⟨wi, wi'⟩ ⟨wm, wm'⟩ hr_data hl_data hc_data hm_data hr_more hl_more hc_more hm_more (const_of_laid hL)

end Go.Proofs.YtgfemjpeegbhhaaDoor
