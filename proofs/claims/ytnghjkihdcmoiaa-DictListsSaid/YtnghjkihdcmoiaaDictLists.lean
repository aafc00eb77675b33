/- DictLists returns true whatever comes in, and leaves all that was there as it was. -/
import Derived.Test.YtnghjkihdcmoiaaDictOnce

namespace Go.Hm
theorem ordL_next {l : List Nat} {m k j : Nat} (h : ordL l = some m) (hk : k < l.length) (hj : ordL (l.take k) = some j) : l.getD k 0 ≤ j ∧ ordL (l.take (k + 1)) = some (if l.getD k 0 = j then j + 1 else j) := by
  have hle : l.getD k 0 ≤ j := by
    apply Classical.byContradiction
    intro hn
    have := ordL_bad hj hk (by omega)
    rw [h] at this
    cases this
  refine ⟨hle, ?_⟩
  rw [take_snoc l k 0 hk, ordL_snoc, hj]
  unfold ordStep
  dsimp only
  rw [if_neg (by omega)]
  split <;> rfl
theorem getD_map (P : List Nat) (E : List CellS) {k : Nat} (hk : k < P.length) : (P.map fun p => E.getD p cellZ).getD k cellZ = E.getD (P.getD k 0) cellZ := by
  rw [List.getD_eq_getElem?_getD, List.getElem?_map, List.getElem?_eq_getElem hk, List.getD_eq_getElem?_getD (l := P), List.getElem?_eq_getElem hk]
  rfl
theorem nodup_ne {E : List CellS} (h : E.Nodup) {i k : Nat} (hi : i < E.length) (hk : k < i) : E.getD i cellZ ≠ E.getD k cellZ := by
  rw [List.getD_eq_getElem?_getD, List.getElem?_eq_getElem hi, List.getD_eq_getElem?_getD, List.getElem?_eq_getElem (by omega)]
  exact fun e => (List.pairwise_iff_getElem.1 h) k i (by omega) hi hk e.symm

end Go.Hm

namespace Go.Proofs.Ytnghjkihdcmoiaa
open Go.RowKit Go.Hm
theorem neqCell_same {b : Bool} {n x y : Int} {s : List Nat} (hs : ∀ z ∈ s, z < 256) (W : World) : (binOp .neq 40 (.agg #[.bool b, .int .i64 n, .string (bstr s), .int .i64 x, .int .i64 y]) (.agg #[.bool b, .int .i64 n, .string (bstr s), .int .i64 x, .int .i64 y])).run Try.prog W = .ok (.bool false) W := by
  have QN := neqCell (b := b) (b' := b) (n := n) (n' := n) (s := bstr s) (s' := bstr s) (x := x) (x' := x) (y := y) (y' := y) W
  have NE := cell_bne (x := (b, n, s, x, y)) (y := (b, n, s, x, y)) hs hs
  simp only at NE
  rw [NE] at QN
  simpa using QN
theorem eqlCell_ne {a d : CellS} (ha : ∀ z ∈ a.2.2.1, z < 256) (hd : ∀ z ∈ d.2.2.1, z < 256) (hne : a ≠ d) (W : World) : (binOp .eql 40 (.agg #[.bool a.1, .int .i64 a.2.1, .string (bstr a.2.2.1), .int .i64 a.2.2.2.1, .int .i64 a.2.2.2.2]) (.agg #[.bool d.1, .int .i64 d.2.1, .string (bstr d.2.2.1), .int .i64 d.2.2.2.1, .int .i64 d.2.2.2.2])).run Try.prog W = .ok (.bool false) W := by
  have NE := cell_bne ha hd
  rw [decide_eq_true hne] at NE
  obtain ⟨a1, a2, a3, a4, a5⟩ := a
  obtain ⟨d1, d2, d3, d4, d5⟩ := d
  dsimp only at NE ⊢
  go_simp
  simp at NE
  intro h1 h2 h3 h4 h5
  rcases NE with (((h | h) | h) | h) | h <;> contradiction
set_option maxHeartbeats 2000000 in
set_option maxRecDepth 100000 in
theorem dictLists_walk {w : World} {A : Option Addr} {n c : Nat} {L : List CellS} (h : Reads w w.heap.size 5 A n (recs cellV L)) (hL : ∀ y ∈ L, CellFine y) (hn : n ≤ 2932031007317) :
    Calls Try.prog 5 #[.slice A n c] w (SmallPost w) := by
  obtain rfl := h.lenCell
  have HR := Lib.hid h
  have HL := Lib.hid hL
  have FW := Lib.hid (fun (W : World) (hW : New w W) => fewP_any (c := c) (Reads.later h hW) (fun y hy => (hL y hy).1.1) (by omega))
  clear h hL
  go_enter Try.func5, Try.ntmps5
  go_wp2_with fail
  refine (small11_any w).mono ?_
  rintro e w1 ⟨rfl, b1⟩
  go_wp2_with fail
  refine (FW.out _ b1).mono ?_
  rintro e w2 ⟨b, rfl, hb, rfl⟩
  cases b with
  | false =>
    go_wp2_with fail
    go_ret
    exact ⟨rfl, b1⟩
  | true =>
    have h300 := hb rfl
    have EN := Lib.hid (entries_any (c := c) (Reads.later HR.out b1) HL.out (by omega))
    have hI := entS_is L
    have hle := entS_le L
    have hmem := entS_mem L
    unfold EntPost at EN
    clear hb FW
    generalize (entS L).1 = E at *
    generalize (entS L).2 = P at *
    go_wp2_with fail
    refine EN.out.mono ?_
    rintro e w2 ⟨A1, n1, c1, A2, c2, rfl, o1, o2, b2⟩
    have hn1 : n1 = E.length := (Reads.of_own o1).lenCell
    have b02 := New.trans b1 b2
    have RE := Lib.hid (Reads.of_own o1)
    have RP := Lib.hid o2.reads
    have RL := Lib.hid (Reads.later HR.out b02)
    have hPL : P.length = L.length := hI.len
    have hn1b : n1 ≤ 300 := by omega
    have HN1 := Lib.hid hn1
    have HPL := Lib.hid hPL
    have HI := Lib.hid hI
    have HEF : Hid (∀ y ∈ E, CellFine y) := Lib.hid fun y hy => HL.out y ((hmem y).1 hy)
    clear EN o1 o2 b1 b2 hn1 hPL hI hle hmem HR
    have hw1 : IntKind.u64.wrap (n1 : Int) = (n1 : Int) := by rw [IntKind.wrap_u64]; omega
    go_wp2_with fail
    go_loopw [7, 8] (fun v i wr => ∃ k j q : Nat, k ≤ L.length ∧ i = .int .i64 (k : Int) ∧ v = .int .u64 (j : Int) ∧ wr = w2.drewN q ∧ Hid (ordL (P.take k) = some j)) (fun _ i _ => L.length - (intOf i).toNat)
    case atStart => exact ⟨0, 0, 0, Nat.zero_le _, rfl, rfl, rfl, Lib.hid (by simp [ordL])⟩
    case round =>
      obtain ⟨k, j, q, hk, rfl, rfl, rfl, H⟩ := hrel
      by_cases hlt : k < L.length
      · have hltP : k < P.length := by rw [HPL.out]; exact hlt
        obtain ⟨hxj, hnx⟩ := ordL_next HI.out.ord hltP H.out
        have hxE : P.getD k 0 < n1 := by
          rw [HN1.out]
          exact HI.out.lt _ (by rw [List.getD_eq_getElem?_getD, List.getElem?_eq_getElem hltP]; exact List.getElem_mem _)
        have hjl := ordL_le _ _ H.out
        rw [List.length_take] at hjl
        have hj : j ≤ 300 := by omega
        have hyE : L.getD k cellZ = E.getD (P.getD k 0) cellZ := by
          have := getD_map P E hltP
          rw [HI.out.map] at this
          exact this
        obtain ⟨ap, eap, _, p0⟩ := RP.out.num (i := k) hlt
        obtain ⟨ae, eae, _, e0, e1, e2, e3, e4⟩ := RE.out.cell5 (i := P.getD k 0) hxE
        obtain ⟨al, eal, _, l0, l1, l2, l3, l4⟩ := RL.out.cell5 (i := k) hlt
        have hys := (HL.out _ (mem_getDC cellZ hlt)).1.2
        subst eap eae eal
        have HX := Lib.hid hnx
        clear hjl hnx H
        generalize P.getD k 0 = x at *
        rw [← hyE] at e0 e1 e2 e3 e4
        clear hyE
        generalize L.getD k cellZ = y at *
        obtain ⟨y0, y1, y2, y3, y4⟩ := y
        dsimp only at e0 e1 e2 e3 e4 l0 l1 l2 l3 l4 hys
        have QN := fun W => neqCell_same (b := y0) (n := y1) (x := y3) (y := y4) hys W
        have t1 : decide ((j : Int) < (x : Int)) = false := decide_eq_false (by omega)
        have t1' : decide (j < x) = false := decide_eq_false (by omega)
        have t2 : decide ((n1 : Int) ≤ (x : Int)) = false := decide_eq_false (by omega)
        have t2' : decide (n1 ≤ x) = false := decide_eq_false (by omega)
        have hw2 : IntKind.u64.wrap ((j : Int) + 1) = ((j + 1 : Nat) : Int) := by rw [IntKind.wrap_u64]; omega
        go_wp2
        go_quiet (fail)
        by_cases hxe : x = j
        · subst hxe
          have HX2 := HX.out
          rw [if_pos rfl] at HX2
          have HX2 := Lib.hid HX2
          clear HX
          go_wp2
          go_roundw
          case rel => exact ⟨k + 1, x + 1, _, by omega, by go_num, by go_num, rfl, HX2⟩
          case measure => simp [intOf]; omega
        · have HX2 := HX.out
          rw [if_neg hxe] at HX2
          have HX2 := Lib.hid HX2
          have t3 : ((x : Int) == (j : Int)) = false := beq_eq_false_iff_ne.2 (by omega)
          clear HX
          go_wp2
          go_roundw
          case rel => exact ⟨k + 1, j, _, by omega, by go_num, rfl, rfl, HX2⟩
          case measure => simp [intOf]; omega
      · obtain rfl : k = L.length := by omega
        have hj : j = n1 := by
          have := H.out
          rw [← HPL.out, List.take_length, HI.out.ord] at this
          injection this with this
          rw [HN1.out]; exact this.symm
        clear H
        subst hj
        go_wp2_with fail
        go_loopw [9] (fun i wr => ∃ k r : Nat, k ≤ j ∧ i = .int .i64 (k : Int) ∧ wr = w2.drewN r) (fun i _ => j - (intOf i).toNat)
        case atStart => exact ⟨0, q, Nat.zero_le _, rfl, rfl⟩
        case round =>
          obtain ⟨k, r, hk, rfl, rfl⟩ := hrel
          by_cases hlt : k < j
          · go_wp2_with fail
            go_loopw [10] (fun i wr => ∃ m r : Nat, m ≤ k ∧ i = .int .i64 (m : Int) ∧ wr = w2.drewN r) (fun i _ => k - (intOf i).toNat)
            case atStart => exact ⟨0, r, Nat.zero_le _, rfl, rfl⟩
            case round =>
              obtain ⟨m, r', hm, rfl, rfl⟩ := hrel
              by_cases hlm : m < k
              · have hmj : m < j := by omega
                have hne := nodup_ne HI.out.nodup (i := k) (k := m) (by rw [← HN1.out]; exact hlt) hlm
                obtain ⟨ae, eae, _, e0, e1, e2, e3, e4⟩ := RE.out.cell5 (i := k) hlt
                obtain ⟨af, eaf, _, f0, f1, f2, f3, f4⟩ := RE.out.cell5 (i := m) hmj
                rw [eae] at eaf
                injection eaf with eaf
                subst eaf
                subst eae
                have hb1 := (HEF.out _ (mem_getDC cellZ (by rw [← HN1.out]; exact hlt) : E.getD k cellZ ∈ E)).1.2
                have hb2 := (HEF.out _ (mem_getDC cellZ (by rw [← HN1.out]; exact hmj) : E.getD m cellZ ∈ E)).1.2
                have QE := fun W => eqlCell_ne hb1 hb2 hne W
                generalize E.getD k cellZ = y at *
                generalize E.getD m cellZ = z at *
                obtain ⟨y0, y1, y2, y3, y4⟩ := y
                obtain ⟨z0, z1, z2, z3, z4⟩ := z
                dsimp only at e0 e1 e2 e3 e4 f0 f1 f2 f3 f4 QE
                clear hb1 hb2 hne
                go_wp2
                go_quiet (fail)
                go_wp2
                go_roundw
                case rel => exact ⟨m + 1, _, by omega, by go_num, rfl⟩
                case measure => simp [intOf]; omega
              · obtain rfl : m = k := by omega
                go_wp2
                go_roundw
                case rel => exact ⟨m + 1, _, by omega, by go_num, rfl⟩
                case measure => simp [intOf]; omega
          · obtain rfl : k = j := by omega
            go_wp2
            go_ret
            exact ⟨by simp, New.trans b02 (new_drewN _ _)⟩

set_option maxRecDepth 100000 in
open Go.WideShapes Go.ChangeShapes in
theorem dictLists_contract {H : Type} {enc : TypeId × Value → H} (W : World) (base : Nat) (args : Array Value) (ds : List (DataW H)) (ps : List MemPlace)
    (hval : ∀ (j : Nat) t v, Try.f5.params[j]? = some t → args[j]? = some v → Value.okWide Try.prog W .any base t v)
    (hA : DataW.TrodAll enc Try.prog W 0 (fun _ => true) true Try.f5.params.toList args.toList ds ps) (hlt : ∀ p ∈ ps, p.block < W.heap.size)
    (hsz : (DataW.weightsEach Try.prog Try.f5.params.toList ds).all (· ≤ reachBytes) = true) :
    Calls Try.prog 5 args W fun e W' => e = .returned (.bool true) ∧ Below W.heap.size W W' := by
  rw [Try.params5] at hA hval hsz
  obtain ⟨v0, d0, rfl, rfl, h0⟩ := trodAll_one hA
  -- L: v0 d0 p0 h0, hval 0
  obtain ⟨A1, c1, L, rfl, hr, hf, hc1, hl1⟩ := open_Cells (hval 0 _ _ rfl rfl) h0 (fun p hp => hlt p (by simp [hp])) (sized_at hsz (j := 0) rfl rfl)
  exact dictLists_walk hr hf hl1

end Go.Proofs.Ytnghjkihdcmoiaa
