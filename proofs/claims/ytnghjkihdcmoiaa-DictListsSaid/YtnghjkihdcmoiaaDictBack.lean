/- DictBack returns true whatever comes in, and leaves all that was there as it was. -/
import Derived.Test.YtnghjkihdcmoiaaBun5
import Derived.Test.YtnghjkihdcmoiaaBun4
import Derived.Test.YtnghjkihdcmoiaaBun1
import Derived.Test.YtnghjkihdcmoiaaBun3

namespace Go.Proofs.Ytnghjkihdcmoiaa
open Go.RowKit Go.Hm
theorem dictB_len {t : Int} {l : List CellS} {b : List Nat} (h : dictB t l = some b) : b.length ≤ 50000000000 := by
  unfold dictB at h
  split at h
  · cases h
  · rename_i V hV
    split at h
    · rename_i hl
      injection h with h
      have p1 := (entS_is l).len
      have e1 := entS_le l
      have v1 : V.length ≤ 4300000000 := by rw [← (plO_iff.1 hV).2]; exact plB_len (plO_iff.1 hV).1
      have el := encL_len (ent_words hl) (by omega)
      have a := vp_len10 (n := (entS l).1.length) (by omega)
      have b := vp_len10 (n := V.length) (by omega)
      rw [← h]
      simp only [List.length_append]
      omega
    · cases h
theorem dictB_lt {t : Int} {l : List CellS} {b : List Nat} (hd : ∀ c ∈ l, cellData c) (h : dictB t l = some b) : ∀ x ∈ b, x < 256 := by
  unfold dictB at h
  split at h
  · cases h
  · rename_i V hV
    split at h
    · rename_i hl
      injection h with h
      intro x hx
      rw [← h] at hx
      simp only [List.mem_append] at hx
      rcases hx with ((hx | hx) | hx) | hx
      · exact vp_byteR _ _ (Nat.le_refl _) x hx
      · exact vp_byteR _ _ (Nat.le_refl _) x hx
      · rw [← (plO_iff.1 hV).2] at hx
        unfold plB at hx
        split at hx
        · exact low_lt _ _ x hx
        · obtain ⟨c, hc, hx⟩ := List.mem_flatMap.1 hx
          have hcd := hd c ((entS_mem l c).1 hc)
          unfold plE at hx
          split at hx
          · exact low_lt _ _ x hx
          · split at hx
            · rcases List.mem_append.1 hx with k | k
              · exact vp_byteR _ _ (Nat.le_refl _) x k
              · exact hcd.1.2 x k
            · split at hx
              · rcases List.mem_append.1 hx with k | k
                · exact vp_byteR _ _ (Nat.le_refl _) x k
                · exact vp_byteR _ _ (Nat.le_refl _) x k
              · simp at hx
      · exact encL_byte (ent_words hl) x hx
    · cases h
set_option maxHeartbeats 1000000 in
set_option maxRecDepth 100000 in
theorem dictBack_walk {w : World} {A : Option Addr} {n c : Nat} {t : Int} {L : List CellS} (h : Reads w w.heap.size 5 A n (recs cellV L)) (hL : ∀ y ∈ L, CellFine y) (hn : n ≤ 2932031007317) :
    Calls Try.prog 3 #[.int .i64 t, .slice A n c] w (SmallPost w) := by
  obtain rfl := h.lenCell
  have HR := Lib.hid h
  have HL := Lib.hid hL
  have FW := Lib.hid (fun (W : World) (hW : New w W) => fewP_any (c := c) (Reads.later h hW) (fun y hy => (hL y hy).1.1) (by omega))
  clear h hL
  go_enter Try.func3, Try.ntmps3
  go_wp2_with fail
  refine (small11_any w).mono ?_
  rintro e w1 ⟨rfl, b1⟩
  go_wp2_with fail
  refine (FW.out _ b1).mono ?_
  rintro e w2 ⟨b, rfl, hb, rfl⟩
  cases b with
  | false =>
    go_wp2_with fail
    go_ret
    exact ⟨rfl, b1⟩
  | true =>
    have h300 := hb rfl
    have DE := Lib.hid (dencode_any (t := t) (c := c) (Reads.later HR.out b1) HL.out (by omega))
    have HDL := Lib.hid (fun b (h : dictB t L = some b) => And.intro (dictB_len h) (And.intro (dictB_lt (fun c hc => fineData (HL.out c hc)) h) (fun o (ho : IsDic t b (L.length : Int) o) => ho.compl L (fun c hc => fineData (HL.out c hc)) rfl h)))
    clear hb FW
    generalize dictB t L = O at *
    go_wp2_with fail
    refine DE.out.mono ?_
    intro e w2 h2
    cases O with
    | none =>
      obtain ⟨rfl, b2⟩ := h2
      go_wp2_with fail
      go_ret
      exact ⟨rfl, New.trans b1 b2⟩
    | some B =>
      obtain ⟨A2, n2, c2, rfl, o2, b2⟩ := h2
      obtain ⟨hB1, hB2, hB3⟩ := HDL.out B rfl
      have hn2 : n2 = B.length := by have := o2.len; rwa [nums_length] at this
      have b02 := New.trans b1 b2
      have DD := Lib.hid (ddecode_any (t := t) (n := (L.length : Int)) (c := c2) o2.reads hB2 (by omega) (by omega) (by omega))
      have HB3 := Lib.hid hB3
      clear DE HDL o2 hB1 hB2 hB3 hn2 b1 b2
      go_wp2_with fail
      refine DD.out.mono ?_
      rintro e w3 ⟨o, ho, h3⟩
      obtain rfl := HB3.out o ho
      obtain ⟨A3, n3, c3, rfl, o3, b3⟩ := h3
      have hn3 : n3 = L.length := (Reads.of_own o3).lenCell
      have b03 := New.trans b02 b3
      have RC := rcells_any (c := c3) (c2 := c) (Reads.of_own o3) (Reads.later HR.out b03) (by omega) (by omega) (fun x hx => (HL.out x hx).1.2) (fun x hx => (HL.out x hx).1.2)
      rw [decide_eq_true rfl] at RC
      have RC := Lib.hid RC
      clear DD ho o3 hn3 b3 b02 HB3
      go_wp2_with fail
      refine RC.out.mono ?_
      rintro e w4 ⟨rfl, q, rfl⟩
      go_wp2_with fail
      go_ret
      exact ⟨by simp, New.trans b03 (new_drewN _ _)⟩

set_option maxRecDepth 100000 in
open Go.WideShapes Go.ChangeShapes in
theorem dictBack_contract {H : Type} {enc : TypeId × Value → H} (W : World) (base : Nat) (args : Array Value) (ds : List (DataW H)) (ps : List MemPlace)
    (hval : ∀ (j : Nat) t v, Try.f3.params[j]? = some t → args[j]? = some v → Value.okWide Try.prog W .any base t v)
    (hA : DataW.TrodAll enc Try.prog W 0 (fun _ => true) true Try.f3.params.toList args.toList ds ps) (hlt : ∀ p ∈ ps, p.block < W.heap.size)
    (hsz : (DataW.weightsEach Try.prog Try.f3.params.toList ds).all (· ≤ reachBytes) = true) :
    Calls Try.prog 3 args W fun e W' => e = .returned (.bool true) ∧ Below W.heap.size W W' := by
  rw [Try.params3] at hA hval hsz
  obtain ⟨v0, v1, d0, d1, p0, p1, rfl, rfl, rfl, h0, h1⟩ := trodAll_two hA
  obtain ⟨t, rfl, wt, wt'⟩ := open_i64 (hval 0 _ _ rfl rfl) h0
  -- L: v1 d1 p1 h1, hval 1
  obtain ⟨A1, c1, L, rfl, hr, hf, hc1, hl1⟩ := open_Cells (hval 1 _ _ rfl rfl) h1 (fun p hp => hlt p (by simp [hp])) (sized_at hsz (j := 1) rfl rfl)
  exact dictBack_walk hr hf hl1

end Go.Proofs.Ytnghjkihdcmoiaa
