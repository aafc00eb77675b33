/- DictOnce returns true whatever comes in, and leaves all that was there as it was. -/
import Derived.Test.YtnghjkihdcmoiaaDictBack

namespace Go.Proofs.Ytnghjkihdcmoiaa
open Go.RowKit Go.Hm
/-- Cells that are laid are fine. -/
theorem dictB_fine {t : Int} {l : List CellS} {b : List Nat} (hd : ∀ c ∈ l, cellData c) (h : dictB t l = some b) : ∀ c ∈ l, CellFine c := by
  unfold dictB at h
  split at h
  · cases h
  · rename_i V hV
    have := fineOf (fun c hc => hd c ((entS_mem l c).1 hc)) hV
    exact fun c hc => this c ((entS_mem l c).2 hc)
theorem dictB_few {t : Int} {l : List CellS} {b : List Nat} (h : dictB t l = some b) : l.length ≤ 65536 := by
  unfold dictB at h
  split at h
  · cases h
  · split at h
    · rename_i hl; exact hl
    · cases h
set_option maxHeartbeats 1000000 in
set_option maxRecDepth 100000 in
theorem dictOnce_walk {w : World} {A : Option Addr} {m c : Nat} {t n : Int} {b : List Nat} (h : Reads w w.heap.size 1 A m (nums .u8 b)) (h8 : ∀ x ∈ b, x < 256) (hm : m ≤ 600) (hn0 : -9223372036854775808 ≤ n) (hn : n ≤ 1500) :
    Calls Try.prog 4 #[.int .i64 t, .slice A m c, .int .i64 n] w (SmallPost w) := by
  obtain rfl : m = b.length := h.len
  have HR := Lib.hid h
  have DD := Lib.hid (fun (W : World) (hW : New w W) => ddecode_any (t := t) (n := n) (c := c) (Reads.later h hW) h8 (by omega) hn0 (by omega))
  have d1 : decide (600 < (b.length : Int)) = false := by simp; omega
  have d2 : decide (1500 < n) = false := by simp; omega
  clear h h8
  go_enter Try.func4, Try.ntmps4
  go_wp2_with fail
  refine (small11_any w).mono ?_
  rintro e w1 ⟨rfl, b1⟩
  go_wp2_with fail
  refine (DD.out _ b1).mono ?_
  rintro e w2 ⟨o, ho, h2⟩
  cases o with
  | none =>
    obtain ⟨rfl, b2⟩ := h2
    go_wp2_with fail
    go_ret
    exact ⟨rfl, New.trans b1 b2⟩
  | some l =>
    obtain ⟨A2, n2, c2, rfl, o2, b2⟩ := h2
    obtain ⟨e1, e2, e3⟩ := ho.sound l rfl
    have hl2 : n2 = l.length := (Reads.of_own o2).lenCell
    have b02 := New.trans b1 b2
    have DE := dencode_any (t := t) (c := c2) (Reads.of_own o2) (dictB_fine e3 e2) (by have := dictB_few e2; omega)
    rw [e2] at DE
    have DE := Lib.hid DE
    obtain rfl : n = (n2 : Int) := by omega
    clear DD ho o2 e1 e2 e3 hl2 b1 b2
    go_wp2_with fail
    refine DE.out.mono ?_
    rintro e w3 ⟨A3, n3, c3, rfl, k3, b3⟩
    have b03 := New.trans b02 b3
    have S1 := run_strB (c := c) (Reads.later HR.out b03)
    have S2 := run_strB (c := c3) k3.reads
    clear DE
    go_wp2_with fail
    go_ret
    exact ⟨by simp, b03⟩
set_option maxHeartbeats 400000 in
theorem dictOnce_big {w : World} {A : Option Addr} {m c : Nat} {t n : Int} (hm : m ≤ 9223372036854775807) (hb : 600 < m ∨ 1500 < n) :
    Calls Try.prog 4 #[.int .i64 t, .slice A m c, .int .i64 n] w (SmallPost w) := by
  by_cases h1 : 600 < m
  all_goals try (have h3 : 1500 < n := by omega)
  all_goals
    clear hb
    go_enter Try.func4, Try.ntmps4
    go_wp2_with (go_at_call 6; refine (small11_any w).mono ?_; rintro e w1 ⟨rfl, b1⟩)
    go_ret
    exact ⟨rfl, b1⟩

set_option maxRecDepth 100000 in
open Go.WideShapes Go.ChangeShapes in
theorem dictOnce_contract {H : Type} {enc : TypeId × Value → H} (W : World) (base : Nat) (args : Array Value) (ds : List (DataW H)) (ps : List MemPlace)
    (hval : ∀ (j : Nat) t v, Try.f4.params[j]? = some t → args[j]? = some v → Value.okWide Try.prog W .any base t v)
    (hA : DataW.TrodAll enc Try.prog W 0 (fun _ => true) true Try.f4.params.toList args.toList ds ps) (hlt : ∀ p ∈ ps, p.block < W.heap.size)
    (hsz : (DataW.weightsEach Try.prog Try.f4.params.toList ds).all (· ≤ reachBytes) = true) :
    Calls Try.prog 4 args W fun e W' => e = .returned (.bool true) ∧ Below W.heap.size W W' := by
  rw [Try.params4] at hA hval hsz
  obtain ⟨v0, v1, v2, d0, d1, d2, p0, p1, p2, rfl, rfl, rfl, h0, h1, h2⟩ := trodAll_three hA
  obtain ⟨t, rfl, wt, wt'⟩ := open_i64 (hval 0 _ _ rfl rfl) h0
  obtain ⟨A_b, c_b, b, rfl, hc_b, hm_b, hr_b, hl_b⟩ := open_B (hval 1 _ _ rfl rfl) h1 (fun p hp => hlt p (by simp [hp])) (sized_at hsz (j := 1) rfl rfl)
  obtain ⟨n, rfl, wn, wn'⟩ := open_i64 (hval 2 _ _ rfl rfl) h2
  by_cases hb : 600 < b.length ∨ 1500 < n
  · exact dictOnce_big (by omega) hb
  · exact dictOnce_walk hr_b hl_b (by omega) wn (by omega)

end Go.Proofs.Ytnghjkihdcmoiaa
