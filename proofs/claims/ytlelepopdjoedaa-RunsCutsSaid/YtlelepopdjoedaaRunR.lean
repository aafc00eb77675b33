/- The contract of runs.readPiece. -/
import Derived.Test.YtlelepopdjoedaaRunE
import Derived.Test.YtlelepopdjoedaaCurS
import Derived.Test.YtlelepopdjoedaaUnpack

namespace Go.Proofs.Ytlelepopdjoedaa
open Go.RowKit Go.Hm
theorem nby_bd (b n : Nat) : -1 ≤ nby (b : Int) (n : Int) ∧ nby (b : Int) (n : Int) ≤ 524289 := by
  by_cases hb : b ≤ 64
  · by_cases hn : n ≤ 65536
    · rw [nby_nat b n hb hn]
      have := Nat.mul_le_mul hb hn
      omega
    · unfold nby
      rw [if_pos (by omega)]
      omega
  · unfold nby
    rw [if_pos (by omega)]
    omega
theorem fill_set (n k b : Nat) (h : k < n) : (List.replicate k b ++ List.replicate (n - k) 0).set k b = List.replicate (k + 1) b ++ List.replicate (n - (k + 1)) 0 := by
  rw [List.set_append_right _ _ (by simp), List.length_replicate, Nat.sub_self, show n - k = (n - (k + 1)) + 1 by omega, List.replicate_succ, List.set_cons_zero, List.replicate_succ', List.append_assoc]
  rfl
def RowPost (x : List Nat) (g : Nat) (S : St) (w : World) (e : Ending) (w' : World) : Prop :=
  ∃ A n c, e = .returned (.slice A n c) ∧ n = x.length ∧ Own w' w.heap.size 34 (.slice A n c) (nums .u64 x) ∧ CurS w' g S ∧ w.grownBy w' (some g)
set_option maxHeartbeats 2000000 in
theorem readPiece_any {w : World} {g : Nat} {S : St} {most : Nat} (h : CurS w g S) (hm : most ≤ 65536) :
    Calls Try.prog 29 #[.pointer (some ⟨g, 0, none⟩), .int .i64 (most : Int)] w (RowPost (rpS most S).1 g (rpS most S).2 w) := by
  have hle := lenS_le (m := 2 * (most : Int) + 1) S (by omega) h.ok
  have C1 := Lib.hid (lenS_any (m := 2 * (most : Int) + 1) h (by omega) (by omega))
  obtain ⟨X, hX⟩ : ∃ X, X = rpS most S := ⟨_, rfl⟩
  rw [← hX]
  unfold rpS at hX
  dsimp only at hX
  generalize lenS (2 * (most : Int) + 1) S = H at *
  obtain ⟨a, S1⟩ := H
  dsimp only at *
  have ha : a ≤ 131073 := by omega
  have D1 : (a : Int).tdiv 2 = ((a / 2 : Nat) : Int) := by rw [Int.tdiv_eq_ediv_of_nonneg (by omega)]; rfl
  have D2 : (a : Int).tmod 2 = ((a % 2 : Nat) : Int) := by rw [Int.tmod_eq_emod_of_nonneg (by omega)]; rfl
  have hn : a / 2 ≤ 65536 := by omega
  have ho : a % 2 < 2 := Nat.mod_lt _ (by omega)
  generalize a / 2 = n at *
  generalize a % 2 = o at *
  have HX := Lib.hid hX
  clear h hX
  go_enter Try.func29, Try.ntmps29
  go_wp2_with fail
  refine C1.out.mono ?_
  rintro e w1 ⟨rfl, s1, g1⟩
  clear C1
  by_cases h1 : o = 1
  · subst h1
    have hX := HX.out
    rw [if_pos rfl] at hX
    clear HX
    have C2 := Lib.hid (byteS_any s1)
    have hb := byteS_lt s1.ok
    generalize byteS S1 = Bq at *
    obtain ⟨b, S2⟩ := Bq
    dsimp only at *
    have HX := Lib.hid hX
    clear hX
    go_wp2_with fail
    refine C2.out.mono ?_
    rintro e w2 ⟨rfl, s2, g2⟩
    clear C2 s1
    have hbw : IntKind.i64.wrap (b : Int) = (b : Int) := IntWalk.i64_in _ (by omega)
    go_wp2_with fail
    refine (bytes_any (b : Int) (n : Int) w2 (by omega) (by omega) (by omega) (by omega)).mono ?_
    rintro e w3 ⟨rfl, rfl⟩
    go_wp2_with fail
    refine (takeS_any (n := nby (b : Int) (n : Int)) s2 (by have := nby_bd b n; omega) (by have := nby_bd b n; omega)).mono ?_
    rintro e w4 ⟨A4, n4, c4, rfl, e4, o4, s4, g4⟩
    have hX := HX.out
    have h8 := (takeS_ok (n := nby (b : Int) (n : Int)) s2.ok).2
    generalize takeS (nby (b : Int) (n : Int)) S2 = Tq at *
    obtain ⟨x, S4⟩ := Tq
    dsimp only at *
    subst e4
    clear HX
    have HX := Lib.hid hX
    clear hX s2
    have hxl : x.length ≤ 9223372036854775807 := by have := o4.cap; simp only [maxLen] at this; omega
    have C5 := Lib.hid (unpack_any (c := c4) (b : Int) (n : Int) o4.reads h8 hxl (by omega) (by omega) (by omega) (by omega))
    go_wp2_with fail
    refine C5.out.mono ?_
    intro e w5 h5
    have hX := HX.out
    generalize unpackO x (b : Int) (n : Int) = o5 at *
    clear HX C5
    have G4 := (g1.trans g2).trans g4
    cases o5 with
    | none =>
      obtain ⟨rfl, b5⟩ := h5
      dsimp only at hX
      go_wp2_with fail
      refine (failS (s4.below b5)).mono ?_
      rintro e w6 ⟨rfl, s6, g6⟩
      go_wp2
      go_ret
      rw [hX]
      exact ⟨none, 0, 0, rfl, rfl, Own.nil_, s6, (G4.trans (Far.of_new b5)).trans g6⟩
    | some l =>
      obtain ⟨A5, n5, c5, rfl, o5, b5⟩ := h5
      dsimp only at hX
      go_wp2
      go_ret
      rw [hX]
      exact ⟨A5, n5, c5, rfl, by have := o5.len; rwa [nums_length] at this, o5.base_le (by have := G4.size; omega), s4.below b5, G4.trans (Far.of_new b5)⟩
  · obtain rfl : o = 0 := by omega
    have hX := HX.out
    rw [if_neg (by omega)] at hX
    clear HX
    have C2 := Lib.hid (getS_any s1)
    have hb := getS_lt s1.ok
    generalize getS S1 = Bq at *
    obtain ⟨b, S2⟩ := Bq
    dsimp only at *
    have HX := Lib.hid hX
    clear hX
    go_wp2_with fail
    refine C2.out.mono ?_
    rintro e w2 ⟨rfl, s2, g2⟩
    clear C2 s1
    have G2 := g1.trans g2
    have hz := G2.size
    have G2 := Lib.hid G2
    clear g1 g2
    go_wp2_with (first
      | (refine wpList_mk elW rfl (.tmp 44) (.tmp 44) rfl (W := w2) (B := w2.heap.size) n n rfl rfl rfl rfl (by omega) (Below.refl _ _) (Nat.le_refl _) rfl (by omega) (by simp only [maxLen]; omega) ?_
         intro w3 hown3 hg3 hb3 hs3))
    go_loopw [48] (fun i wr => ∃ k : Nat, k ≤ n ∧ i = .int .i64 (k : Int) ∧ Own wr w2.heap.size 34 (.slice (some ⟨w2.heap.size, 0, none⟩) n n) (nums .u64 (List.replicate k b ++ List.replicate (n - k) 0)) ∧ Below w2.heap.size w2 wr) (fun i _ => n - (intOf i).toNat)
    case atStart => exact ⟨0, Nat.zero_le _, rfl, by simpa [nums_replicate] using hown3, hb3⟩
    case round =>
      obtain ⟨k, hk, rfl, hown, hbl⟩ := hrel
      by_cases hlt : k < n
      · obtain ⟨hg0, hgl, hc, hf, hset⟩ := hown.num0 (i := k) hlt
        have hs := hset b
        rw [fill_set n k b hlt] at hs
        go_wp2
        go_roundw
        case rel => exact ⟨k + 1, by omega, by go_num, hs, hbl.setCell (p := ⟨w2.heap.size, k, none⟩) (Nat.le_refl _) _⟩
        case measure => simp [intOf]; omega
      · obtain rfl : k = n := by omega
        go_wp2
        go_ret
        rw [HX.out]
        refine ⟨_, _, _, rfl, by simp, ?_, s2.below hbl, G2.out.trans (Far.of_new hbl)⟩
        rw [Nat.sub_self, List.replicate_zero, List.append_nil] at hown
        exact hown.base_le hz

end Go.Proofs.Ytlelepopdjoedaa
