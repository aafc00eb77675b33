/- CursorParts returns true whatever comes in, and leaves all that was there as it was. -/
import Derived.Test.YtghfdbnbgkpnaaaSmallC
import Derived.Test.YtghfdbnbgkpnaaaUp
import Derived.Test.YtghfdbnbgkpnaaaOpen
import Derived.Test.YtghfdbnbgkpnaaaPairs
namespace Go.Proofs.Ytghfdbnbgkpnaaa
open Go.RowKit Go.Hm

theorem num_append (l m : List Nat) : num (l ++ m) = num l + 256 ^ l.length * num m := by
  induction l with
  | nil => simp [num]
  | cons a l ih => simp only [List.cons_append, num, ih, List.length_cons, Nat.pow_succ]; rw [Nat.mul_add, Nat.add_assoc, ← Nat.mul_assoc, Nat.mul_comm 256 (256 ^ l.length)]

theorem num_halves {l : List Nat} (hl : l.length = 8) : num l = num (l.take 4) + 4294967296 * num (l.drop 4) := by
  have h := num_append (l.take 4) (l.drop 4)
  rw [List.take_append_drop, List.length_take, hl] at h
  exact h

theorem bits_halves {l : List Nat} (h8 : ∀ x ∈ l, x < 256) (hl : l.length = 8) :
    bits .or .u64 (IntKind.u64.wrap ((num (l.take 4) : Nat) : Int)) (IntKind.u64.wrap (IntKind.u64.wrap ((num (l.drop 4) : Nat) : Int) * 4294967296)) = ((num l : Nat) : Int) := by
  have h1 := num_lt (l.take 4) (fun x hx => h8 x (List.mem_of_mem_take hx))
  have h2 := num_lt (l.drop 4) (fun x hx => h8 x (List.mem_of_mem_drop hx))
  rw [List.length_take, hl, show (256 : Nat) ^ min 4 8 = 4294967296 from rfl] at h1
  rw [List.length_drop, hl, show (256 : Nat) ^ (8 - 4) = 4294967296 from rfl] at h2
  have hn := num_halves hl
  generalize num (l.take 4) = p at *
  generalize num (l.drop 4) = q at *
  rw [IntWalk.u64_in (p : Int) (by omega), IntWalk.u64_in (q : Int) (by omega), IntWalk.u64_in _ (by omega)]
  rw [show (q : Int) * 4294967296 = ((q * 4294967296 : Nat) : Int) by omega, u64_or_nat p (q * 4294967296) (by omega) (by omega), Nat.or_comm]
  have := or_shl q p 32 (by omega)
  rw [show (2 : Nat) ^ 32 = 4294967296 from rfl] at this
  rw [this, hn]
  omega

set_option maxHeartbeats 1000000 in
set_option maxRecDepth 100000 in
theorem cursorParts_walk {w : World} {l : List Nat} (h8 : ∀ x ∈ l, x < 256) (hl : l.length = 8) :
    Calls Try.prog 7 #[.agg (nums .u8 l).toArray] w (SmallPost w) := by
  have b0 : Below w.heap.size w (w.alloc (.cells (nums .u8 l).toArray 47)) := (Below.refl _ _).alloc (Nat.le_refl _) _
  have r0 : Reads (w.alloc (.cells (nums .u8 l).toArray 47)) (w.alloc (.cells (nums .u8 l).toArray 47)).heap.size 1 (some ⟨w.heap.size, 0, none⟩) 8 (nums .u8 l) := Reads.lit w _ _ 8 .u8 l rfl hl.symm
  generalize hW : w.alloc (.cells (nums .u8 l).toArray 47) = W at *
  have HW := Lib.hid hW
  clear hW
  have HL := Lib.hid hl
  clear hl
  go_enter Try.func7, Try.ntmps7
  go_wp2_with fail
  rw [HW.out]
  go_wp2_with (first
    | (go_at_call 20; refine (small03_any W).mono ?_; rintro e w1 ⟨rfl, b1⟩
       have b01 := below_then b0 b1 (Nat.le_refl _)
       have r1 := (r0.below b1).more b1.size
       have O1 := Lib.hid (over_any (c := 8) r1 (by omega) h8))
    | (go_at_call 21; (with_reducible refine O1.out.mono ?_); rintro e w2 ⟨g1, rfl, hg1, C1, b2⟩
       have O2 := Lib.hid (over_any (c := 8) ((r1.below b2).more b2.size) (by omega) h8))
    | (go_at_call 21; (with_reducible refine O2.out.mono ?_); rintro e w3 ⟨g2, rfl, hg2, C2, b3⟩
       have b13 := New.trans b2 b3
       have O3 := Lib.hid (over_any (c := 8) ((r1.below b13).more b13.size) (by omega) h8))
    | (go_at_call 21; (with_reducible refine O3.out.mono ?_); rintro e w4 ⟨g3, rfl, hg3, C3, b4⟩
       have n12 : g1 ≠ g2 := by have := C1.lt; omega
       have n13 : g1 ≠ g3 := by have := C1.lt; have := b3.size; omega
       have n23 : g2 ≠ g3 := by have := C2.lt; omega
       have C1 := C1.below (New.trans b3 b4)
       have C2 := C2.below b4
       have f4 : Below w1.heap.size w1 w4 := New.trans b13 b4
       have z2 := b2.size
       have z3 := b3.size
       have f14 : w1.heap.size ≤ g1 := hg1
       have f24 : w1.heap.size ≤ g2 := by omega
       have f34 : w1.heap.size ≤ g3 := by omega
       have N := Lib.hid (And.intro n12 (And.intro n13 n23))
       clear n12 n13 n23
       have t8 : l.take 8 = l := List.take_of_length_le (by have := HL.out; omega)
       have d8 : l.drop 8 = [] := List.drop_eq_nil_of_le (by have := HL.out; omega)
       have t4 : (l.drop 4).take 4 = l.drop 4 := List.take_of_length_le (by rw [List.length_drop]; have := HL.out; omega)
       have d4 : (l.drop 4).drop 4 = [] := List.drop_eq_nil_of_le (by rw [List.length_drop]; have := HL.out; omega)
       have U1 := u64_good C1 (by have := HL.out; omega)
       rw [t8, d8] at U1
       have U1 := Lib.hid U1
       have TD := Lib.hid (And.intro t4 d4)
       clear t8 d8 t4 d4)
    | (go_at_call 25; refine U1.out.mono ?_; rintro e w5 ⟨rfl, E1, c5⟩
       obtain ⟨T5, H5⟩ := C1.blk
       have D2 := C2.keep c5 H5 N.out.1.symm (by decide)
       have D3 := C3.keep c5 H5 N.out.2.1.symm (by decide)
       have f5 := Far.below f4 c5 f14 (Nat.le_refl _)
       have U2 := Lib.hid (u32_good D2 (by have := HL.out; omega)))
    | (go_at_call 24; (with_reducible refine U2.out.mono ?_); rintro e w6 ⟨rfl, E2, c6⟩
       obtain ⟨T6, H6⟩ := D2.blk
       have E1 := E1.keep c6 H6 N.out.1 (by decide)
       have D3 := D3.keep c6 H6 N.out.2.2.symm (by decide)
       have f6 := Far.below f5 c6 f24 (Nat.le_refl _)
       have U3 := u32_good E2 (by rw [List.length_drop]; have := HL.out; omega)
       rw [TD.out.1, TD.out.2] at U3
       have U3 := Lib.hid U3)
    | (go_at_call 24; (with_reducible refine U3.out.mono ?_); rintro e w7 ⟨rfl, G2, c7⟩
       obtain ⟨T7, H7⟩ := E2.blk
       have G1 := E1.keep c7 H7 N.out.1 (by decide)
       have G3 := D3.keep c7 H7 N.out.2.2.symm (by decide)
       have f7 := Far.below f6 c7 f24 (Nat.le_refl _)))
  go_loopw [10, 11] (fun m i wr => ∃ (k : Nat), i = .int .i64 (k : Int) ∧ k ≤ 8 ∧ m = .int .u64 (num (l.take k) : Int) ∧ Cur wr g1 [] false ∧ Cur wr g2 [] false ∧ Cur wr g3 (l.drop k) false ∧ Below w1.heap.size w1 wr) (fun _ i _ => 8 - (intOf i).toNat)
  case atStart => exact ⟨0, rfl, by omega, rfl, G1, G2, G3, f7⟩
  case round =>
    obtain ⟨k, rfl, hk, rfl, J1, J2, J3, f⟩ := hrel
    by_cases hlt : k < 8
    · have hkl : k < l.length := by have := HL.out; omega
      have S := Lib.hid (num_step_u64 l k hkl (by have := HL.out; omega) h8)
      rw [drop_cons_getD l k 0 hkl] at J3
      generalize l.getD k 0 = x at *
      have BY := Lib.hid (byte_app J3)
      go_wp2_with (go_at_call 22; refine BY.out.mono ?_; rintro e w8 ⟨rfl, M3, c8⟩)
      obtain ⟨T8, H8⟩ := J3.blk
      go_roundw
      case rel => exact ⟨k + 1, by go_num, by omega, by rw [S.out], J1.keep c8 H8 N.out.2.1 (by decide), J2.keep c8 H8 N.out.2.2 (by decide), M3, Far.below f c8 f34 (Nat.le_refl _)⟩
      case measure => simp [intOf]; omega
    · obtain rfl : k = 8 := by omega
      have HA := bits_halves h8 HL.out
      have t8 : l.take 8 = l := List.take_of_length_le (by have := HL.out; omega)
      have d8 : l.drop 8 = [] := List.drop_eq_nil_of_le (by have := HL.out; omega)
      rw [d8] at J3
      clear d8
      have X1 := Lib.hid (show Calls Try.prog 32 #[.pointer (some ⟨g1, 0, none⟩)] wr (BadPost true wr) from end_any J1)
      have X2 := Lib.hid (show Calls Try.prog 32 #[.pointer (some ⟨g2, 0, none⟩)] wr (BadPost true wr) from end_any J2)
      have X3 := Lib.hid (show Calls Try.prog 32 #[.pointer (some ⟨g3, 0, none⟩)] wr (BadPost true wr) from end_any J3)
      go_wp2_with (first
        | (go_at_call 32; (with_reducible refine X1.out.mono ?_); rintro e w9 ⟨rfl, rfl⟩)
        | (go_at_call 32; (with_reducible refine X2.out.mono ?_); rintro e w9 ⟨rfl, rfl⟩)
        | (go_at_call 32; (with_reducible refine X3.out.mono ?_); rintro e w9 ⟨rfl, rfl⟩))
      go_ret
      exact ⟨rfl, below_then b01 f (Nat.le_refl _)⟩

open Go.WideShapes Go.ChangeShapes in
theorem cursorParts_contract {H : Type} {enc : TypeId × Value → H} (W : World) (base : Nat) (args : Array Value) (ds : List (DataW H)) (ps : List MemPlace)
    (hval : ∀ (j : Nat) t v, Try.f7.params[j]? = some t → args[j]? = some v → Value.okWide Try.prog W .any base t v)
    (hA : DataW.TrodAll enc Try.prog W 0 (fun _ => true) true Try.f7.params.toList args.toList ds ps) (_ : ∀ p ∈ ps, p.block < W.heap.size)
    (_ : (DataW.weightsEach Try.prog Try.f7.params.toList ds).all (· ≤ reachBytes) = true) :
    Calls Try.prog 7 args W fun e W' => e = .returned (.bool true) ∧ Below W.heap.size W W' := by
  rw [Try.params7] at hA hval
  obtain ⟨v0, d0, rfl, rfl, h0⟩ := trodAll_one hA
  obtain ⟨l, rfl, hl, h8⟩ := open_arr_nums (k := .u8) (n := 8) (e := 5) (by kernel_rfl) (by kernel_rfl) rfl (by kernel_rfl) (by kernel_rfl) (hval 0 _ _ rfl rfl) h0
  exact cursorParts_walk (fun x hx => by have := h8 x hx; simp [IntKind.max, IntKind.signed, IntKind.bits] at this; omega) hl
end Go.Proofs.Ytghfdbnbgkpnaaa
