/- Arguments opened, by the types of this program. -/
import Derived.Test.YtlelepopdjoedaaFacts
import Derived.Test.YtlelepopdjoedaaLaw
set_option maxRecDepth 100000

namespace Go.Proofs.Ytlelepopdjoedaa
open Go.RowKit Go.Hm Go.WideShapes Go.ChangeShapes
def SmallPost (w : World) (e : Ending) (w' : World) : Prop := e = .returned (.bool true) ∧ Below w.heap.size w w'

section
variable {H : Type} {enc : TypeId × Value → H} {W : World} {base : Nat} {v : Value} {d : DataW H} {ps : List MemPlace}
theorem open_B (hval : Value.okWide Try.prog W .any base 24 v) (h : DataW.Trod enc Try.prog W 0 (fun _ => true) true 24 v d ps) (hlt : ∀ p ∈ ps, p.block < W.heap.size) (hw : ∀ n ∈ d.weights Try.prog 24, n ≤ reachBytes) :
    ∃ A c, ∃ l : List Nat, v = .slice A l.length c ∧ l.length ≤ c ∧ c ≤ 140737488351232 ∧ Reads W W.heap.size 1 A l.length (nums .u8 l) ∧ ∀ x ∈ l, x < 256 := by
  obtain ⟨A, c, l, h1, h2, _, h4, h5, h6⟩ := open_nums (k := .u8) (sz := 1) elB.ht (by kernel_rfl) (by kernel_rfl) rfl (by kernel_rfl) hval h hlt hw
  exact ⟨A, c, l, h1, h2, by unfold reachBytes at h4; omega, h5, fun x hx => by have := h6 x hx; simp [IntKind.max, IntKind.signed, IntKind.bits] at this; omega⟩
theorem open_W (hval : Value.okWide Try.prog W .any base 22 v) (h : DataW.Trod enc Try.prog W 0 (fun _ => true) true 22 v d ps) (hlt : ∀ p ∈ ps, p.block < W.heap.size) (hw : ∀ n ∈ d.weights Try.prog 22, n ≤ reachBytes) :
    ∃ A c, ∃ l : List Nat, v = .slice A l.length c ∧ l.length ≤ c ∧ c * 8 ≤ 140737488351232 ∧ Reads W W.heap.size 1 A l.length (nums .u64 l) ∧ ∀ x ∈ l, x ≤ 18446744073709551615 := by
  obtain ⟨A, c, l, h1, h2, _, h4, h5, h6⟩ := open_nums (k := .u64) (sz := 8) elW.ht (by kernel_rfl) (by kernel_rfl) rfl (by kernel_rfl) hval h hlt hw
  exact ⟨A, c, l, h1, h2, by unfold reachBytes at h4; omega, h5, fun x hx => by have := h6 x hx; simp [IntKind.max, IntKind.signed, IntKind.bits] at this; omega⟩
theorem open_I (hval : Value.okWide Try.prog W .any base 27 v) (h : DataW.Trod enc Try.prog W 0 (fun _ => true) true 27 v d ps) (hlt : ∀ p ∈ ps, p.block < W.heap.size) (hw : ∀ n ∈ d.weights Try.prog 27, n ≤ reachBytes) :
    ∃ A c, ∃ l : List Int, v = .slice A l.length c ∧ l.length ≤ c ∧ c * 8 ≤ 140737488351232 ∧ Reads W W.heap.size 1 A l.length (ints .i64 l) ∧ ∀ x ∈ l, -9223372036854775808 ≤ x ∧ x ≤ 9223372036854775807 := by
  obtain ⟨A, c, l, h1, h2, _, h4, h5, h6⟩ := open_ints_ (k := .i64) (sz := 8) elI.ht (by kernel_rfl) (by kernel_rfl) (by kernel_rfl) hval h hlt hw
  exact ⟨A, c, l, h1, h2, by unfold reachBytes at h4; omega, h5, fun x hx => by have := h6 x hx; simp [IntKind.min, IntKind.max, IntKind.signed, IntKind.bits] at this; omega⟩
theorem open_u64 (hval : Value.okWide Try.prog W .any base 34 v) (h : DataW.Trod enc Try.prog W 0 (fun _ => true) true 34 v d ps) : ∃ x : Nat, v = .int .u64 (x : Int) ∧ x ≤ 18446744073709551615 := by
  obtain ⟨y, rfl, _, _, wy⟩ := open_int (k := .u64) (by kernel_rfl) hval h
  simp [Lit.wf, IntKind.min, IntKind.max, IntKind.signed, IntKind.bits] at wy
  obtain ⟨y, rfl⟩ := Int.eq_ofNat_of_zero_le wy.1
  exact ⟨y, rfl, by omega⟩
theorem open_u32 (hval : Value.okWide Try.prog W .any base 71 v) (h : DataW.Trod enc Try.prog W 0 (fun _ => true) true 71 v d ps) : ∃ x : Nat, v = .int .u32 (x : Int) ∧ x ≤ 4294967295 := by
  obtain ⟨y, rfl, _, _, wy⟩ := open_int (k := .u32) (by kernel_rfl) hval h
  simp [Lit.wf, IntKind.min, IntKind.max, IntKind.signed, IntKind.bits] at wy
  obtain ⟨y, rfl⟩ := Int.eq_ofNat_of_zero_le wy.1
  exact ⟨y, rfl, by omega⟩
theorem open_u8 (hval : Value.okWide Try.prog W .any base 5 v) (h : DataW.Trod enc Try.prog W 0 (fun _ => true) true 5 v d ps) : ∃ x : Nat, v = .int .u8 (x : Int) ∧ x ≤ 255 := by
  obtain ⟨y, rfl, _, _, wy⟩ := open_int (k := .u8) (by kernel_rfl) hval h
  simp [Lit.wf, IntKind.min, IntKind.max, IntKind.signed, IntKind.bits] at wy
  obtain ⟨y, rfl⟩ := Int.eq_ofNat_of_zero_le wy.1
  exact ⟨y, rfl, by omega⟩
theorem open_i64 (hval : Value.okWide Try.prog W .any base 3 v) (h : DataW.Trod enc Try.prog W 0 (fun _ => true) true 3 v d ps) : ∃ x : Int, v = .int .i64 x ∧ -9223372036854775808 ≤ x ∧ x ≤ 9223372036854775807 := by
  obtain ⟨y, rfl, _, _, wy⟩ := open_int (k := .i64) (by kernel_rfl) hval h
  simp [Lit.wf, IntKind.min, IntKind.max, IntKind.signed, IntKind.bits] at wy
  exact ⟨y, rfl, wy.1, by omega⟩
end

end Go.Proofs.Ytlelepopdjoedaa
