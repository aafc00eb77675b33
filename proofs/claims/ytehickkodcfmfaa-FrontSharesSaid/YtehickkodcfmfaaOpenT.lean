/- Texts opened. -/
import Derived.Test.YtehickkodcfmfaaOpen
import Derived.Test.YtehickkodcfmfaaHeld
import Derived.Test.YtehickkodcfmfaaStr

namespace Go.Hm
theorem fsum_le_ (M : Nat) (l : List (List Nat)) (h : ∀ s ∈ l, s.length ≤ M) : (l.map List.length).sum ≤ l.length * M := by
  induction l with
  | nil => simp
  | cons s l ih =>
    have h1 := ih fun x hx => h x (by simp [hx])
    have h2 := h s (by simp)
    simp only [List.map_cons, List.sum_cons, List.length_cons, Nat.succ_mul]
    omega
theorem strs_recs (l : List (List Nat)) : strs l = recs (fun s => [.string (bstr s)]) l := by
  induction l with
  | nil => rfl
  | cons s l ih => rw [recs_cons, ← ih]; rfl

end Go.Hm

namespace Go.Proofs.Ytehickkodcfmfaa
open Go.RowKit Go.Hm Go.WideShapes Go.ChangeShapes

section
variable {H : Type} {enc : TypeId × Value → H} {W : World} {base : Nat} {v : Value} {d : DataW H} {ps : List MemPlace}
theorem open_T (hval : Value.okWide Try.prog W .any base 36 v) (h : DataW.Trod enc Try.prog W 0 (fun _ => true) true 36 v d ps) (hlt : ∀ p ∈ ps, p.block < W.heap.size) (hw : ∀ n ∈ d.weights Try.prog 36, n ≤ reachBytes) :
    ∃ A c, ∃ l : List (List Nat), v = .slice A l.length c ∧ l.length ≤ c ∧ c * 16 ≤ 140737488351232 ∧ Reads W W.heap.size 1 A l.length (strs l) ∧ ∀ s ∈ l, (∀ x ∈ s, x < 256) ∧ s.length ≤ 140737488351232 := by
  have ht : Try.prog.underlying 36 = some (.slice 9) := by kernel_rfl
  obtain ⟨a0, len, cap, rfl⟩ := okWide_slice ht hval
  obtain ⟨A, c, l, h1, h2, _, h4, h5, h6⟩ := (Held.of h hlt hw).recs (f := fun s : List Nat => [.string (bstr s)]) (sz := 1) (by_ := 16) (Q := fun s => (∀ x ∈ s, x < 256) ∧ s.length ≤ 140737488351232) [] ht (by kernel_rfl) (by kernel_rfl) (fun _ => rfl) (by omega) (fun cs hh => by
    obtain ⟨l, e1, e2, e3⟩ := hh.string (by kernel_rfl)
    exact ⟨l, e1, e2, e3⟩)
  refine ⟨A, c, l, ?_, h2, by unfold reachBytes at h4; omega, by rw [strs_recs]; exact h5, h6⟩
  simpa [Value.cells] using h1
theorem open_s (hval : Value.okWide Try.prog W .any base 9 v) (h : DataW.Trod enc Try.prog W 0 (fun _ => true) true 9 v d ps) (hlt : ∀ p ∈ ps, p.block < W.heap.size) (hw : ∀ n ∈ d.weights Try.prog 9, n ≤ reachBytes) :
    ∃ l : List Nat, v = .string (bstr l) ∧ (∀ x ∈ l, x < 256) ∧ l.length ≤ 140737488351232 := by
  have ht : Try.prog.underlying 9 = some .string := by kernel_rfl
  obtain ⟨s, rfl⟩ := okWide_string ht hval
  obtain ⟨l, h1, h2, h3⟩ := (Held.of h hlt hw).string ht
  refine ⟨l, ?_, h2, h3⟩
  simpa [Value.cells] using h1
end

end Go.Proofs.Ytehickkodcfmfaa
