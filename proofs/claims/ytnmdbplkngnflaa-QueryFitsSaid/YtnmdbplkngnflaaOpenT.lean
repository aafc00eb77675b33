/- Texts opened. -/
import Derived.Test.YtnmdbplkngnflaaOpen
import Derived.Test.YtnmdbplkngnflaaHeld
import Derived.Test.YtnmdbplkngnflaaStr

namespace Go.Hm
theorem fsum_le_ (M : Nat) (l : List (List Nat)) (h : ∀ s ∈ l, s.length ≤ M) : (l.map List.length).sum ≤ l.length * M := by
  induction l with
  | nil => simp
  | cons s l ih =>
    have h1 := ih fun x hx => h x (by simp [hx])
    have h2 := h s (by simp)
    simp only [List.map_cons, List.sum_cons, List.length_cons, Nat.succ_mul]
    omega
theorem strs_recs (l : List (List Nat)) : strs l = recs (fun s => [.string (bstr s)]) l := by
  induction l with
  | nil => rfl
  | cons s l ih => rw [recs_cons, ← ih]; rfl

end Go.Hm
set_option maxRecDepth 100000

namespace Go.Proofs.Ytnmdbplkngnflaa
open Go.RowKit Go.Hm Go.WideShapes Go.ChangeShapes

section
variable {H : Type} {enc : TypeId × Value → H} {W : World} {base : Nat} {v : Value} {d : DataW H} {ps : List MemPlace}
theorem open_s (hval : Value.okWide Try.prog W .any base 9 v) (h : DataW.Trod enc Try.prog W 0 (fun _ => true) true 9 v d ps) (hlt : ∀ p ∈ ps, p.block < W.heap.size) (hw : ∀ n ∈ d.weights Try.prog 9, n ≤ reachBytes) :
    ∃ l : List Nat, v = .string (bstr l) ∧ (∀ x ∈ l, x < 256) ∧ l.length ≤ 140737488351232 := by
  have ht : Try.prog.underlying 9 = some .string := by kernel_rfl
  obtain ⟨s, rfl⟩ := okWide_string ht hval
  obtain ⟨l, h1, h2, h3⟩ := (Held.of h hlt hw).string ht
  refine ⟨l, ?_, h2, h3⟩
  simpa [Value.cells] using h1
end

end Go.Proofs.Ytnmdbplkngnflaa
