/- The table of constants, out of the condition that it reads as listed. -/
import Derived.Test.YtglghnnmfplmdaaDoorShaC
import Derived.Test.YtglghnnmfplmdaaDoorLawC
import Derived.Test.YtglghnnmfplmdaaDoorRows
import Derived.OpenShut
import Derived.Deep.Slices
import Derived.Deep.Fields

namespace Go.Proofs.YtglghnnmfplmdaaDoor
open Go.RowKit Go.Hm Go.WideShapes Go.ChangeShapes
theorem gConst : Tryd.prog.globalNamed "hypostyle/sha.constants" = some 0 := by kernel_rfl
theorem tConst : (Tryd.prog.globals[0]?).map (·.type) = some 38 := by kernel_rfl
theorem dConst : (Rows.laid_hypostyle_sha_constants : DataW Unit) = .agg (kI.map fun k => .lit (.int .u32 k)) := by rfl
abbrev laidC : List (String × DataW Unit) := [("hypostyle/sha.constants", Rows.laid_hypostyle_sha_constants)]
theorem const_of_laid {W : World} (h : laidMetH Tryd.prog laidC W) : ConstIn W := by
  rw [MakeChecks.laidMetH_plain _ _ _ (by kernel_rfl)] at h
  obtain ⟨ps, ⟨g0, t0, cs0, f0, p0, q0, hg0, ht0, hv0, hd0, _, hps⟩, _, hblk⟩ := h
  obtain rfl := Option.some.inj (gConst.symm.trans hg0)
  obtain rfl := Option.some.inj (tConst.symm.trans ht0)
  obtain ⟨xs, m1, rfl, hx1, hlen, hn3, hel⟩ := DataW.trod_array (show Tryd.prog.underlying 38 = some (.array 64 28) by kernel_rfl) hd0
  have c64 : Tryd.prog.cellsOf 38 = 64 := by kernel_rfl
  have c1 : Tryd.prog.cellsOf 28 = 1 := by kernel_rfl
  rw [c64] at hlen
  rw [dConst] at hx1
  simp only [Prod.mk.injEq, DataW.agg.injEq] at hx1
  have hcell : ∀ i, i < 64 → W.cell? ⟨0, i, none⟩ = some (.int .u32 (kI.getD i 0)) := by
    intro i hi
    have h1 := hel i hi
    rw [c1, Nat.mul_one] at h1
    have hi2 : i < cs0.toList.length := by omega
    have hone : (cs0.toList.drop i).take 1 = [cs0.toList[i]] := by
      rw [List.drop_eq_getElem_cons hi2]
      rfl
    rw [hone, List.getElem?_eq_getElem (by omega)] at h1
    obtain ⟨x, e1, e2, _⟩ := DataW.trod_int (show Tryd.prog.underlying 28 = some (.int .u32) by kernel_rfl) h1
    have hk : (xs.map (·.1))[i]? = (kI.map fun k => (DataW.lit (.int .u32 k) : DataW Unit))[i]? := by rw [hx1.1]
    rw [List.getElem?_map, List.getElem?_eq_getElem (show i < xs.length by omega), List.getElem?_map, List.getElem?_eq_getElem (show i < kI.length from hi)] at hk
    simp only [Option.map_some, Option.some.injEq] at hk
    rw [e2] at hk
    simp only [DataW.lit.injEq, Lit.int.injEq, true_and] at hk
    have hc := World.var?_cell hg0 hv0 i
    rw [hc]
    simp only [List.cons.injEq, and_true] at e1
    rw [Array.getElem?_eq_getElem (by simpa using hi2)]
    have e3 : cs0[i]'(by simpa using hi2) = cs0.toList[i] := by simp
    rw [e3, e1, hk, List.getD_eq_getElem?_getD, List.getElem?_eq_getElem (show i < kI.length from hi)]
    rfl
  refine ⟨?_, hcell⟩
  have h0 := hcell 0 (by omega)
  unfold World.cell? at h0
  rcases Nat.eq_zero_or_pos W.heap.size with hz | hz
  · rw [Array.getElem?_eq_none (by omega)] at h0
    cases h0
  · exact hz
theorem door_met (os : Os) (args : Array Value) : laidMetH Tryd.prog laidC ((World.doorLaid Tryd.prog 14 os).forCall (fun _ _ => 0) ⟨#[], args, []⟩).memory :=
  laidMetH_of_parts3 (fuel := 8) (laidMet_of_run' 8 (by kernel_rfl) (by kernel_rfl)) (by kernel_rfl) (by kernel_rfl)

end Go.Proofs.YtglghnnmfplmdaaDoor
