/- TreeCounts: for every input the call returns true, and each argument reads afterwards as it read before; the table of constants reads as the program's text lays it, which the card ties. No other condition. -/
import Derived.Test.YtgfemjpeegbhhaaDoorTreeCounts
import Derived.Test.YtgfemjpeegbhhaaDoorTie
import Derived.Test.YtgfemjpeegbhhaaDoorCards
import Derived.SevenTiedAt

namespace Go.Proofs.YtgfemjpeegbhhaaDoor
open Go.RowKit Go.Hm

set_option maxRecDepth 100000 in
theorem treeCounts_lifted (os : Os) (started : os.Started) (H : Type) (enc : TypeId × Value → H) :
    ReturnsInHanded {} Tryd.checked os 8 .any (fun w args => (Rows.treeCountsSpec.pre enc Tryd.prog Tryd.f8 [] false w args ∧ laidMetH Tryd.prog laidC w) ∧ sizedMet enc Tryd.prog Tryd.f8 (OpenSpec.ofChange Rows.treeCountsSpec) false w args)
      (Rows.treeCountsSpec.post enc Tryd.prog Tryd.f8 false true false false) :=
  law_lifted_laid (tb := 4) (C := Tryd.checked) (laid := laidC) Tryd.own Tryd.laidOut started (by kernel_rfl) Tryd.func8 (by kernel_rfl) (by kernel_rfl) (by decide +kernel) rfl
    (fun ds hd => by
      match ds, hd with
      | [d1], _ => rfl)
    (ChangeSpec.witness_shaped (enc := enc) (C := Tryd.checked) (os := os) (X := fun w _ => laidMetH Tryd.prog laidC w) false (World.doorLaid Tryd.prog 14 os) #[.slice none 0 0] 8 rfl (World.shaped_of_RefB (by kernel_rfl) (by kernel_rfl)) (by kernel_rfl) (by kernel_rfl) (by kernel_rfl) (door_met os _))
    (fun W base args ds ps h1 h2 h3 _ h5 h6 => treeCounts_contract W base args ds ps h1 h2 h3 h5 h6)

theorem treeCounts_holds : Rows.TreeCountsSaid :=
  OpenClaim.holds_of_wide 8 Tryd.f8 rfl rfl rfl rfl rfl rfl rfl ⟨rfl, rfl, rfl, rfl, rfl⟩ rfl rfl rfl rfl rfl (by kernel_rfl) Tryd.func8 (by kernel_rfl)
    (of_decide_eq_true (by kernel_rfl)) (by unfold Func.isWrapper; first | (rw [if_pos (by decide +kernel)]; kernel_rfl) | (rw [if_neg (by decide +kernel)]; exact ⟨rfl, rfl⟩))
    (fun os started H enc _ => treeCounts_lifted os started H enc)

theorem treeCountsCard_holds : Rows.TreeCountsCardSaid :=
  Claim7.holds_tied_plain_at .later [] [.data] true Rows.treeCountsCard.stood.harness Rows.treeCountsCard.stood.looks
    treeCounts_holds (fun _ h => by cases h) (by kernel_rfl) (fun _ h => by cases h) treeCounts_row_tie rfl ⟨rfl, rfl⟩ (by kernel_rfl) rfl
    (fun f fn hf hfn => by
      obtain rfl : f = 8 := Option.some.inj ((show Tryd.prog.funcNamed "hypostyle/hypostylelaw21.TreeCounts" = some 8 by kernel_rfl).symm.trans hf) |>.symm
      obtain rfl : fn = Tryd.f8 := (Option.some.inj (Tryd.func8.symm.trans hfn)).symm
      exact ⟨by kernel_rfl, fun j t ht => by
        have hall : (Tryd.f8.params.all fun t => !Tryd.prog.wantsStandIn t) = true := by kernel_rfl
        have := (Array.all_eq_true_iff_forall_mem.1 hall) t (Array.mem_of_getElem? ht)
        exact (show Tryd.prog.wantsStandIn t = false by simpa using this)⟩)
    (by kernel_rfl)

end Go.Proofs.YtgfemjpeegbhhaaDoor
