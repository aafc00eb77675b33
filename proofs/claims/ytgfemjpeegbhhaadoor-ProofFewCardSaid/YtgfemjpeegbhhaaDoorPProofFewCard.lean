/- ProofFew: for every input the call returns true, and each argument reads afterwards as it read before; the table of constants reads as the program's text lays it, which the card ties. No other condition. -/
import Derived.Test.YtgfemjpeegbhhaaDoorProofFew
import Derived.Test.YtgfemjpeegbhhaaDoorTie
import Derived.Test.YtgfemjpeegbhhaaDoorCards
import Derived.SevenTiedAt

namespace Go.Proofs.YtgfemjpeegbhhaaDoor
open Go.RowKit Go.Hm

set_option maxRecDepth 100000 in
theorem proofFew_lifted (os : Os) (started : os.Started) (H : Type) (enc : TypeId × Value → H) :
    ReturnsInHanded {} Tryd.checked os 12 .any (fun w args => (Rows.proofFewSpec.pre enc Tryd.prog Tryd.f12 [] false w args ∧ laidMetH Tryd.prog laidC w) ∧ sizedMet enc Tryd.prog Tryd.f12 (OpenSpec.ofChange Rows.proofFewSpec) false w args)
      (Rows.proofFewSpec.post enc Tryd.prog Tryd.f12 false true false false) :=
  law_lifted_laid (tb := 4) (C := Tryd.checked) (laid := laidC) Tryd.own Tryd.laidOut started (by kernel_rfl) Tryd.func12 (by kernel_rfl) (by kernel_rfl) (by decide +kernel) rfl
    (fun ds hd => by
      match ds, hd with
      | [d1, d2, d3], _ => rfl)
    (ChangeSpec.witness_shaped (enc := enc) (C := Tryd.checked) (os := os) (X := fun w _ => laidMetH Tryd.prog laidC w) false (World.doorLaid Tryd.prog 14 os) #[.int .i64 0, .int .i64 0, .int .i64 0] 8 rfl (World.shaped_of_RefB (by kernel_rfl) (by kernel_rfl)) (by kernel_rfl) (by kernel_rfl) (by kernel_rfl) (door_met os _))
    (fun W base args ds ps h1 h2 h3 _ h5 h6 => proofFew_contract W base args ds ps h1 h2 h3 h5 h6)

theorem proofFew_holds : Rows.ProofFewSaid :=
  OpenClaim.holds_of_wide 12 Tryd.f12 rfl rfl rfl rfl rfl rfl rfl ⟨rfl, rfl, rfl, rfl, rfl⟩ rfl rfl rfl rfl rfl (by kernel_rfl) Tryd.func12 (by kernel_rfl)
    (of_decide_eq_true (by kernel_rfl)) (by unfold Func.isWrapper; first | (rw [if_pos (by decide +kernel)]; kernel_rfl) | (rw [if_neg (by decide +kernel)]; exact ⟨rfl, rfl⟩))
    (fun os started H enc _ => proofFew_lifted os started H enc)

theorem proofFewCard_holds : Rows.ProofFewCardSaid :=
  Claim7.holds_tied_plain_at .later [] [.data] true Rows.proofFewCard.stood.harness Rows.proofFewCard.stood.looks
    proofFew_holds (fun _ h => by cases h) (by kernel_rfl) (fun _ h => by cases h) proofFew_row_tie rfl ⟨rfl, rfl⟩ (by kernel_rfl) rfl
    (fun f fn hf hfn => by
      obtain rfl : f = 12 := Option.some.inj ((show Tryd.prog.funcNamed "hypostyle/hypostylelaw22.ProofFew" = some 12 by kernel_rfl).symm.trans hf) |>.symm
      obtain rfl : fn = Tryd.f12 := (Option.some.inj (Tryd.func12.symm.trans hfn)).symm
      exact ⟨by kernel_rfl, fun j t ht => by
        have hall : (Tryd.f12.params.all fun t => !Tryd.prog.wantsStandIn t) = true := by kernel_rfl
        have := (Array.all_eq_true_iff_forall_mem.1 hall) t (Array.mem_of_getElem? ht)
        exact (show Tryd.prog.wantsStandIn t = false by simpa using this)⟩)
    (by kernel_rfl)

end Go.Proofs.YtgfemjpeegbhhaaDoor
