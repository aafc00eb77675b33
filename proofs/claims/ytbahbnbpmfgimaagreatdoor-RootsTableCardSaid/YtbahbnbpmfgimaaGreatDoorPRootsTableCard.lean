/- RootsTable: for every input the call returns true, and each argument reads afterwards as it read before; the table of constants reads as the program's text lays it, which the card ties. No other condition. -/
import Derived.Test.YtbahbnbpmfgimaaGreatDoorBun50
import Derived.Test.YtbahbnbpmfgimaaGreatDoorTie
import Derived.Test.YtbahbnbpmfgimaaGreatDoorCards

namespace Go.Proofs.YtbahbnbpmfgimaaGreatDoor
open Go.RowKit Go.Hm Go.Proofs.Y

set_option maxRecDepth 100000 in
theorem rootsTable_lifted (os : Os) (started : os.Started) (H : Type) (enc : TypeId × Value → H) :
    ReturnsInHanded {} Tryz.checked os 5 .any (fun w args => (Rows.rootsTableSpec.pre enc Tryz.prog Tryz.f5 [] false w args ∧ laidMetH Tryz.prog zze w) ∧ sizedMet enc Tryz.prog Tryz.f5 (OpenSpec.ofChange Rows.rootsTableSpec) false w args)
      (Rows.rootsTableSpec.post enc Tryz.prog Tryz.f5 false true false false) :=
  zqa (tb := 4) (C := Tryz.checked) (laid := zze) Tryz.own Tryz.laidOut started (by kernel_rfl) Tryz.func5 (by kernel_rfl) (by kernel_rfl) (by decide +kernel) rfl
    (fun ds hd => by
      match ds, hd with
      | [d1, d2, d3, d4], _ => rfl)
    (ChangeSpec.witness_shaped (enc := enc) (C := Tryz.checked) (os := os) (X := fun w _ => laidMetH Tryz.prog zze w) false (World.doorLaid Tryz.prog 19 os) #[.agg #[.slice none 0 0, .int .i64 0, .slice none 0 0], .agg #[.int .i64 0, .int .i64 0, .slice none 0 0], .agg #[.slice none 0 0, .int .i64 0, .slice none 0 0], .agg #[.int .i64 0, .int .i64 0, .slice none 0 0]] 8 rfl (World.shaped_of_RefB (by kernel_rfl) (by kernel_rfl)) (by kernel_rfl) (by kernel_rfl) (by kernel_rfl) (qev os _))
    (fun W base args ds ps h1 h2 h3 _ h5 h6 => zlt W base args ds ps h1 h2 h3 h5 h6)

theorem rootsTable_holds : Rows.RootsTableSaid :=
  OpenClaim.holds_of_wide 5 Tryz.f5 rfl rfl rfl rfl rfl rfl rfl ⟨rfl, rfl, rfl, rfl, rfl⟩ rfl rfl rfl rfl rfl (by kernel_rfl) Tryz.func5 (by kernel_rfl)
    (of_decide_eq_true (by kernel_rfl)) (by unfold Func.isWrapper; first | (rw [if_pos (by decide +kernel)]; kernel_rfl) | (rw [if_neg (by decide +kernel)]; exact ⟨rfl, rfl⟩))
    (fun os started H enc _ => rootsTable_lifted os started H enc)

theorem rootsTableCard_holds : Rows.RootsTableCardSaid :=
  Claim7.holds_tied_plain_at .later [] [.data, .data] true Rows.rootsTableCard.stood.harness Rows.rootsTableCard.stood.looks
    rootsTable_holds (fun _ h => by cases h) (by kernel_rfl) (fun _ h => by cases h) rootsTable_row_tie rfl ⟨rfl, rfl⟩ (by kernel_rfl) rfl
    (fun f fn hf hfn => by
      obtain rfl : f = 5 := Option.some.inj ((show Tryz.prog.funcNamed "hypostyle/hypostylelaw23.RootsTable" = some 5 by kernel_rfl).symm.trans hf) |>.symm
      obtain rfl : fn = Tryz.f5 := (Option.some.inj (Tryz.func5.symm.trans hfn)).symm
      exact ⟨by kernel_rfl, fun j t ht => by
        have hall : (Tryz.f5.params.all fun t => !Tryz.prog.wantsStandIn t) = true := by kernel_rfl
        have := (Array.all_eq_true_iff_forall_mem.1 hall) t (Array.mem_of_getElem? ht)
        exact (show Tryz.prog.wantsStandIn t = false by simpa using this)⟩)
    (by kernel_rfl)

end Go.Proofs.YtbahbnbpmfgimaaGreatDoor
