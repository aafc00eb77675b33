/- StatPuts: for every input the call returns true, and each argument reads afterwards as it read before. No condition. -/
import Derived.Test.YthdkbfffjlkbpaaStatPuts

namespace Go.Proofs.Ythdkbfffjlkbpaa
open Go.RowKit Go.Hm

set_option maxRecDepth 100000 in
theorem statPuts_lifted (os : Os) (started : os.Started) (H : Type) (enc : TypeId × Value → H) :
    ReturnsInHanded {} Try.checked os 4 .any (Rows.statPutsSpec.pre6 enc Try.prog Try.f4 Rows.statPutsRow.domain false) (Rows.statPutsSpec.post enc Try.prog Try.f4 false true false false) :=
  law_lifted (tb := 4) (C := Try.checked) Try.own Try.laidOut started (by kernel_rfl) Try.func4 (by kernel_rfl) (by kernel_rfl) (by decide +kernel) rfl
    (fun ds hd => by
      match ds, hd with
      | [d1, d2, d3, d4], _ => rfl)
    (ChangeSpec.witness6 (enc := enc) (C := Try.checked) false ⟨#[], #[.int .i64 0, .agg #[.int .i64 0, .bool false, .bool false, .int .i64 0, .string ⟨#[]⟩, .int .i64 0, .int .i64 0, .bool false, .int .i64 0, .string ⟨#[]⟩, .int .i64 0, .int .i64 0], .agg #[.bool false, .int .i64 0, .string ⟨#[]⟩, .int .i64 0, .int .i64 0], .slice none 0 0], []⟩ 8 (by kernel_rfl) (by kernel_rfl) (by kernel_rfl) (by kernel_rfl))
    (fun W base args ds ps h1 h2 h3 _ h5 => statPuts_contract W base args ds ps h1 h2 h3 h5)

theorem statPuts_holds : Rows.StatPutsSaid :=
  OpenClaim.holds_of_wide 4 Try.f4 rfl rfl rfl rfl rfl rfl rfl ⟨rfl, rfl, rfl, rfl, rfl⟩ rfl rfl rfl rfl rfl (by kernel_rfl) Try.func4 (by kernel_rfl)
    (of_decide_eq_true (by kernel_rfl)) (by unfold Func.isWrapper; first | (rw [if_pos (by decide +kernel)]; kernel_rfl) | (rw [if_neg (by decide +kernel)]; exact ⟨rfl, rfl⟩))
    (fun os started H enc _ => statPuts_lifted os started H enc)

end Go.Proofs.Ythdkbfffjlkbpaa
