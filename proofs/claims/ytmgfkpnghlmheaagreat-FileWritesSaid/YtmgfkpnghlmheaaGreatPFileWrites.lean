/- FileWrites: for every input the call returns true, and each argument reads afterwards as it read before. No condition. -/
import Derived.Test.YtmgfkpnghlmheaaGreatBun50

namespace Go.Proofs.YtmgfkpnghlmheaaGreat
open Go.RowKit Go.Hm

set_option maxRecDepth 100000 in
theorem fileWrites_lifted (os : Os) (started : os.Started) (H : Type) (enc : TypeId × Value → H) :
    ReturnsInHanded {} Tryz.checked os 3 .any (Rows.fileWritesSpec.pre6 enc Tryz.prog Tryz.f3 Rows.fileWritesRow.domain false) (Rows.fileWritesSpec.post enc Tryz.prog Tryz.f3 false true false false) :=
  J6 (tb := 4) (C := Tryz.checked) Tryz.own Tryz.laidOut started (by kernel_rfl) Tryz.func3 (by kernel_rfl) (by kernel_rfl) (by decide +kernel) rfl
    (fun ds hd => by
      match ds, hd with
      | [d1, d2], _ => rfl)
    (ChangeSpec.witness6 (enc := enc) (C := Tryz.checked) false ⟨#[], #[.agg #[.slice none 0 0, .int .i64 0, .slice none 0 0], .agg #[.int .i64 0, .int .i64 0, .slice none 0 0]], []⟩ 8 (by kernel_rfl) (by kernel_rfl) (by kernel_rfl) (by kernel_rfl))
    (fun W base args ds ps h1 h2 h3 _ h5 => XX W base args ds ps h1 h2 h3 h5)

theorem fileWrites_holds : Rows.FileWritesSaid :=
  OpenClaim.holds_of_wide 3 Tryz.f3 rfl rfl rfl rfl rfl rfl rfl ⟨rfl, rfl, rfl, rfl, rfl⟩ rfl rfl rfl rfl rfl (by kernel_rfl) Tryz.func3 (by kernel_rfl)
    (of_decide_eq_true (by kernel_rfl)) (by unfold Func.isWrapper; first | (rw [if_pos (by decide +kernel)]; kernel_rfl) | (rw [if_neg (by decide +kernel)]; exact ⟨rfl, rfl⟩))
    (fun os started H enc _ => fileWrites_lifted os started H enc)

end Go.Proofs.YtmgfkpnghlmheaaGreat
