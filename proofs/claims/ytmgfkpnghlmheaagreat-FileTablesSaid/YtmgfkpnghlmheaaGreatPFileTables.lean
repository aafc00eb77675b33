/- FileTables: for every input the call returns true, and each argument reads afterwards as it read before. No condition. -/
import Derived.Test.YtmgfkpnghlmheaaGreatBun50

namespace Go.Proofs.YtmgfkpnghlmheaaGreat
open Go.RowKit Go.Hm Go.Proofs.Y

set_option maxRecDepth 100000 in
theorem fileTables_lifted (os : Os) (started : os.Started) (H : Type) (enc : TypeId × Value → H) :
    ReturnsInHanded {} Tryz.checked os 6 .any (Rows.fileTablesSpec.pre6 enc Tryz.prog Tryz.f6 Rows.fileTablesRow.domain false) (Rows.fileTablesSpec.post enc Tryz.prog Tryz.f6 false true false false) :=
  z05 (tb := 4) (C := Tryz.checked) Tryz.own Tryz.laidOut started (by kernel_rfl) Tryz.func6 (by kernel_rfl) (by kernel_rfl) (by decide +kernel) rfl
    (fun ds hd => by
      match ds, hd with
      | [d1], _ => rfl)
    (ChangeSpec.witness6 (enc := enc) (C := Tryz.checked) false ⟨#[], #[.slice none 0 0], []⟩ 8 (by kernel_rfl) (by kernel_rfl) (by kernel_rfl) (by kernel_rfl))
    (fun W base args ds ps h1 h2 h3 _ h5 => zkc W base args ds ps h1 h2 h3 h5)

theorem fileTables_holds : Rows.FileTablesSaid :=
  OpenClaim.holds_of_wide 6 Tryz.f6 rfl rfl rfl rfl rfl rfl rfl ⟨rfl, rfl, rfl, rfl, rfl⟩ rfl rfl rfl rfl rfl (by kernel_rfl) Tryz.func6 (by kernel_rfl)
    (of_decide_eq_true (by kernel_rfl)) (by unfold Func.isWrapper; first | (rw [if_pos (by decide +kernel)]; kernel_rfl) | (rw [if_neg (by decide +kernel)]; exact ⟨rfl, rfl⟩))
    (fun os started H enc _ => fileTables_lifted os started H enc)

end Go.Proofs.YtmgfkpnghlmheaaGreat
