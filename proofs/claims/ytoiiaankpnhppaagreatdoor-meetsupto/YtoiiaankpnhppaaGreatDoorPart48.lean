import Derived.Test.YtoiiaankpnhppaaGreatDoorPart46
import Derived.Test.YtoiiaankpnhppaaGreatDoorPart47
set_option linter.unusedVariables false
set_option linter.unusedSimpArgs false
namespace Go.Proofs.YtoiiaankpnhppaaGreatDoor
open Go.ChangeShapes Go.WideShapes Go.ChangeAt Go.RowKit Go.Deep

set_option maxRecDepth 100000 in
theorem lifted (os : Os) (started : os.Started) (H : Type) (enc : TypeId × Value → H) (F : Stop.Interp) :
    ReturnsInHanded {} Tryz.checked os 4 .any ((Rows.OpenSpec.upto Rows.meetsSpec).preRow enc Tryz.prog Tryz.f4 Rows.meetsUptoRow.domain false Rows.meetsUptoRow.laid) (((Rows.OpenSpec.upto Rows.meetsSpec).at F).post enc Tryz.prog Tryz.f4 false true false false) := by
  refine returnsInHanded_of_row (C := Tryz.checked) (s := Rows.OpenSpec.upto Rows.meetsSpec) own started (by kernel_rfl) Tryz.func4 (witness os enc) ?_
  intro W base args ds gs before hval hW _ hcond _ hL hS _
  exact contract H enc W args base ds gs before hval hW (hcond _ rfl) hL hS

theorem meets_upto : Rows.MeetsUptoSaid :=
  OpenClaim.holds_of_cond 4 Tryz.f4 rfl rfl rfl rfl rfl rfl rfl ⟨rfl, rfl, rfl, rfl, rfl⟩ rfl rfl rfl rfl rfl m1 Tryz.func4 m2 m3 m4
    (fun os started H enc _ F => by rw [OpenClaim.pre_eq_preRow]; exact lifted os started H enc F)

theorem meets_upto_card : Rows.MeetsUptoCardSaid :=
  Claim7.holds_tied_plain_at .later [] _ _ _ _ meets_upto (fun _ h => by cases h) (by kernel_rfl) (fun _ h => by cases h) meetsUpto_row_tie rfl ⟨rfl, rfl⟩ (by kernel_rfl) rfl plain (by kernel_rfl)
end Go.Proofs.YtoiiaankpnhppaaGreatDoor

