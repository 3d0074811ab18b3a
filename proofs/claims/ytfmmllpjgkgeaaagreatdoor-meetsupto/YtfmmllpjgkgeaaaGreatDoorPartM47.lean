import Derived.Test.YtfmmllpjgkgeaaaGreatDoorPartM45
import Derived.Test.YtfmmllpjgkgeaaaGreatDoorPartM46
set_option linter.unusedVariables false
set_option linter.unusedSimpArgs false
set_option maxHeartbeats 16000000
set_option maxRecDepth 100000
namespace Go.Proofs.YtfmmllpjgkgeaaaGreatDoor
open Go.Proofs.Tryz Go.ChangeShapes Go.WideShapes Go.ChangeAt Go.RowKit Go.Deep
theorem lifted(os:Os)(started:os.Started)(H:Type)(enc:TypeId×Value->H)(F:Stop.Interp):ReturnsInHanded {} Tryz.checked os 4 .any ((Rows.OpenSpec.upto Rows.meetsSpec).preRow enc prog Tryz.f4 Rows.meetsUptoRow.domain false Rows.meetsUptoRow.laid) (((Rows.OpenSpec.upto Rows.meetsSpec).at F).post enc prog Tryz.f4 false true false false):=by refine returnsInHanded_of_row (C:=Tryz.checked) (s:=Rows.OpenSpec.upto Rows.meetsSpec) own started (by kernel_rfl) func4 (witness os enc) ?_;intro W base args ds gs before hval hW _ hcond _ hL hS _;exact contract H enc W args base ds gs before hval hW (hcond _ rfl) hL hS
theorem KA:Rows.MeetsUptoSaid :=
 OpenClaim.holds_of_cond 4 Tryz.f4 rfl rfl rfl rfl rfl rfl rfl ⟨rfl,rfl,rfl,rfl,rfl⟩ rfl rfl rfl rfl rfl m1 func4 m2 m3 m4
  (λos started H enc _ F=>by rw[OpenClaim.pre_eq_preRow];exact lifted os started H enc F)
theorem meets_upto_card:Rows.MeetsUptoCardSaid :=
 Claim7.holds_tied_plain_at .later [] _ _ _ _ KA (λ_ h=>by cases h) (by as_aux_lemma=>kernel_rfl) (λ_ h=>by cases h) meetsUpto_row_tie rfl ⟨rfl,rfl⟩ (by as_aux_lemma=>kernel_rfl) rfl plain (by as_aux_lemma=>kernel_rfl)
