import Derived.Test.YtfmmllpjgkgeaaaGreatDoorPartV40
import Derived.Test.YtfmmllpjgkgeaaaGreatDoorPartV41
import Derived.Test.YtfmmllpjgkgeaaaGreatDoorPartV42
set_option linter.unusedVariables false
set_option linter.unusedSimpArgs false
set_option maxHeartbeats 16000000
set_option maxRecDepth 100000
namespace Go.Proofs.YtfmmllpjgkgeaaaGreatDoor
open Go.ChangeShapes Go.WideShapes Go.ChangeAt Go.RowKit Go.Deep

theorem lifted (os:Os) (started:os.Started) (H:Type) (enc:TypeId × Value->H) (F:Stop.Interp) :
  ReturnsInHanded {} Tryz.checked os 3 .any ((Rows.OpenSpec.upto Rows.valuesSpec).preRow enc Tryz.prog Tryz.f3 Rows.valuesUptoRow.domain false Rows.valuesUptoRow.laid) (((Rows.OpenSpec.upto Rows.valuesSpec).at F).post enc Tryz.prog Tryz.f3 false true false false):=by
 refine returnsInHanded_of_row (C:=Tryz.checked) (s:=Rows.OpenSpec.upto Rows.valuesSpec) own started (by kernel_rfl) Tryz.func3 (witness os enc) ?_
 intro W base args ds gs before hval hW _ hcond _ hL hS _
 exact contract H enc W args base ds gs before hval hW (hcond _ rfl) hL hS

theorem values_upto:Rows.ValuesUptoSaid :=
 OpenClaim.holds_of_cond 3 Tryz.f3 rfl rfl rfl rfl rfl rfl rfl ⟨rfl,rfl,rfl,rfl,rfl⟩ rfl rfl rfl rfl rfl m1 Tryz.func3 m2 m3 m4
  (fun os started H enc _ F=>by rw[OpenClaim.pre_eq_preRow];exact lifted os started H enc F)

theorem values_upto_card:Rows.ValuesUptoCardSaid :=
 Claim7.holds_tied_plain_at .later [] _ _ _ _ values_upto (fun _ h=>by cases h) (by as_aux_lemma=>kernel_rfl) (fun _ h=>by cases h) valuesUpto_row_tie rfl ⟨rfl,rfl⟩ (by as_aux_lemma=>kernel_rfl) rfl plain (by as_aux_lemma=>kernel_rfl)
end Go.Proofs.YtfmmllpjgkgeaaaGreatDoor

