import Derived.Test.YtfmmllpjgkgeaaaGreatDoorPartS48
import Derived.Test.YtfmmllpjgkgeaaaGreatDoorPartS49
set_option linter.unusedVariables false
set_option linter.unusedSimpArgs false
set_option maxHeartbeats 16000000
set_option maxRecDepth 100000
namespace Go.Proofs.YtfmmllpjgkgeaaaGreatDoor
open Go.Proofs.Tryz Go.ChangeShapes Go.WideShapes Go.ChangeAt Go.RowKit Go.Deep
theorem lifted(b:Os)(m:b.Started)(H:Type)(a:TypeId×Value->H)(F:Stop.Interp):ReturnsInHanded {} Tryz.checked b 5 .any ((Rows.OpenSpec.upto Rows.slimsSpec).preRow a prog Tryz.f5 Rows.slimsUptoRow.domain false Rows.slimsUptoRow.laid) (((Rows.OpenSpec.upto Rows.slimsSpec).at F).post a prog Tryz.f5 false true false false):=by refine returnsInHanded_of_row (C:=Tryz.checked) (s:=Rows.OpenSpec.upto Rows.slimsSpec) own m (by kernel_rfl) func5 (witness b a) ?_;intro W d c f g e l j _ k _ h i _;exact contract H a W c d f g e l j (k _ rfl) h i
theorem Gg:Rows.SlimsUptoSaid :=
 OpenClaim.holds_of_cond 5 Tryz.f5 rfl rfl rfl rfl rfl rfl rfl ⟨rfl,rfl,rfl,rfl,rfl⟩ rfl rfl rfl rfl rfl m1 func5 m2 m3 m4
  (λb c H a _ F=>by rw[OpenClaim.pre_eq_preRow];exact lifted b c H a F)
theorem slims_upto_card:Rows.SlimsUptoCardSaid :=
 Claim7.holds_tied_plain_at .later [] _ _ _ _ Gg (λ_ h=>by cases h) (by as_aux_lemma=>kernel_rfl) (λ_ h=>by cases h) slimsUpto_row_tie rfl ⟨rfl,rfl⟩ (by as_aux_lemma=>kernel_rfl) rfl plain (by as_aux_lemma=>kernel_rfl)
