import Derived.Test.YtfmmllpjgkgeaabGreatDoorZ51
import Derived.Test.YtfmmllpjgkgeaabGreatDoorZ53
import Derived.Test.YtfmmllpjgkgeaabGreatDoorZ54
set_option linter.all false
set_option maxHeartbeats 0
set_option maxRecDepth 100000
namespace Go.Proofs.YtfmmllpjgkgeaabGreatDoor
open Go.Proofs.Tryz Go.ChangeShapes Go.WideShapes Go.ChangeAt Go.RowKit Go.Deep
def lifted(b:Os)(m:b.Started)(H:Type)(a:TypeId×Value->H)(F:Stop.Interp):ReturnsInHanded {} Tryz.checked b 3 .any ((Rows.OpenSpec.upto Rows.wholesSpec).preRow a prog Tryz.f3 Rows.wholesUptoRow.domain false Rows.wholesUptoRow.laid) (((Rows.OpenSpec.upto Rows.wholesSpec).at F).post a prog Tryz.f3 false true false false):=by refine returnsInHanded_of_row (C:=Tryz.checked) (s:=Rows.OpenSpec.upto Rows.wholesSpec) own m (by kernel_rfl) func3 (witness b a) ?_;intro W d c f g e l j _ k _ h i _;exact contract H a W c d f g e l j (k _ rfl) h i
def NI:Rows.WholesUptoSaid :=
 OpenClaim.holds_of_cond 3 Tryz.f3 rfl rfl rfl rfl rfl rfl rfl ⟨rfl,rfl,rfl,rfl,rfl⟩ rfl rfl rfl rfl rfl m1 func3 m2 m3 m4
  (λb c H a _ F=>by rw[OpenClaim.pre_eq_preRow];exact lifted b c H a F)
theorem wholes_upto_card:Rows.WholesUptoCardSaid :=
 Claim7.holds_tied_plain_at .later [] _ _ _ _ NI (λ_ h=>by cases h) (by as_aux_lemma=>kernel_rfl) (λ_ h=>by cases h) wholesUpto_row_tie rfl ⟨rfl,rfl⟩ (by as_aux_lemma=>kernel_rfl) rfl plain (by as_aux_lemma=>kernel_rfl)
