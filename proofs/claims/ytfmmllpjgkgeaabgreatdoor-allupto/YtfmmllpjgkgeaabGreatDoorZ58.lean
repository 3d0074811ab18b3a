import Derived.Test.YtfmmllpjgkgeaabGreatDoorZ52
import Derived.Test.YtfmmllpjgkgeaabGreatDoorZ56
import Derived.Test.YtfmmllpjgkgeaabGreatDoorZ57
set_option linter.all false
set_option maxHeartbeats 0
set_option maxRecDepth 100000
namespace Go.Proofs.YtfmmllpjgkgeaabGreatDoor
open Go.Proofs.Tryz Go.ChangeShapes Go.WideShapes Go.ChangeAt Go.RowKit Go.Deep
def lifted(b:Os)(m:b.Started)(H:Type)(a:TypeId×Value->H)(F:Stop.Interp):ReturnsInHanded {} Tryz.checked b 4 .any ((Rows.OpenSpec.upto Rows.allSpec).preRow a prog Tryz.f4 Rows.allUptoRow.domain false Rows.allUptoRow.laid) (((Rows.OpenSpec.upto Rows.allSpec).at F).post a prog Tryz.f4 false true false false):=by refine returnsInHanded_of_row (C:=Tryz.checked) (s:=Rows.OpenSpec.upto Rows.allSpec) own m (by kernel_rfl) func4 (witness b a) ?_;intro W d c f g e l j _ k _ h i _;exact contract H a W c d f g e l j (k _ rfl) h i
def YQ:Rows.AllUptoSaid :=
 OpenClaim.holds_of_cond 4 Tryz.f4 rfl rfl rfl rfl rfl rfl rfl ⟨rfl,rfl,rfl,rfl,rfl⟩ rfl rfl rfl rfl rfl m1 func4 m2 m3 m4
  (λb c H a _ F=>by rw[OpenClaim.pre_eq_preRow];exact lifted b c H a F)
theorem all_upto_card:Rows.AllUptoCardSaid :=
 Claim7.holds_tied_plain_at .later [] _ _ _ _ YQ (λ_ h=>by cases h) (by as_aux_lemma=>kernel_rfl) (λ_ h=>by cases h) allUpto_row_tie rfl ⟨rfl,rfl⟩ (by as_aux_lemma=>kernel_rfl) rfl plain (by as_aux_lemma=>kernel_rfl)
