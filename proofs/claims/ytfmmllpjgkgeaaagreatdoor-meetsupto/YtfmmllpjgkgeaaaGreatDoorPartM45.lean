import Derived.Test.YtfmmllpjgkgeaaaGreatDoorPartM44
set_option linter.unusedVariables false
set_option linter.unusedSimpArgs false
set_option maxHeartbeats 16000000
set_option maxRecDepth 100000
namespace Go.Proofs.YtfmmllpjgkgeaaaGreatDoor
open Go.Proofs.Tryz Go.ChangeShapes Go.WideShapes Go.ChangeAt Go.RowKit
noncomputable def start(os:Os):World:=World.laidAll prog os Rows.meetsUptoRow.laid
theorem Kz(os:Os):laidMetH prog Rows.meetsUptoRow.laid ((start os).forCall (λ_ _=>0) ⟨#[],#[.slice none 0 0],[]⟩).memory:=by rw[MakeChecks.laidMetH_plain _ _ _ (by kernel_rfl)];exact laidMet_laidAll _ (by kernel_rfl) (by kernel_rfl)
theorem Ew(os:Os):((start os).forCall (λ_ _=>0) ⟨#[],#[.slice none 0 0],[]⟩).Shaped prog:=World.shaped_of_ZipB (by kernel_rfl) (by kernel_rfl)
theorem Ig(os:Os){H:Type}(enc:TypeId×Value->H):∃places,DataW.whole enc prog ((start os).forCall (λ_ _=>0) ⟨#[],#[.slice none 0 0],[]⟩).memory Tryz.f4.params.toList Rows.meetsSpec.vars false #[Value.slice none 0 0].toList 8=some ([.nil],[],places) :=
 ⟨[],by kernel_rfl⟩
theorem Ih(os:Os):Input.okWideB prog ((start os).forCall (λ_ _=>0) ⟨#[],#[.slice none 0 0],[]⟩) 4 ⟨#[],#[.slice none 0 0],[]⟩=true:=by kernel_rfl
theorem Ii(os:Os){H:Type}(enc:TypeId×Value->H):(Rows.OpenSpec.upto Rows.meetsSpec).bare.sizedB enc prog Tryz.f4 false ((start os).forCall (λ_ _=>0) ⟨#[],#[.slice none 0 0],[]⟩).memory #[.slice none 0 0] 8=true:=by kernel_rfl
theorem witness(os:Os){H:Type}(enc:TypeId×Value->H):∃(w:World)(tape:Tape)(i:Input),w.os=os/\(w.forCall tape i).Shaped Tryz.checked.prog/\i.vars=[]/\Input.okWide Tryz.checked.prog (w.forCall tape i) .any w.heap.size 4 i /\ (Rows.OpenSpec.upto Rows.meetsSpec).preRow enc Tryz.checked.prog Tryz.f4 Rows.meetsUptoRow.domain false Rows.meetsUptoRow.laid (w.forCall tape i).memory i.args /\ ({}:Assume).holds Tryz.checked.prog (lone (Frame.enter Tryz.checked.prog 4 i.args .normal) [] (w.forCall tape i)):=by
 obtain⟨places,hx⟩:=Ig os enc;refine⟨start os,λ_ _=>0,⟨#[],#[.slice none 0 0],[]⟩,World.laidAll_os _ _ _,Ew os,(Input.okWide_of_okWideB (base:=0) (Ih os)).1,(Input.okWide_of_okWideB (Ih os)).2,
  OpenSpec.preRow_of_cond 8 hx (by kernel_rfl) (λk hk=>by cases hk;kernel_rfl) (Ii os enc) (Kz os), ?_⟩
 simp only[Assume.holds];exact⟨by simp,by simp,λ_=>Modest.zero,by simp,by simp⟩
