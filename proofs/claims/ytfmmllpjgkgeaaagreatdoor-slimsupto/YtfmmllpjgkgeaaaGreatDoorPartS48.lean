import Derived.Test.YtfmmllpjgkgeaaaGreatDoorPartS47
set_option linter.unusedVariables false
set_option linter.unusedSimpArgs false
set_option maxHeartbeats 16000000
set_option maxRecDepth 100000
namespace Go.Proofs.YtfmmllpjgkgeaaaGreatDoor
open Go.Proofs.Tryz Go.ChangeShapes Go.WideShapes Go.ChangeAt Go.RowKit
noncomputable def start(os:Os):World:=World.laidAll prog os Rows.slimsUptoRow.laid
theorem Gf(a:Os):laidMetH prog Rows.slimsUptoRow.laid ((start a).forCall (λ_ _=>0) ⟨#[],#[.slice none 0 0],[]⟩).memory:=by rw[MakeChecks.laidMetH_plain _ _ _ (by kernel_rfl)];exact laidMet_laidAll _ (by kernel_rfl) (by kernel_rfl)
theorem Ai(a:Os):((start a).forCall (λ_ _=>0) ⟨#[],#[.slice none 0 0],[]⟩).Shaped prog:=World.shaped_of_ZipB (by kernel_rfl) (by kernel_rfl)
theorem DX(b:Os){H:Type}(a:TypeId×Value->H):∃c,DataW.whole a prog ((start b).forCall (λ_ _=>0) ⟨#[],#[.slice none 0 0],[]⟩).memory Tryz.f5.params.toList Rows.slimsSpec.vars false #[Value.slice none 0 0].toList 8=some ([.nil],[],c) :=
 ⟨[],by kernel_rfl⟩
theorem DY(a:Os):Input.okWideB prog ((start a).forCall (λ_ _=>0) ⟨#[],#[.slice none 0 0],[]⟩) 5 ⟨#[],#[.slice none 0 0],[]⟩=true:=by kernel_rfl
theorem DZ(b:Os){H:Type}(a:TypeId×Value->H):(Rows.OpenSpec.upto Rows.slimsSpec).bare.sizedB a prog Tryz.f5 false ((start b).forCall (λ_ _=>0) ⟨#[],#[.slice none 0 0],[]⟩).memory #[.slice none 0 0] 8=true:=by kernel_rfl
theorem witness(a:Os){H:Type}(c:TypeId×Value->H):∃(w:World)(b:Tape)(i:Input),w.os=a/\(w.forCall b i).Shaped Tryz.checked.prog/\i.vars=[]/\Input.okWide Tryz.checked.prog (w.forCall b i) .any w.heap.size 5 i /\ (Rows.OpenSpec.upto Rows.slimsSpec).preRow c Tryz.checked.prog Tryz.f5 Rows.slimsUptoRow.domain false Rows.slimsUptoRow.laid (w.forCall b i).memory i.args /\ ({}:Assume).holds Tryz.checked.prog (lone (Frame.enter Tryz.checked.prog 5 i.args .normal) [] (w.forCall b i)):=by
 obtain⟨f,e⟩:=DX a c;refine⟨start a,λ_ _=>0,⟨#[],#[.slice none 0 0],[]⟩,World.laidAll_os _ _ _,Ai a,(Input.okWide_of_okWideB (base:=0) (DY a)).1,(Input.okWide_of_okWideB (DY a)).2,
  OpenSpec.preRow_of_cond 8 e (by kernel_rfl) (λk d=>by cases d;kernel_rfl) (DZ a c) (Gf a), ?_⟩
 simp only[Assume.holds];exact⟨Ω,Ω,λ_=>Modest.zero,Ω,Ω⟩
