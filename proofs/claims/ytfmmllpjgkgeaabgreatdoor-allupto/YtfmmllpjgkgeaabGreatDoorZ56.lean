import Derived.Test.YtfmmllpjgkgeaabGreatDoorCards
import Derived.Test.YtfmmllpjgkgeaabGreatDoorTie
import Derived.Deep.DeepHandedRow
import Derived.Lay
import Derived.Test.YtfmmllpjgkgeaabGreatDoorZ50
set_option linter.all false
set_option maxHeartbeats 0
set_option maxRecDepth 100000
namespace Go.Proofs.YtfmmllpjgkgeaabGreatDoor
open Go.Proofs.Tryz Go.ChangeShapes Go.WideShapes Go.ChangeAt Go.RowKit
noncomputable def start(os:Os):World:=World.laidAll prog os Rows.allUptoRow.laid
def xC(a:Os):laidMetH prog Rows.allUptoRow.laid ((start a).forCall (λ_ _=>0) ⟨#[],#[.slice none 0 0],[]⟩).memory:=by rw[MakeChecks.laidMetH_plain _ _ _ (by kernel_rfl)];exact laidMet_laidAll _ (by kernel_rfl) (by kernel_rfl)
def qG(a:Os):((start a).forCall (λ_ _=>0) ⟨#[],#[.slice none 0 0],[]⟩).Shaped prog:=World.shaped_of_ZipB (by kernel_rfl) (by kernel_rfl)
def uG(b:Os){H:Type}(a:TypeId×Value->H):∃c,DataW.whole a prog ((start b).forCall (λ_ _=>0) ⟨#[],#[.slice none 0 0],[]⟩).memory Tryz.f4.params.toList Rows.allSpec.vars false #[Value.slice none 0 0].toList 8=some ([.nil],[],c) :=
 ⟨[],by kernel_rfl⟩
def uH(a:Os):Input.okWideB prog ((start a).forCall (λ_ _=>0) ⟨#[],#[.slice none 0 0],[]⟩) 4 ⟨#[],#[.slice none 0 0],[]⟩=true:=by kernel_rfl
def uI(b:Os){H:Type}(a:TypeId×Value->H):(Rows.OpenSpec.upto Rows.allSpec).bare.sizedB a prog Tryz.f4 false ((start b).forCall (λ_ _=>0) ⟨#[],#[.slice none 0 0],[]⟩).memory #[.slice none 0 0] 8=true:=by kernel_rfl
def witness(a:Os){H:Type}(c:TypeId×Value->H):∃(w:World)(b:Tape)(i:Input),w.os=a/\(w.forCall b i).Shaped Tryz.checked.prog/\i.vars=[]/\Input.okWide Tryz.checked.prog (w.forCall b i) .any w.heap.size 4 i /\ (Rows.OpenSpec.upto Rows.allSpec).preRow c Tryz.checked.prog Tryz.f4 Rows.allUptoRow.domain false Rows.allUptoRow.laid (w.forCall b i).memory i.args /\ ({}:Assume).holds Tryz.checked.prog (lone (Frame.enter Tryz.checked.prog 4 i.args .normal) [] (w.forCall b i)):=by
 obtain⟨f,e⟩:=uG a c;refine⟨start a,λ_ _=>0,⟨#[],#[.slice none 0 0],[]⟩,World.laidAll_os _ _ _,qG a,(Input.okWide_of_okWideB (base:=0) (uH a)).1,(Input.okWide_of_okWideB (uH a)).2,
  OpenSpec.preRow_of_cond 8 e (by kernel_rfl) (λk d=>by cases d;kernel_rfl) (uI a c) (xC a), ?_⟩
 simp only[Assume.holds];exact⟨Ω,Ω,λ_=>Modest.zero,Ω,Ω⟩
