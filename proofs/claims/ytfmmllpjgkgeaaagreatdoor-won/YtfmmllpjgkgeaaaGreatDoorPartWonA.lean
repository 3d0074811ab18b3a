import Derived.Test.YtfmmllpjgkgeaaaGreatDoorCards
import Derived.Test.YtfmmllpjgkgeaaaGreatDoorTie
import Derived.ProofKit
import Derived.OpenShut
import Derived.Deep.DeepHandedRow
import Derived.Carry
import Derived.Lay
import Derived.MakeChecks
import Derived.FnData
import Derived.Shelf.Vars
import Derived.Lib.LaidTab
import Derived.ChangeSame
import Derived.WalkKit
set_option linter.unusedVariables false
set_option linter.unusedSimpArgs false
set_option maxHeartbeats 16000000
set_option maxRecDepth 100000
namespace Go.Proofs.YtfmmllpjgkgeaaaGreatDoor
open Go.ChangeShapes Go.WideShapes Go.ChangeAt Go.RowKit

noncomputable def startWon (os:Os):World:=World.laidAll Tryz.prog os Rows.wonRow.laid
theorem startWon_laid (os:Os):laidMetH Tryz.prog Rows.wonRow.laid ((startWon os).forCall (fun _ _=>0) ⟨#[],#[.int .i64 0,.slice none 0 0,.bool false],[]⟩).memory:=by
 rw[MakeChecks.laidMetH_plain _ _ _ (by kernel_rfl)]
 exact laidMet_laidAll _ (by kernel_rfl) (by kernel_rfl)
theorem startWon_shaped (os:Os):((startWon os).forCall (fun _ _=>0) ⟨#[],#[.int .i64 0,.slice none 0 0,.bool false],[]⟩).Shaped Tryz.prog:=World.shaped_of_ZipB (by kernel_rfl) (by kernel_rfl)
theorem startWon_reads (os:Os) {H:Type} (enc:TypeId × Value->H):∃ places,DataW.whole enc Tryz.prog ((startWon os).forCall (fun _ _=>0) ⟨#[],#[.int .i64 0,.slice none 0 0,.bool false],[]⟩).memory Tryz.f8.params.toList Rows.wonSpec.vars false (#[Value.int .i64 0,.slice none 0 0,.bool false]:Array Value).toList 8=some ([.lit (.int .i64 0),.nil,.lit (.bool false)],[],places) :=
 ⟨[],by kernel_rfl⟩
theorem startWon_ok (os:Os):Input.okWideB Tryz.prog ((startWon os).forCall (fun _ _=>0) ⟨#[],#[.int .i64 0,.slice none 0 0,.bool false],[]⟩) 8 ⟨#[],#[.int .i64 0,.slice none 0 0,.bool false],[]⟩=true:=by kernel_rfl
theorem startWon_small (os:Os) {H:Type} (enc:TypeId × Value->H):(Go.OpenSpec.ofChange Rows.wonSpec).bare.sizedB enc Tryz.prog Tryz.f8 false ((startWon os).forCall (fun _ _=>0) ⟨#[],#[.int .i64 0,.slice none 0 0,.bool false],[]⟩).memory #[.int .i64 0,.slice none 0 0,.bool false] 8=true:=by kernel_rfl

theorem witnessWon (os:Os) {H:Type} (enc:TypeId × Value->H) :
  ∃ (w:World) (tape:Tape) (i:Input),w.os=os/\(w.forCall tape i).Shaped Tryz.checked.prog/\i.vars=[]/\Input.okWide Tryz.checked.prog (w.forCall tape i) .any w.heap.size 8 i /\
   (Go.OpenSpec.ofChange Rows.wonSpec).preRow enc Tryz.checked.prog Tryz.f8 Rows.wonRow.domain false Rows.wonRow.laid (w.forCall tape i).memory i.args /\
   ({} : Assume).holds Tryz.checked.prog (lone (Frame.enter Tryz.checked.prog 8 i.args .normal) [] (w.forCall tape i)):=by
 obtain ⟨places,hx⟩:=startWon_reads os enc
 refine ⟨startWon os,fun _ _=>0,⟨#[],#[.int .i64 0,.slice none 0 0,.bool false],[]⟩,World.laidAll_os _ _ _,startWon_shaped os,(Input.okWide_of_okWideB (base:=0) (startWon_ok os)).1,(Input.okWide_of_okWideB (startWon_ok os)).2,
  OpenSpec.preRow_of_cond 8 hx (by kernel_rfl) (fun k hk=>by cases hk) (startWon_small os enc) (startWon_laid os), ?_⟩
 simp only[Assume.holds]
 exact ⟨by simp,by simp,fun _=>Modest.zero,by simp,by simp⟩

theorem m1Won:Tryz.pinned.checked.prog.funcNamed Rows.wonRow.func=some 8:=by kernel_rfl
theorem andTWon {a b:Bool} (h:a=true) (h2:b=true):(a && b)=true:=by rw[h,h2];(first | done | rfl)
theorem m2Won:joinedFacts Tryz.pinned.checked.prog 8 Tryz.f8 (Go.OpenSpec.ofChange Rows.wonSpec).bare Rows.wonRow=true:=by
 unfold joinedFacts
 repeat' (with_reducible refine andTWon ?_ ?_)
 all_goals (as_aux_lemma=>kernel_rfl)
theorem m3Won:Tryz.f8.isInstance Tryz.pinned.checked.prog Rows.wonRow.origin Rows.wonRow.targs:=of_decide_eq_true (by kernel_rfl)
theorem m4Won:Tryz.f8.isWrapper Tryz.pinned.checked.prog Rows.wonRow.wrapper Rows.wonRow.mainSum:=by
 unfold Func.isWrapper;first | (rw[if_pos (by decide +kernel)];kernel_rfl) | (rw[if_neg (by decide +kernel)];exact ⟨rfl,rfl⟩)
theorem plainWon (f:FuncId) (fn:Func) (hf:Tryz.pinned.checked.prog.funcNamed Rows.wonRow.func=some f) (hfn:Tryz.pinned.checked.prog.funcs[f]? = some fn) :
  true=Tryz.pinned.checked.prog.looks []/\∀ (j:Nat) t,fn.params[j]? = some t->Tryz.pinned.checked.prog.wantsStandIn t=false:=by
 obtain rfl:f=8:=Option.some.inj ((show Tryz.prog.funcNamed Rows.wonRow.func=some 8 by kernel_rfl).symm.trans hf) |>.symm
 obtain rfl:fn=Tryz.f8:=(Option.some.inj (Tryz.func8.symm.trans hfn)).symm
 refine ⟨by kernel_rfl,fun j t ht=>?_⟩
 rw[Tryz.params8] at ht
 have hm:=Array.mem_of_getElem? ht
 simp only[List.mem_toArray,List.mem_cons,List.not_mem_nil,or_false] at hm
 have w1:∀ t,t=3\/t=25\/t=4->Tryz.prog.wantsStandIn t=false:=by
  intro t ht
  rcases ht with rfl | rfl | rfl <;> kernel_rfl
 exact w1 t (by simpa using hm)
end Go.Proofs.YtfmmllpjgkgeaaaGreatDoor

