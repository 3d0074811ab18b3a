import Derived.Test.YtfmmllpjgkgeaaaGreatDoorCards
import Derived.Test.YtfmmllpjgkgeaaaGreatDoorTie
import Derived.ProofKit
import Derived.OpenShut
import Derived.Deep.DeepHandedRow
import Derived.Carry
import Derived.Lay
import Derived.MakeChecks
import Derived.FnData
import Derived.Shelf.Vars
import Derived.Lib.LaidTab
import Derived.ChangeSame
import Derived.WalkKit
set_option linter.unusedVariables false
set_option linter.unusedSimpArgs false
set_option maxHeartbeats 16000000
set_option maxRecDepth 100000
namespace Go.Proofs.YtfmmllpjgkgeaaaGreatDoor
open Go.ChangeShapes Go.WideShapes Go.ChangeAt Go.RowKit

noncomputable def startSlim (os:Os):World:=World.laidAll Tryz.prog os Rows.slimRow.laid
theorem startSlim_laid (os:Os):laidMetH Tryz.prog Rows.slimRow.laid ((startSlim os).forCall (fun _ _=>0) ⟨#[],#[.int .i64 0,.slice none 0 0,.slice none 0 0],[]⟩).memory:=by
 rw[MakeChecks.laidMetH_plain _ _ _ (by kernel_rfl)]
 exact laidMet_laidAll _ (by kernel_rfl) (by kernel_rfl)
theorem startSlim_shaped (os:Os):((startSlim os).forCall (fun _ _=>0) ⟨#[],#[.int .i64 0,.slice none 0 0,.slice none 0 0],[]⟩).Shaped Tryz.prog:=World.shaped_of_ZipB (by kernel_rfl) (by kernel_rfl)
theorem startSlim_reads (os:Os) {H:Type} (enc:TypeId × Value->H):∃ places,DataW.whole enc Tryz.prog ((startSlim os).forCall (fun _ _=>0) ⟨#[],#[.int .i64 0,.slice none 0 0,.slice none 0 0],[]⟩).memory Tryz.f13.params.toList Rows.slimSpec.vars false (#[Value.int .i64 0,.slice none 0 0,.slice none 0 0]:Array Value).toList 8=some ([.lit (.int .i64 0),.nil,.nil],[],places) :=
 ⟨[],by kernel_rfl⟩
theorem startSlim_ok (os:Os):Input.okWideB Tryz.prog ((startSlim os).forCall (fun _ _=>0) ⟨#[],#[.int .i64 0,.slice none 0 0,.slice none 0 0],[]⟩) 13 ⟨#[],#[.int .i64 0,.slice none 0 0,.slice none 0 0],[]⟩=true:=by kernel_rfl
theorem startSlim_small (os:Os) {H:Type} (enc:TypeId × Value->H):(Go.OpenSpec.ofChange Rows.slimSpec).bare.sizedB enc Tryz.prog Tryz.f13 false ((startSlim os).forCall (fun _ _=>0) ⟨#[],#[.int .i64 0,.slice none 0 0,.slice none 0 0],[]⟩).memory #[.int .i64 0,.slice none 0 0,.slice none 0 0] 8=true:=by kernel_rfl

theorem witnessSlim (os:Os) {H:Type} (enc:TypeId × Value->H) :
  ∃ (w:World) (tape:Tape) (i:Input),w.os=os/\(w.forCall tape i).Shaped Tryz.checked.prog/\i.vars=[]/\Input.okWide Tryz.checked.prog (w.forCall tape i) .any w.heap.size 13 i /\
   (Go.OpenSpec.ofChange Rows.slimSpec).preRow enc Tryz.checked.prog Tryz.f13 Rows.slimRow.domain false Rows.slimRow.laid (w.forCall tape i).memory i.args /\
   ({} : Assume).holds Tryz.checked.prog (lone (Frame.enter Tryz.checked.prog 13 i.args .normal) [] (w.forCall tape i)):=by
 obtain ⟨places,hx⟩:=startSlim_reads os enc
 refine ⟨startSlim os,fun _ _=>0,⟨#[],#[.int .i64 0,.slice none 0 0,.slice none 0 0],[]⟩,World.laidAll_os _ _ _,startSlim_shaped os,(Input.okWide_of_okWideB (base:=0) (startSlim_ok os)).1,(Input.okWide_of_okWideB (startSlim_ok os)).2,
  OpenSpec.preRow_of_cond 8 hx (by kernel_rfl) (fun k hk=>by cases hk) (startSlim_small os enc) (startSlim_laid os), ?_⟩
 simp only[Assume.holds]
 exact ⟨by simp,by simp,fun _=>Modest.zero,by simp,by simp⟩

theorem m1Slim:Tryz.pinned.checked.prog.funcNamed Rows.slimRow.func=some 13:=by kernel_rfl
theorem andTSlim {a b:Bool} (h:a=true) (h2:b=true):(a && b)=true:=by rw[h,h2];(first | done | rfl)
theorem m2Slim:joinedFacts Tryz.pinned.checked.prog 13 Tryz.f13 (Go.OpenSpec.ofChange Rows.slimSpec).bare Rows.slimRow=true:=by
 unfold joinedFacts
 repeat' (with_reducible refine andTSlim ?_ ?_)
 all_goals (as_aux_lemma=>kernel_rfl)
theorem m3Slim:Tryz.f13.isInstance Tryz.pinned.checked.prog Rows.slimRow.origin Rows.slimRow.targs:=of_decide_eq_true (by kernel_rfl)
theorem m4Slim:Tryz.f13.isWrapper Tryz.pinned.checked.prog Rows.slimRow.wrapper Rows.slimRow.mainSum:=by
 unfold Func.isWrapper;first | (rw[if_pos (by decide +kernel)];kernel_rfl) | (rw[if_neg (by decide +kernel)];exact ⟨rfl,rfl⟩)
theorem plainSlim (f:FuncId) (fn:Func) (hf:Tryz.pinned.checked.prog.funcNamed Rows.slimRow.func=some f) (hfn:Tryz.pinned.checked.prog.funcs[f]? = some fn) :
  true=Tryz.pinned.checked.prog.looks []/\∀ (j:Nat) t,fn.params[j]? = some t->Tryz.pinned.checked.prog.wantsStandIn t=false:=by
 obtain rfl:f=13:=Option.some.inj ((show Tryz.prog.funcNamed Rows.slimRow.func=some 13 by kernel_rfl).symm.trans hf) |>.symm
 obtain rfl:fn=Tryz.f13:=(Option.some.inj (Tryz.func13.symm.trans hfn)).symm
 refine ⟨by kernel_rfl,fun j t ht=>?_⟩
 rw[Tryz.params13] at ht
 have hm:=Array.mem_of_getElem? ht
 simp only[List.mem_toArray,List.mem_cons,List.not_mem_nil,or_false] at hm
 have w1:∀ t,t=3\/t=25->Tryz.prog.wantsStandIn t=false:=by
  intro t ht
  rcases ht with rfl | rfl <;> kernel_rfl
 exact w1 t (by simpa using hm)
end Go.Proofs.YtfmmllpjgkgeaaaGreatDoor

