import Derived.Test.YtfmmllpjgkgeaaaGreatDoorCards
import Derived.Test.YtfmmllpjgkgeaaaGreatDoorTie
import Derived.ProofKit
import Derived.OpenShut
import Derived.Deep.DeepHandedRow
import Derived.Carry
import Derived.Lay
import Derived.MakeChecks
import Derived.FnData
import Derived.Shelf.Vars
import Derived.Lib.LaidTab
import Derived.ChangeSame
import Derived.WalkKit
set_option linter.unusedVariables false
set_option linter.unusedSimpArgs false
set_option maxHeartbeats 16000000
set_option maxRecDepth 100000
namespace Go.Proofs.YtfmmllpjgkgeaaaGreatDoor
open Go.ChangeShapes Go.WideShapes Go.ChangeAt Go.RowKit

noncomputable def startTorn (os:Os):World:=World.laidAll Tryz.prog os Rows.tornRow.laid
theorem startTorn_laid (os:Os):laidMetH Tryz.prog Rows.tornRow.laid ((startTorn os).forCall (fun _ _=>0) ⟨#[],#[.int .i64 0,.slice none 0 0,.int .i64 0,.int .i64 0,.int .i64 0,.int .i64 0],[]⟩).memory:=by
 rw[MakeChecks.laidMetH_plain _ _ _ (by kernel_rfl)]
 exact laidMet_laidAll _ (by kernel_rfl) (by kernel_rfl)
theorem startTorn_shaped (os:Os):((startTorn os).forCall (fun _ _=>0) ⟨#[],#[.int .i64 0,.slice none 0 0,.int .i64 0,.int .i64 0,.int .i64 0,.int .i64 0],[]⟩).Shaped Tryz.prog:=World.shaped_of_ZipB (by kernel_rfl) (by kernel_rfl)
theorem startTorn_reads (os:Os) {H:Type} (enc:TypeId × Value->H):∃ places,DataW.whole enc Tryz.prog ((startTorn os).forCall (fun _ _=>0) ⟨#[],#[.int .i64 0,.slice none 0 0,.int .i64 0,.int .i64 0,.int .i64 0,.int .i64 0],[]⟩).memory Tryz.f12.params.toList Rows.tornSpec.vars false (#[Value.int .i64 0,.slice none 0 0,.int .i64 0,.int .i64 0,.int .i64 0,.int .i64 0]:Array Value).toList 8=some ([.lit (.int .i64 0),.nil,.lit (.int .i64 0),.lit (.int .i64 0),.lit (.int .i64 0),.lit (.int .i64 0)],[],places) :=
 ⟨[],by kernel_rfl⟩
theorem startTorn_ok (os:Os):Input.okWideB Tryz.prog ((startTorn os).forCall (fun _ _=>0) ⟨#[],#[.int .i64 0,.slice none 0 0,.int .i64 0,.int .i64 0,.int .i64 0,.int .i64 0],[]⟩) 12 ⟨#[],#[.int .i64 0,.slice none 0 0,.int .i64 0,.int .i64 0,.int .i64 0,.int .i64 0],[]⟩=true:=by kernel_rfl
theorem startTorn_small (os:Os) {H:Type} (enc:TypeId × Value->H):(Go.OpenSpec.ofChange Rows.tornSpec).bare.sizedB enc Tryz.prog Tryz.f12 false ((startTorn os).forCall (fun _ _=>0) ⟨#[],#[.int .i64 0,.slice none 0 0,.int .i64 0,.int .i64 0,.int .i64 0,.int .i64 0],[]⟩).memory #[.int .i64 0,.slice none 0 0,.int .i64 0,.int .i64 0,.int .i64 0,.int .i64 0] 8=true:=by kernel_rfl

theorem witnessTorn (os:Os) {H:Type} (enc:TypeId × Value->H) :
  ∃ (w:World) (tape:Tape) (i:Input),w.os=os/\(w.forCall tape i).Shaped Tryz.checked.prog/\i.vars=[]/\Input.okWide Tryz.checked.prog (w.forCall tape i) .any w.heap.size 12 i /\
   (Go.OpenSpec.ofChange Rows.tornSpec).preRow enc Tryz.checked.prog Tryz.f12 Rows.tornRow.domain false Rows.tornRow.laid (w.forCall tape i).memory i.args /\
   ({} : Assume).holds Tryz.checked.prog (lone (Frame.enter Tryz.checked.prog 12 i.args .normal) [] (w.forCall tape i)):=by
 obtain ⟨places,hx⟩:=startTorn_reads os enc
 refine ⟨startTorn os,fun _ _=>0,⟨#[],#[.int .i64 0,.slice none 0 0,.int .i64 0,.int .i64 0,.int .i64 0,.int .i64 0],[]⟩,World.laidAll_os _ _ _,startTorn_shaped os,(Input.okWide_of_okWideB (base:=0) (startTorn_ok os)).1,(Input.okWide_of_okWideB (startTorn_ok os)).2,
  OpenSpec.preRow_of_cond 8 hx (by kernel_rfl) (fun k hk=>by cases hk) (startTorn_small os enc) (startTorn_laid os), ?_⟩
 simp only[Assume.holds]
 exact ⟨by simp,by simp,fun _=>Modest.zero,by simp,by simp⟩

theorem m1Torn:Tryz.pinned.checked.prog.funcNamed Rows.tornRow.func=some 12:=by kernel_rfl
theorem andTTorn {a b:Bool} (h:a=true) (h2:b=true):(a && b)=true:=by rw[h,h2];(first | done | rfl)
theorem m2Torn:joinedFacts Tryz.pinned.checked.prog 12 Tryz.f12 (Go.OpenSpec.ofChange Rows.tornSpec).bare Rows.tornRow=true:=by
 unfold joinedFacts
 repeat' (with_reducible refine andTTorn ?_ ?_)
 all_goals (as_aux_lemma=>kernel_rfl)
theorem m3Torn:Tryz.f12.isInstance Tryz.pinned.checked.prog Rows.tornRow.origin Rows.tornRow.targs:=of_decide_eq_true (by kernel_rfl)
theorem m4Torn:Tryz.f12.isWrapper Tryz.pinned.checked.prog Rows.tornRow.wrapper Rows.tornRow.mainSum:=by
 unfold Func.isWrapper;first | (rw[if_pos (by decide +kernel)];kernel_rfl) | (rw[if_neg (by decide +kernel)];exact ⟨rfl,rfl⟩)
theorem plainTorn (f:FuncId) (fn:Func) (hf:Tryz.pinned.checked.prog.funcNamed Rows.tornRow.func=some f) (hfn:Tryz.pinned.checked.prog.funcs[f]? = some fn) :
  true=Tryz.pinned.checked.prog.looks []/\∀ (j:Nat) t,fn.params[j]? = some t->Tryz.pinned.checked.prog.wantsStandIn t=false:=by
 obtain rfl:f=12:=Option.some.inj ((show Tryz.prog.funcNamed Rows.tornRow.func=some 12 by kernel_rfl).symm.trans hf) |>.symm
 obtain rfl:fn=Tryz.f12:=(Option.some.inj (Tryz.func12.symm.trans hfn)).symm
 refine ⟨by kernel_rfl,fun j t ht=>?_⟩
 rw[Tryz.params12] at ht
 have hm:=Array.mem_of_getElem? ht
 simp only[List.mem_toArray,List.mem_cons,List.not_mem_nil,or_false] at hm
 have w1:∀ t,t=3\/t=25\/t=3\/t=3\/t=3\/t=3->Tryz.prog.wantsStandIn t=false:=by
  intro t ht
  rcases ht with rfl | rfl | rfl | rfl | rfl | rfl <;> kernel_rfl
 exact w1 t (by simpa using hm)
end Go.Proofs.YtfmmllpjgkgeaaaGreatDoor

