import Derived.Test.YtfmmllpjgkgeaaaGreatDoorRows
import Derived.Test.YtfmmllpjgkgeaaaGreatDoorCards
import Derived.Test.YtfmmllpjgkgeaaaGreatDoorTie
import Derived.ProofKit
import Derived.OpenShut
import Derived.Deep.DeepHandedRow
import Derived.Carry
import Derived.Lay
import Derived.MakeChecks
import Derived.FnData
import Derived.LaidSub
import Derived.Shelf.Vars
import Derived.Lib.LaidTab
import Derived.ChangeSame
import Derived.WalkKit
set_option linter.unusedVariables false
set_option linter.unusedSimpArgs false
namespace Go.Proofs.YtfmmllpjgkgeaaaGreatDoor
open Go.ChangeShapes Go.WideShapes Go.ChangeAt Go.RowKit

noncomputable def startAgain (os:Os):World:=World.laidAll Tryz.prog os Rows.againRow.laid
theorem startAgain_laid (os:Os):laidMetH Tryz.prog Rows.againRow.laid ((startAgain os).forCall (fun _ _=>0) ⟨#[],#[.int .i64 0,.int .i64 0,.slice none 0 0,.slice none 0 0],[]⟩).memory:=by
 rw[MakeChecks.laidMetH_plain _ _ _ (by kernel_rfl)]
 exact laidMet_laidAll _ (by kernel_rfl) (by kernel_rfl)
theorem startAgain_shaped (os:Os):((startAgain os).forCall (fun _ _=>0) ⟨#[],#[.int .i64 0,.int .i64 0,.slice none 0 0,.slice none 0 0],[]⟩).Shaped Tryz.prog:=World.shaped_of_ZipB (by kernel_rfl) (by kernel_rfl)
theorem startAgain_reads (os:Os) {H:Type} (enc:TypeId × Value->H):∃ places,DataW.whole enc Tryz.prog ((startAgain os).forCall (fun _ _=>0) ⟨#[],#[.int .i64 0,.int .i64 0,.slice none 0 0,.slice none 0 0],[]⟩).memory Tryz.f11.params.toList Rows.againSpec.vars false (#[Value.int .i64 0,.int .i64 0,.slice none 0 0,.slice none 0 0]:Array Value).toList 8=some ([.lit (.int .i64 0),.lit (.int .i64 0),.nil,.nil],[],places) :=
 ⟨[],by kernel_rfl⟩
theorem startAgain_ok (os:Os):Input.okWideB Tryz.prog ((startAgain os).forCall (fun _ _=>0) ⟨#[],#[.int .i64 0,.int .i64 0,.slice none 0 0,.slice none 0 0],[]⟩) 11 ⟨#[],#[.int .i64 0,.int .i64 0,.slice none 0 0,.slice none 0 0],[]⟩=true:=by kernel_rfl
theorem startAgain_small (os:Os) {H:Type} (enc:TypeId × Value->H):(Go.OpenSpec.ofChange Rows.againSpec).bare.sizedB enc Tryz.prog Tryz.f11 false ((startAgain os).forCall (fun _ _=>0) ⟨#[],#[.int .i64 0,.int .i64 0,.slice none 0 0,.slice none 0 0],[]⟩).memory #[.int .i64 0,.int .i64 0,.slice none 0 0,.slice none 0 0] 8=true:=by kernel_rfl

set_option maxRecDepth 100000 in
theorem witnessAgain (os:Os) {H:Type} (enc:TypeId × Value->H) :
  ∃ (w:World) (tape:Tape) (i:Input),w.os=os/\(w.forCall tape i).Shaped Tryz.checked.prog/\i.vars=[]/\Input.okWide Tryz.checked.prog (w.forCall tape i) .any w.heap.size 11 i /\
   (Go.OpenSpec.ofChange Rows.againSpec).preRow enc Tryz.checked.prog Tryz.f11 Rows.againRow.domain false Rows.againRow.laid (w.forCall tape i).memory i.args /\
   ({} : Assume).holds Tryz.checked.prog (lone (Frame.enter Tryz.checked.prog 11 i.args .normal) [] (w.forCall tape i)):=by
 obtain ⟨places,hx⟩:=startAgain_reads os enc
 refine ⟨startAgain os,fun _ _=>0,⟨#[],#[.int .i64 0,.int .i64 0,.slice none 0 0,.slice none 0 0],[]⟩,World.laidAll_os _ _ _,startAgain_shaped os,(Input.okWide_of_okWideB (base:=0) (startAgain_ok os)).1,(Input.okWide_of_okWideB (startAgain_ok os)).2,
  OpenSpec.preRow_of_cond 8 hx (by kernel_rfl) (fun k hk=>by cases hk) (startAgain_small os enc) (startAgain_laid os), ?_⟩
 simp only[Assume.holds]
 exact ⟨by simp,by simp,fun _=>Modest.zero,by simp,by simp⟩

theorem m1Again:Tryz.pinned.checked.prog.funcNamed Rows.againRow.func=some 11:=by kernel_rfl
theorem andTAgain {a b:Bool} (h:a=true) (h2:b=true):(a && b)=true:=by rw[h,h2];(first | done | rfl)
set_option maxHeartbeats 8000000 in
theorem m2Again:joinedFacts Tryz.pinned.checked.prog 11 Tryz.f11 (Go.OpenSpec.ofChange Rows.againSpec).bare Rows.againRow=true:=by
 unfold joinedFacts
 repeat' (with_reducible refine andTAgain ?_ ?_)
 all_goals (as_aux_lemma=>kernel_rfl)
theorem m3Again:Tryz.f11.isInstance Tryz.pinned.checked.prog Rows.againRow.origin Rows.againRow.targs:=of_decide_eq_true (by kernel_rfl)
theorem m4Again:Tryz.f11.isWrapper Tryz.pinned.checked.prog Rows.againRow.wrapper Rows.againRow.mainSum:=by
 unfold Func.isWrapper;first | (rw[if_pos (by decide +kernel)];kernel_rfl) | (rw[if_neg (by decide +kernel)];exact ⟨rfl,rfl⟩)
theorem plainAgain (f:FuncId) (fn:Func) (hf:Tryz.pinned.checked.prog.funcNamed Rows.againRow.func=some f) (hfn:Tryz.pinned.checked.prog.funcs[f]? = some fn) :
  true=Tryz.pinned.checked.prog.looks []/\∀ (j:Nat) t,fn.params[j]? = some t->Tryz.pinned.checked.prog.wantsStandIn t=false:=by
 obtain rfl:f=11:=Option.some.inj ((show Tryz.prog.funcNamed Rows.againRow.func=some 11 by kernel_rfl).symm.trans hf) |>.symm
 obtain rfl:fn=Tryz.f11:=(Option.some.inj (Tryz.func11.symm.trans hfn)).symm
 refine ⟨by kernel_rfl,fun j t ht=>?_⟩
 rw[Tryz.params11] at ht
 have hm:=Array.mem_of_getElem? ht
 simp only[List.mem_toArray,List.mem_cons,List.not_mem_nil,or_false] at hm
 have w1:∀ t,t=3\/t=3\/t=25\/t=42->Tryz.prog.wantsStandIn t=false:=by
  intro t ht
  rcases ht with rfl | rfl | rfl | rfl <;> kernel_rfl
 exact w1 t (by simpa using hm)
end Go.Proofs.YtfmmllpjgkgeaaaGreatDoor

