import Derived.Test.YtfmmllpjgkgeaaaGreatDoorRows
import Derived.Test.YtfmmllpjgkgeaaaGreatDoorCards
import Derived.Test.YtfmmllpjgkgeaaaGreatDoorTie
import Derived.ProofKit
import Derived.OpenShut
import Derived.Deep.DeepHandedRow
import Derived.Carry
import Derived.Lay
import Derived.MakeChecks
import Derived.FnData
import Derived.LaidSub
import Derived.Shelf.Vars
import Derived.Lib.LaidTab
import Derived.ChangeSame
import Derived.WalkKit
set_option linter.unusedVariables false
set_option linter.unusedSimpArgs false
namespace Go.Proofs.YtfmmllpjgkgeaaaGreatDoor
open Go.ChangeShapes Go.WideShapes Go.ChangeAt Go.RowKit

noncomputable def startSpoilt (os:Os):World:=World.laidAll Tryz.prog os Rows.spoiltRow.laid
theorem startSpoilt_laid (os:Os):laidMetH Tryz.prog Rows.spoiltRow.laid ((startSpoilt os).forCall (fun _ _=>0) ⟨#[],#[.int .i64 0,.slice none 0 0,.slice none 0 0],[]⟩).memory:=by
 rw[MakeChecks.laidMetH_plain _ _ _ (by kernel_rfl)]
 exact laidMet_laidAll _ (by kernel_rfl) (by kernel_rfl)
theorem startSpoilt_shaped (os:Os):((startSpoilt os).forCall (fun _ _=>0) ⟨#[],#[.int .i64 0,.slice none 0 0,.slice none 0 0],[]⟩).Shaped Tryz.prog:=World.shaped_of_ZipB (by kernel_rfl) (by kernel_rfl)
theorem startSpoilt_reads (os:Os) {H:Type} (enc:TypeId × Value->H):∃ places,DataW.whole enc Tryz.prog ((startSpoilt os).forCall (fun _ _=>0) ⟨#[],#[.int .i64 0,.slice none 0 0,.slice none 0 0],[]⟩).memory Tryz.f10.params.toList Rows.spoiltSpec.vars false (#[Value.int .i64 0,.slice none 0 0,.slice none 0 0]:Array Value).toList 8=some ([.lit (.int .i64 0),.nil,.nil],[],places) :=
 ⟨[],by kernel_rfl⟩
theorem startSpoilt_ok (os:Os):Input.okWideB Tryz.prog ((startSpoilt os).forCall (fun _ _=>0) ⟨#[],#[.int .i64 0,.slice none 0 0,.slice none 0 0],[]⟩) 10 ⟨#[],#[.int .i64 0,.slice none 0 0,.slice none 0 0],[]⟩=true:=by kernel_rfl
theorem startSpoilt_small (os:Os) {H:Type} (enc:TypeId × Value->H):(Go.OpenSpec.ofChange Rows.spoiltSpec).bare.sizedB enc Tryz.prog Tryz.f10 false ((startSpoilt os).forCall (fun _ _=>0) ⟨#[],#[.int .i64 0,.slice none 0 0,.slice none 0 0],[]⟩).memory #[.int .i64 0,.slice none 0 0,.slice none 0 0] 8=true:=by kernel_rfl

set_option maxRecDepth 100000 in
theorem witnessSpoilt (os:Os) {H:Type} (enc:TypeId × Value->H) :
  ∃ (w:World) (tape:Tape) (i:Input),w.os=os/\(w.forCall tape i).Shaped Tryz.checked.prog/\i.vars=[]/\Input.okWide Tryz.checked.prog (w.forCall tape i) .any w.heap.size 10 i /\
   (Go.OpenSpec.ofChange Rows.spoiltSpec).preRow enc Tryz.checked.prog Tryz.f10 Rows.spoiltRow.domain false Rows.spoiltRow.laid (w.forCall tape i).memory i.args /\
   ({} : Assume).holds Tryz.checked.prog (lone (Frame.enter Tryz.checked.prog 10 i.args .normal) [] (w.forCall tape i)):=by
 obtain ⟨places,hx⟩:=startSpoilt_reads os enc
 refine ⟨startSpoilt os,fun _ _=>0,⟨#[],#[.int .i64 0,.slice none 0 0,.slice none 0 0],[]⟩,World.laidAll_os _ _ _,startSpoilt_shaped os,(Input.okWide_of_okWideB (base:=0) (startSpoilt_ok os)).1,(Input.okWide_of_okWideB (startSpoilt_ok os)).2,
  OpenSpec.preRow_of_cond 8 hx (by kernel_rfl) (fun k hk=>by cases hk) (startSpoilt_small os enc) (startSpoilt_laid os), ?_⟩
 simp only[Assume.holds]
 exact ⟨by simp,by simp,fun _=>Modest.zero,by simp,by simp⟩

theorem m1Spoilt:Tryz.pinned.checked.prog.funcNamed Rows.spoiltRow.func=some 10:=by kernel_rfl
theorem andTSpoilt {a b:Bool} (h:a=true) (h2:b=true):(a && b)=true:=by rw[h,h2];(first | done | rfl)
set_option maxHeartbeats 8000000 in
theorem m2Spoilt:joinedFacts Tryz.pinned.checked.prog 10 Tryz.f10 (Go.OpenSpec.ofChange Rows.spoiltSpec).bare Rows.spoiltRow=true:=by
 unfold joinedFacts
 repeat' (with_reducible refine andTSpoilt ?_ ?_)
 all_goals (as_aux_lemma=>kernel_rfl)
theorem m3Spoilt:Tryz.f10.isInstance Tryz.pinned.checked.prog Rows.spoiltRow.origin Rows.spoiltRow.targs:=of_decide_eq_true (by kernel_rfl)
theorem m4Spoilt:Tryz.f10.isWrapper Tryz.pinned.checked.prog Rows.spoiltRow.wrapper Rows.spoiltRow.mainSum:=by
 unfold Func.isWrapper;first | (rw[if_pos (by decide +kernel)];kernel_rfl) | (rw[if_neg (by decide +kernel)];exact ⟨rfl,rfl⟩)
theorem plainSpoilt (f:FuncId) (fn:Func) (hf:Tryz.pinned.checked.prog.funcNamed Rows.spoiltRow.func=some f) (hfn:Tryz.pinned.checked.prog.funcs[f]? = some fn) :
  true=Tryz.pinned.checked.prog.looks []/\∀ (j:Nat) t,fn.params[j]? = some t->Tryz.pinned.checked.prog.wantsStandIn t=false:=by
 obtain rfl:f=10:=Option.some.inj ((show Tryz.prog.funcNamed Rows.spoiltRow.func=some 10 by kernel_rfl).symm.trans hf) |>.symm
 obtain rfl:fn=Tryz.f10:=(Option.some.inj (Tryz.func10.symm.trans hfn)).symm
 refine ⟨by kernel_rfl,fun j t ht=>?_⟩
 rw[Tryz.params10] at ht
 have hm:=Array.mem_of_getElem? ht
 simp only[List.mem_toArray,List.mem_cons,List.not_mem_nil,or_false] at hm
 have w1:∀ t,t=3\/t=25\/t=42->Tryz.prog.wantsStandIn t=false:=by
  intro t ht
  rcases ht with rfl | rfl | rfl <;> kernel_rfl
 exact w1 t (by simpa using hm)
end Go.Proofs.YtfmmllpjgkgeaaaGreatDoor

