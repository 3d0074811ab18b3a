import Derived.Test.YtfmmllpjgkgeaaaGreatDoorPartM44
set_option linter.unusedVariables false
set_option linter.unusedSimpArgs false
set_option maxHeartbeats 16000000
set_option maxRecDepth 100000
namespace Go.Proofs.YtfmmllpjgkgeaaaGreatDoor
open Go.ChangeShapes Go.WideShapes Go.ChangeAt Go.RowKit
theorem m1:Tryz.pinned.checked.prog.funcNamed Rows.meetsUptoRow.func=some 4:=by kernel_rfl
theorem aj2{a b:Bool}(h:a=true)(h2:b=true):(a&&b)=true:=by rw[h,h2];(first|done|rfl)
theorem m2:joinedFacts Tryz.pinned.checked.prog 4 Tryz.f4 (Rows.OpenSpec.upto Rows.meetsSpec).bare Rows.meetsUptoRow=true:=by
 unfold joinedFacts
 repeat' (with_reducible refine aj2 ?_ ?_)
 all_goals(as_aux_lemma=>kernel_rfl)
theorem m3:Tryz.f4.isInstance Tryz.pinned.checked.prog Rows.meetsUptoRow.origin Rows.meetsUptoRow.targs:=of_decide_eq_true (by kernel_rfl)
theorem m4:Tryz.f4.isWrapper Tryz.pinned.checked.prog Rows.meetsUptoRow.wrapper Rows.meetsUptoRow.mainSum:=by unfold Func.isWrapper;first|(rw[if_pos (by decide +kernel)];kernel_rfl)|(rw[if_neg (by decide +kernel)];exact⟨rfl,rfl⟩)
theorem plain(f:FuncId)(fn:Func)(hf:Tryz.pinned.checked.prog.funcNamed Rows.meetsUptoRow.func=some f)(hfn:Tryz.pinned.checked.prog.funcs[f]?=some fn):true=Tryz.pinned.checked.prog.looks []/\∀(j:Nat)t,fn.params[j]?=some t->Tryz.pinned.checked.prog.wantsStandIn t=false:=by
 obtain rfl:f=4:=Option.some.inj ((show Tryz.prog.funcNamed Rows.meetsUptoRow.func=some 4 by kernel_rfl).symm.trans hf) |>.symm;obtain rfl:fn=Tryz.f4:=(Option.some.inj (Tryz.func4.symm.trans hfn)).symm;refine⟨by kernel_rfl,λj t ht=>?_⟩;rw[Tryz.params4]at ht;obtain rfl:t=22:=by simpa using Array.mem_of_getElem? ht
 exact(show Tryz.prog.wantsStandIn 22=false by kernel_rfl)
