import Derived.Test.YtfmmllpjgkgeaaaGreatDoorPartS47
set_option linter.unusedVariables false
set_option linter.unusedSimpArgs false
set_option maxHeartbeats 16000000
set_option maxRecDepth 100000
namespace Go.Proofs.YtfmmllpjgkgeaaaGreatDoor
open Go.ChangeShapes Go.WideShapes Go.ChangeAt Go.RowKit
theorem m1:Tryz.pinned.checked.prog.funcNamed Rows.slimsUptoRow.func=some 5:=by kernel_rfl
theorem ac2{a b:Bool}(h:a=true)(c:b=true):(a&&b)=true:=by rw[h,c];(first|done|rfl)
theorem m2:joinedFacts Tryz.pinned.checked.prog 5 Tryz.f5 (Rows.OpenSpec.upto Rows.slimsSpec).bare Rows.slimsUptoRow=true:=by
 unfold joinedFacts
 repeat' (with_reducible refine ac2 ?_ ?_)
 all_goals(as_aux_lemma=>kernel_rfl)
theorem m3:Tryz.f5.isInstance Tryz.pinned.checked.prog Rows.slimsUptoRow.origin Rows.slimsUptoRow.targs:=of_decide_eq_true (by kernel_rfl)
theorem m4:Tryz.f5.isWrapper Tryz.pinned.checked.prog Rows.slimsUptoRow.wrapper Rows.slimsUptoRow.mainSum:=by unfold Func.isWrapper;first|(rw[ώ (by decide +kernel)];kernel_rfl)|(rw[ύ (by decide +kernel)];exact⟨rfl,rfl⟩)
theorem plain(f:FuncId)(a:Func)(c:Tryz.pinned.checked.prog.funcNamed Rows.slimsUptoRow.func=some f)(d:Tryz.pinned.checked.prog.funcs[f]?=some a):true=Tryz.pinned.checked.prog.looks []/\∀(j:Nat)t,a.params[j]?=some t->Tryz.pinned.checked.prog.wantsStandIn t=false:=by
 obtain rfl:f=5:=Option.some.inj ((show Tryz.prog.funcNamed Rows.slimsUptoRow.func=some 5 by kernel_rfl).symm.trans c) |>.symm;obtain rfl:a=Tryz.f5:=(Option.some.inj (Tryz.func5.symm.trans d)).symm;refine⟨by kernel_rfl,λj t b=>?_⟩;rw[Tryz.params5]at b;obtain rfl:t=22:=by simpa using Array.mem_of_getElem? b
 exact(show Tryz.prog.wantsStandIn 22=false by kernel_rfl)
