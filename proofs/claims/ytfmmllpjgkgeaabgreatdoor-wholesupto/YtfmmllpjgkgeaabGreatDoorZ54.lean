import Derived.Test.YtfmmllpjgkgeaabGreatDoorCards
import Derived.Test.YtfmmllpjgkgeaabGreatDoorTie
import Derived.Deep.DeepHandedRow
import Derived.Lay
import Derived.Test.YtfmmllpjgkgeaabGreatDoorZ50
set_option linter.all false
set_option maxHeartbeats 0
set_option maxRecDepth 100000
namespace Go.Proofs.YtfmmllpjgkgeaabGreatDoor
open Go.ChangeShapes Go.WideShapes Go.ChangeAt Go.RowKit
def m1:Tryz.pinned.checked.prog.funcNamed Rows.wholesUptoRow.func=some 3:=by kernel_rfl
def ak9{a b:Bool}(h:a=true)(c:b=true):(a&&b)=true:=by rw[h,c];(first|done|rfl)
def m2:joinedFacts Tryz.pinned.checked.prog 3 Tryz.f3 (Rows.OpenSpec.upto Rows.wholesSpec).bare Rows.wholesUptoRow=true:=by
 unfold joinedFacts
 repeat' (with_reducible refine ak9 ?_ ?_)
 all_goals(as_aux_lemma=>kernel_rfl)
def m3:Tryz.f3.isInstance Tryz.pinned.checked.prog Rows.wholesUptoRow.origin Rows.wholesUptoRow.targs:=of_decide_eq_true (by kernel_rfl)
def m4:Tryz.f3.isWrapper Tryz.pinned.checked.prog Rows.wholesUptoRow.wrapper Rows.wholesUptoRow.mainSum:=by unfold Func.isWrapper;first|(rw[ώ (by decide +kernel)];kernel_rfl)|(rw[ύ (by decide +kernel)];exact⟨rfl,rfl⟩)
def plain(f:FuncId)(a:Func)(c:Tryz.pinned.checked.prog.funcNamed Rows.wholesUptoRow.func=some f)(d:Tryz.pinned.checked.prog.funcs[f]?=some a):true=Tryz.pinned.checked.prog.looks []/\∀(j:Nat)t,a.params[j]?=some t->Tryz.pinned.checked.prog.wantsStandIn t=false:=by
 obtain rfl:f=3:=Option.some.inj ((show Tryz.prog.funcNamed Rows.wholesUptoRow.func=some 3 by kernel_rfl).symm.trans c) |>.symm;obtain rfl:a=Tryz.f3:=(Option.some.inj (Tryz.func3.symm.trans d)).symm;refine⟨by kernel_rfl,λj t b=>?_⟩;rw[Tryz.params3]at b;obtain rfl:t=22:=by simpa using Array.mem_of_getElem? b
 exact(show Tryz.prog.wantsStandIn 22=false by kernel_rfl)
